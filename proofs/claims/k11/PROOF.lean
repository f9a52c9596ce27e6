import PyProof.Rows.All
import Wide.All
import Wide.FinOn
import OpenK.XOpen
import OpenK.KWalk
import OpenK.KMake
import OpenK.KOwn
import OpenK.KRaiseN
import OpenK.Peek
import OpenK.KCall
import OpenK.KGet
import KE.KIsAll
import KE.KBytesAny
import KE.BytesK
import KE.KxBytes
import KE.KDictOf
import KE.KItem
import Lean
import PyProof.EqAt
import PyProof.EqKinds
import PyProof.TupleCall
import KE.KLam
import KE.KMinKey
import KE.KDictList
import KE.KRevIter
import PyProof.WalksMore
import PyProof.Rows.SetFrom
import KE.KSortTup
import KE.KDictSum
import PyProof.DictUpdate
import Open.Tops
import PySem.Challenge.RW_heraldways_k11_deeds_refused
set_option Elab.async false
set_option linter.all false
set_option maxRecDepth 100000
abbrev F0:=PySem.W.Frag
abbrev L0:=List (PySem.Addr×PySem.Obj)
abbrev L1:=PySem.Value->PySem.Shared->Prop
abbrev L3:=List (Int×Int)
local macro_rules|`(tactic|ac_rfl)=>`(tactic|(constructor<;>first|rfl|decide +kernel))
local macro_rules|`(command|def $i:declId $s:optDeclSig $v:declVal)=>`(command|noncomputable def $i:declId $s:optDeclSig $v:declVal)
local macro_rules|`(command|@[simp]def $i:declId $s:optDeclSig $v:declVal)=>`(command|@[simp]noncomputable def $i:declId $s:optDeclSig $v:declVal)
local macro_rules|`(command|abbrev $i:declId $s:optDeclSig $v:declVal)=>`(command|noncomputable abbrev $i:declId $s:optDeclSig $v:declVal)
def on:=@if_neg
def Tq:=@if_pos
def Tr:=@List.map_cons
def Ts:=@PySem.wpAny_bind
def Tt:=@List.mem_cons_of_mem
def Tu:=@List.mem_cons_self
def Tv:=@List.length_map
def Tw:=@List.mem_append_right
def Tx:=@PySem.Heap.get?_push_of_some
def Tz:=@List.mem_cons
def TD:=@List.length_cons
def TF:=@PySem.wpAny_pure
def TH:=@PySem.Heap.lt_size
def TK:=@Bool.false_ne_true
def TL:=@List.mem_append_left
def TM:=@Nat.le_refl
def TN:=@List.size_toArray
def TQ:=@Option.map_eq_some_iff
def TR:=@List.getD_eq_getElem?_getD
def TU:=@List.length_append
def TV:=@List.getElem?_eq_getElem
def TW:=@List.getElem?_eq_some_iff
def TX:=@List.mem_singleton
def TY:=@List.mem_append
def TZ:=@PySem.Heap.get?_push_size
def T1:=@Nat.lt_of_lt_of_le
def T2:=@Option.some.inj
def T3:=@List.nodup_cons
def T4:=@List.getElem?_eq_none
def T5:=@List.length_set
def T6:=@PySem.W.mg_of
def T7:=@Bool.and_eq_true_iff
def T8:=@Nat.ne_of_lt
def T9:=@List.mem_map
def Ua:=@PySem.F.plainAttrs_dict
def Ub:=@PySem.Heap.get?_update_other
def Ud:=@List.lookup_cons
def Ue:=@List.getElem?_map
def Uf:=@List.nodup_append
def Ug:=@PySem.Heap.get?_update_self
def Uh:=@List.length_eq_zero_iff
def Ui:=@beq_eq_false_iff_ne
def Uj:=@List.map_append
def Uk:=@Nat.le_trans
def Ul:=@List.replicate_succ
def Um:=@List.append_nil
def Uo:=@decide_eq_false
def Uq:=@PySem.Obj.data_mapDictKeys
def Ur:=@Prod.mk.inj
def Us:=@PySem.Calls.spliced_cons
def Ut:=@PySem.W.mg_none_of
def Uu:=@List.nodup_nil
def Uv:=@List.eraseIdx_cons_succ
def Uw:=@List.getElem?_append_right
def Ux:=@List.mem_of_getElem?
def Uy:=@Nat.lt_irrefl
def Uz:=@List.map_nil
def UA:=@PySem.Calls.callWith_builtin
def UB:=@List.getElem?_append_left
def UC:=@Array.length_toList
def UD:=@List.flatten_cons
def UE:=@List.append_assoc
def UF:=@PySem.wpAny_passesOwn
def UG:=@List.map_map
def UH:=@List.filter_cons
def UI:=@PySem.Calls.evalArgs_plain
def UJ:=@PySem.Around.under_plainId
def UK:=@Nat.le_of_lt
def UL:=@List.find?_cons
def UM:=@PySem.F.slot_dict_get
def UN:=@Nat.zero_le
def UO:=@decide_eq_true
def UP:=@PySem.wpAny_typeNameOfWhole_keyiter
def UQ:=@PySem.Calls.spliced_nil
def UR:=@PySem.wpAny_execs_nil
def US:=@PySem.mem_of_lookup
def UT:=@PySem.Obj.isFreed_of_dict
def UU:=@List.getD_cons_succ
def UV:=@List.getElem?_set_self
def UW:=@PyProof.Rows.callWith_type1
def UX:=@beq_self_eq_true
def UY:=@List.all_eq_true
def UZ:=@PySem.wpAny_Call_Name_kw
def U0:=@PySem.tupleKind_room_in1
def U5:=@Nat.lt_of_le_of_lt
def U6:=@PySem.F.slot_dict_pop
def U7:=@List.mem_or_eq_of_mem_set
def U8:=@List.mem_filter
def U9:=@PySem.codeAny_builtin
def Va:=@Ne.symm
def Vb:=@PySem.wpAny_truthy_bool
def Vc:=@PySem.wpAny_dictEntries
def Vd:=@PySem.Paired.length
def Ve:=@PySem.wpAny_mono
def Vf:=@PySem.wpAny_holding
def Vg:=@Option.isSome_iff_exists
def Vh:=@PySem.plainId_quiet
def Vi:=@PySem.wpAny_typeNameOf_keyiter
def Vj:=@PySem.F.slot_dict_update
def Vk:=@PySem.F.type_dict_update
def Vl:=@List.eraseIdxIfInBounds_toArray
def Vm:=@PySem.W.hideAll_get
def Vn:=@List.map_congr_left
def Vo:=@List.getElem?_cons_succ
def Vp:=@PySem.F.plainAttrs_list
def Vq:=@PySem.F.entry_dict_get
def Vr:=@Bool.false_eq_true
def Vs:=@PySem.SeqAt.canLay_of_shaped
def Vt:=@Option.map_some
def Vu:=@List.any_cons
def Vv:=@PySem.W.methodCall_KW
def Vw:=@List.length_singleton
def Vx:=@Bool.beq_eq_decide_eq
def Vy:=@List.length_replicate
def Vz:=@PySem.wpAny_Call_method
def VA:=@List.getElem?_set_ne
def VB:=@PySem.Heap.size_push
def VC:=@PySem.call_meetsIn
def VD:=@Bool.and_eq_true
def VE:=@List.cons_append
def VF:=@Array.getElem?_eq_getElem
def VG:=@List.drop_eq_getElem_cons
def VH:=@List.getElem?_eq_none_iff
def VI:=@List.getElem?_range
def VJ:=@PySem.Heap.SameBut.update
def VL:=@PySem.F.slot_list_append
def VM:=@PySem.F.type_list_append
def VN:=@PySem.W.callWith_K
def VO:=@List.getElem?_replicate
def VP:=@Option.bind_eq_some_iff
def VQ:=@PySem.wpAny_pyIter_list
def VR:=@PySem.codeAny_mono
def VS:=@PySem.wpAny_tryCatch
def VT:=@List.length_range
def VU:=@of_decide_eq_true
def VV:=@Nat.succ.inj
def VW:=@PySem.F.type_dict_pop
def VX:=@PySem.wpAny_execs_cons
def VY:=@beq_iff_eq
def VZ:=@Nat.lt_succ_self
def V0:=@List.drop_length
def V1:=@Array.mem_toList_iff
def V2:=@PySem.wpAny_letGo
def V3:=@Bool.eq_iff_iff
def V4:=@List.foldl_cons
def V5:=@PySem.W.plainGet_of
def V6:=@PySem.W.shaped_ints
def V7:=@Nat.sub_self
def V8:=@PySem.Calls.Name_function_global
def V9:=@List.mem_filterMap
def Wa:=@Int.fdiv_eq_ediv_of_nonneg
def Wb:=@Option.isSome_some
def Wc:=@List.set_cons_zero
def Wd:=@List.set_cons_succ
def Wg:=@List.exists_mem_of_ne_nil
def Wh:=@Sum.inl.inj
def Wi:=@Option.isSome_map
def Wj:=@Nat.lt_succ_of_lt
def Wk:=@PySem.wpAny_newObj_type
def Wl:=@Nat.le_succ_of_le
def Wm:=@PySem.wpAny_loadPart_at
def Wn:=@PySem.F.slot_list_remove
def Wo:=@List.set_eq_of_length_le
def Wp:=@PySem.F.slot_dict_values
def Wq:=@PySem.F.args_dict_pop_3
def Wr:=@PySem.F.args_dict_get_2
def Ws:=@PySem.F.args_dict_get_3
def Wt:=@if_false
def Wu:=@List.getElem_mem
def Wv:=@PySem.W.cellsFrom_some
def Ww:=@PySem.F.entry_dict_pop
def Wz:=@List.drop_eq_nil_of_le
def WA:=@decide_false
def WB:=@List.all_map
def WC:=@List.filter_eq_nil_iff
def WD:=@PySem.wpAny_updateSeq
def WE:=@PySem.wpAny_dictEpoch
def WF:=@Int.emod_nonneg
def WH:=@PySem.F.type_dict_get
def WI:=@List.getElem?_toArray
def WK:=@Array.getElem?_toList
def WL:=@List.mem_range
def WO:=@Array.getElem_toList
def WS:=@if_true
def Xm:=@List.map_set
namespace HD
open PySem PySem.W PyProof.Rows
def top(p:Program)(i:Nat):Stmt:=p.main.body.getD i (.Pass ⟨0,0,0,0⟩)
def iC(s:Stmt)(j:Nat):Stmt:=match s with
 |.ClassDef _ _ _ body _ _ _ _ _ _ _=>body.getD j (.Pass ⟨0,0,0,0⟩)
 |_=> .Pass ⟨0,0,0,0⟩
def dA(s:Stmt):Arguments:=match s with
 |.FunctionDef _ a _ _ _ _ _ _ _ _=>a
 |_=>{posonlyargs:=[],args:=[],vararg:=none,kwonlyargs:=[],kw_defaults:=[],kwarg:=none,defaults:=[]}
def dB(s:Stmt):List Stmt:=match s with
 |.FunctionDef _ _ b _ _ _ _ _ _ _=>b
 |_=>[]
def dS(s:Stmt):Scope:=match s with
 |.FunctionDef _ _ _ _ _ _ sc _ _ _=>sc
 |_=>{kind:=.function,names:=[],isGenerator:=false,isCoroutine:=false}
def HW(b:List Addr)(h:Heap):Frag:=b.filterMap λa=>(h.get? a).map λo=>(a,o)
theorem HV(c:List Addr)(h:Heap):(HW c h).In h:=by
 intro a o e
 induction c with
 |nil=>cases e
 |cons b c d=>
   unfold HW at e;rw[List.filterMap_cons]at e;cases q:h.get? b with
   |none=>
     rw[q]at e;exact d e
   |some x=>
     rw[q]at e;replace e:List.lookup a ((b,x)::HW c h)=some o:=e;rw[Ud]at e;by_cases z:a=b
     ·subst z;rw[UX a]at e;cases e;exact q
     ·rw[Ui.mpr z]at e;exact d e
abbrev Tl:=Str×Str×Arguments×FuncBody×Scope×Addr×List (Str×Addr)×Value×Addr×Bool
def fnO(K:Frag)(f:Addr)(q:Str):Option Tl:=match K.lookup f with
 |some ⟨_,_,.func fd,_⟩=>some (fd.name,fd.qualname,fd.params,fd.body,fd.scope,fd.globals,fd.closure,fd.defaults,fd.builtins,codeIn K fd.code q)
 |_=>none
def fnE(x q:Str)(st:Stmt):Option Tl:=some (x,q,dA st,.stmts (dB st),dS st,mainGlobals,[],.none,builtinsNs,true)
theorem fn_of{K:Frag}{f:Addr}{x q:Str}{st:Stmt}(h:fnO K f q=fnE x q st):∃(oc:Value) (c:Option Addr) (kV d pm:Value) (an:Option Addr) (b ct:Value) (a:Array (Option Value)),
 K.lookup f=some ⟨oc,c,.func (fnOf x q (dA st) (dB st) (dS st) .none kV d pm an b ct),a⟩/\codeIn K b q=true:=by
 unfold fnO at h;split at h
 · next oc c fd a e=>
   obtain⟨n,l,m,bd,sc,o,r,p,g,j,pm,an,k,ct,s⟩:=fd;unfold fnE at h;simp only[Option.some.injEq,Prod.mk.injEq]at h;obtain⟨rfl,rfl,rfl,rfl,rfl,rfl,rfl,rfl,rfl,i⟩:=h;exact⟨oc,c,g,j,pm,an,k,ct,a,e,i⟩
 ·exact nomatch h
theorem fn_keep{K:Frag}{f:Addr}{x q:Str}{st:Stmt}(h:fnO K f q=fnE x q st):keepIn K (.ref f)=true:=by
 obtain⟨oc,d,kV,b,pm,an,c,ct,a,e,_⟩:=fn_of h;show(match K.lookup f with|some ⟨_,_,.func _,_⟩=>true|some ⟨_,_,.cls _,_⟩=>specialIn K (.ref f) "__call__" == some (some (.builtin "type.__call__"))|_=>false)=true;rw[e]
def gr(K:Frag)(C:Addr):List Value:=match K.lookup C with
 |some ⟨_,_,.cls a,_⟩=>a.mro
 |_=>[]
def iZ(K:Frag)(C:Addr):Bool:=excIn K C [.type "ValueError",.type "Exception",.type "BaseException",.type "object"] "ValueError.__new__"
def excAt(K:Frag)(D:Addr):Bool:=findIn K (.ref D) "__getattribute__" == some (some (.builtin "BaseException.__getattribute__"))&&(findIn K (.ref D) "__getattr__" == some none&&(findIn K (.ref D) "__class__" == some (some (.builtin "object.__class__")) &&
 (specialIn K (.builtin "object.__class__") "__get__" == some (some (.builtin "getset_descriptor.__get__"))&&(takesIn K (.builtin "object.__class__")==some true&&(mroIn K D (.type "object")==some true&&(mroIn K D (.type "BaseException")==some true&&(clsIn K D).isSome))))))
abbrev Ob:=List (Option (Option Value))×List (Option (Option Value))×List Bool×List (Option Tl)×List (Bool×List Value)×List (Option Bool)
def cls(K:Frag)(C:Addr):Bool:=plainGet K C Str.empty&&(hasDictIn K C&&(plainOver K C&&(makesIn K C&&keepIn K (.ref C))))
def obK(ns:List Str)(M:List (Addr×Str))(fs c:List Addr)(ds:List (Addr×Str))(b:List Addr)(a:List (Addr×Value))(K:Frag):Ob:=
 (ns.map (nsIn K mainGlobals),M.map (λp=>findIn K (.ref p.1) p.2),(fs.map λf=>isFn K (.ref f))++c.map (cls K),ds.map (λp=>fnO K p.1 p.2),b.map (λC=>(iZ K C&&excAt K C,gr K C)),a.map λp=>kitOne K (.ref p.1) p.2)
def ob(n:List Addr)(ns:List Str)(M:List (Addr×Str))(fs c:List Addr)(ds:List (Addr×Str))(b:List Addr)(a:List (Addr×Value))(s:Shared):Ob:=obK ns M fs c ds b a (HW n s.heap)
theorem two{W X S:Type}{o:Option W}{f:W->X}{g:W->S}{a:X}{b:S}(c:o.map f=some a)(d:o.map g=some b):o.map (λs=>(f s,g s))=some (a,b):=by
 cases o with
 |none=>cases c
 |some s=>cases c;cases d;rfl
theorem nth{W:Type}{l m:List W}(h:l=m)(i:Nat){a b:W}(d:l[i]?=some a)(c:m[i]?=some b):a=b:=by
 subst h;rw[d]at c;exact T2 c
theorem cls_of{K:Frag}{C:Addr}(h:cls K C=true):plainGet K C Str.empty=true/\hasDictIn K C=true/\plainOver K C=true/\makesIn K C=true/\keepIn K (.ref C)=true:=by
 unfold cls at h;simpa only[Bool.and_eq_true] using h
theorem walkX{q:Program}{loose:List Str}{XP:(Str->Option Value)->Heap->Prop}{n:List Addr}{ns:List Str}{M:List (Addr×Str)}{fs j:List Addr}{ds:List (Addr×Str)}{i:List Addr}{g:List (Addr×Value)}{E:Ob}{r:RowW}{d:DefRec}{c:List (Str×Expr)}{run:Value->List Value->Sem Value}
 (W:∀K:Frag,obK ns M fs j ds i g K=E->WalkO q loose XP (λ_ h=>K.In h) r d c run):WalkX q loose XP (ob n ns M fs j ds i g) (λ_=>E) r d c run:=
 λw s0 k mg l G y a o pm z e x kV v u t s p m args b f L F D C B A=>W _ y w s0 k mg l G ((HV _ _).keeps L.keeps) a o pm z e x kV v u t s p m args b f F D C B A
end HD
namespace HS
open PySem PySem.W PyProof.Rows
noncomputable def s0(w:World)(os:OsState):Shared:=⟨boot_heap w.params,Array.mk [],boot_drawn,boot_toks,os⟩
def mid(x:Shared):Option (Shared×Thread)->Shared
 |some (s,_)=>s
 |none=>x
def lz(x:SharedT):Option (Flow×SharedT×Code×Pos)->SharedT
 |some (_,s,_)=>s
 |none=>x
noncomputable def look{W:Type}(p:Program)(w:World)(f:Shared->W)(o:Option Shared):Option W:=o.bind λa=>match staticsOk (importedModules p.main.body) (boot_heap w.params) a.heap&&namesBound p a.heap&&gensDone a&&laidKept (boot_heap w.params) a.heap with
 |true=>some (f a)
 |false=>none
section
variable{p:Program}{w:World}{os:OsState}{m0:Nat}{ann:Option Value}{env:PySem.Env}{q posA posB pos1 pos2:Pos}{b l1 l2:List Stmt}{sA:Shared}{sB s1 s2:SharedT}{k0 kb k1 k2:Nat}
theorem first(pre:topGo treeTable p w m0 ann k0 (s0 w os) (topStub p)=some (sA,⟨denote treeTable (.body b env),.body b env,posA,[topFrame q]⟩))
 (Oz:segRun treeTable p w m0 ann 1 kb sA (blockOf b env (.body b env) posA [topFrame q])=some (.next,sB.abs,.body b env,posB)) {N:Nat} {r:Shared} (h:topRun treeTable p w m0 ann N sB.abs (restOf b env (.body b env) posB [topFrame q])=some r):
 topRun treeTable p w m0 ann (k0+(kb+N)) (s0 w os) (topStub p)=some r:=go_top pre (piece_block Oz h)
theorem SF{c:Code}(g:segRunT treeTable p w m0 ann 1 k1 s1 (piecesOf l1 env c pos1 [topFrame q])=some (.next,s2,c,pos2)){N:Nat}{r:Shared}(h:topRun treeTable p w m0 ann N s2.abs (restOf l2 env c pos2 [topFrame q])=some r):
 topRun treeTable p w m0 ann (k1+N) s1.abs (restOf (l1++l2) env c pos1 [topFrame q])=some r:=piece_app (segRun_of g) h
end
theorem ends{p:Program}{N M j:Nat}{g:Option Value}{W:Type}{f:Shared->W}{good:World->W}
 (b:∀w:World,(fencedOpening treeTable p w N).map (λs=>(s.heap,s.gens,s.drawn,s.toks))=some (boot_heap w.params,Array.mk [],boot_drawn,boot_toks))
 (i:∀w:World,((boot_heap w.params).isNs mainGlobals && (Array.mk []:Array GenState).size == 0,(boot_heap w.params).objs.size,(boot_heap w.params).nsMap mainGlobals "__annotations__")=(true,j,g))
 (run:∀(w:World) (os:OsState),∃a,topRun treeTable p w j g M (s0 w os) (topStub p)=some a/\look p w f (some a)=some (good w)) (t:M<=N):∀w:World,(openEnds treeTable p w N).map f=some (good w):=λw=>by
 obtain⟨⟨h,o,d,k,os⟩,e,q⟩:=TQ.mp (b w);obtain⟨rfl,rfl,rfl,rfl⟩:h=boot_heap w.params/\o=Array.mk []/\d=boot_drawn/\k=boot_toks:=by simpa using q
 obtain⟨n,m,l⟩:_/\_/\_:=by simpa only[Prod.mk.injEq] using i w
 obtain⟨a,r,lk⟩:=run w os;have r:=topRun_mono (N-M) _ _ _ _ r;rw[show M+(N-M)=N by omega]at r;unfold openEnds;rw[e];show(topFrom treeTable p w N _).map f=_;unfold topFrom;dsimp only;rw[n,m,l];show((topRun treeTable p w j g N (s0 w os) (topStub p)).bind _).map f=_;rw[r];unfold look at lk;dsimp only[Option.bind]at lk ⊢;cases c:staticsOk (importedModules p.main.body) (boot_heap w.params) a.heap&&namesBound p a.heap&&gensDone a&&laidKept (boot_heap w.params) a.heap with
 |true=>rw[c]at lk;exact lk
 |false=>rw[c]at lk;cases lk
theorem run{W X:Type}{p:Program}{d k0 s o m M:Nat}{a:Option Value}{env:PySem.Env}{q j i h c:Pos}{b iA:List Stmt}{KJ:World->OsState->Shared}{OO KH fz:World->OsState->SharedT}{f:Shared->W}{g:Shared->X}{good:World->W}{k:World->X}
 (pre:∀w:World,(λos=>topGo treeTable p w d a k0 (s0 w os) (topStub p))=λos=>some (KJ w os,⟨denote treeTable (.body b env),.body b env,j,[topFrame q]⟩))
 (Oz:∀w:World,(λos=>segRun treeTable p w d a 1 s (KJ w os) (blockOf b env (.body b env) j [topFrame q]))=λos=>some (.next,(OO w os).abs,.body b env,i))
 (ch:∀(w:World) (os:OsState) (r:Shared),topRun treeTable p w d a (o+m) (KH w os).abs (restOf iA env (.body b env) h [topFrame q])=some r->topRun treeTable p w d a M (OO w os).abs (restOf b env (.body b env) i [topFrame q])=some r)
 (v:∀w:World,(λos=>(segRunT treeTable p w d a 1 o (KH w os) (piecesOf iA env (.body b env) h [topFrame q]),look p w f (topRun treeTable p w d a m (fz w os).abs ⟨doneF .next,.body b env,c,[topFrame q]⟩),look p w g (topRun treeTable p w d a m (fz w os).abs ⟨doneF .next,.body b env,c,[topFrame q]⟩)))=λos=>(some (.next,fz w os,.body b env,c),some (good w),some (k w))) (w:World) (os:OsState):
 ∃l,topRun treeTable p w d a (k0+(s+M)) (s0 w os) (topStub p)=some l/\look p w f (some l)=some (good w)/\look p w g (some l)=some (k w):=by
 obtain⟨u,n,t⟩:_/\_/\_:=by simpa only[Prod.mk.injEq] using congrFun (v w) os
 cases e:topRun treeTable p w d a m (fz w os).abs ⟨doneF .next,.body b env,c,[topFrame q]⟩ with
 |none=>rw[e]at n;cases n
 |some l=>
   rw[e]at n t;refine⟨l,first (congrFun (pre w) os) (congrFun (Oz w) os) (ch w os l ?_),n,t⟩
   have:=SF (l2:=[]) u (piece_nil e)
   rw[Um]at this;exact this
end HS
set_option maxHeartbeats 4000000
namespace K11
open PySem PySem.W PyProof.Rows
theorem hd0(h:PySem.Challenge.rw_heraldways_k11_deeds_refused.row.wellSaid=true->PySem.Challenge.rw_heraldways_k11_deeds_refused.row.Holds):PySem.Challenge.rw_heraldways_k11_deeds_refused.Holds:=by
 w_on;o_law;exact h (by assumption)
abbrev qP(p:Program):Program:=view p [0,2,3,4,5,6,7,9,10,11,12,14,15,16,18,19,21,22,23,24,25,26,27]
def Tb:List Addr:=List.range 445
def P6:List Str := "Guild"::"Post"::"_law_cell_at"::"_law_due"::"_law_marks"::"_law_ways_by"::"best_road"::"copied"::"require_within"::"may_take"::"_law_seen"::"standing"::"_law_did"::"law"::"SEAT"::"MOST_HOUSES"::"len"::"range"::"min"::"max"::"set"::"list"::"tuple"::"isinstance"::"any"::"ValueError"::"GuildError"::"NoHouse"::"NoWay"::"WayThere"::"NoRoad"::"NoLetter" :: []
def Qc:List (Addr×Str):=(240,"__init__")::(240,"houses_paired")::(240,"shuns_one_of")::(240,"size")::(395,"first_of_line")::(395,"forget")::(395,"write_road")::(240,"require_houses")::(395,"table")::(395,"waiting")::(240,"liking")::(240,"neighbours")::(240,"require_long_road")::(240,"require_two_houses")::(240,"twin")::(395,"told")::(240,"lay_way")::(240,"lift_way")::(240,"rank_of")::(395,"write_to_all")::(395,"__init__")::(395,"choose_anew")::(395,"rise")::(395,"fall")::(395,"hear")::(395,"carry")::(395,"carry_next")::(240,"__setattr__")::(395,"__setattr__")::(240,"house_count")::(240,"ways")::(240,"likings")::(240,"shuns")::(240,"wish_ranks")::(395,"guild")::(395,"roads")::(395,"told_last")::(395,"written_last")::(395,"letters")::(395,"standings")::[]
def Q0:List Addr:=[115,204,216,122,357,385,364,223,296,308,164,129,237,230,211,303,143,150,199,371,284,392,350,343,378,322,329]
def RA:List Addr:=[240,395]
def Q5:List (Addr×Str):=(115,"Guild.__init__")::(204,"Guild.houses_paired")::(216,"Guild.shuns_one_of")::(122,"Guild.size")::(357,"Post.first_of_line")::(385,"Post.forget")::(364,"Post.write_road")::(406,"_law_cell_at")::(418,"_law_due")::(425,"_law_marks")::(413,"_law_ways_by")::(265,"best_road")::(272,"copied")::(101,"require_within")::(223,"Guild.require_houses")::(296,"Post.table")::(308,"Post.waiting")::(258,"may_take")::(164,"Guild.liking")::(129,"Guild.neighbours")::(237,"Guild.require_long_road")::(230,"Guild.require_two_houses")::(211,"Guild.twin")::(303,"Post.told")::(143,"Guild.lay_way")::(150,"Guild.lift_way")::(199,"Guild.rank_of")::(371,"Post.write_to_all")::(437,"_law_seen")::(284,"Post.__init__")::(392,"Post.choose_anew")::(350,"Post.rise")::(251,"standing")::(343,"Post.fall")::(378,"Post.hear")::(322,"Post.carry")::(329,"Post.carry_next")::(432,"_law_did")::(444,"law")::[]
def Q4:List Addr:=[31,44,56,68,80,92]
def QS:List (Addr×Value):=(31,.ref 44)::(31,.ref 92)::(31,.ref 56)::(31,.ref 68)::(31,.type "ValueError")::(44,.ref 44)::(44,.ref 92)::(44,.ref 56)::(44,.ref 68)::(44,.type "ValueError")::(56,.ref 44)::(56,.ref 92)::(56,.ref 56)::(56,.ref 68)::(56,.type "ValueError")::(68,.ref 44)::(68,.ref 92)::(68,.ref 56)::(68,.ref 68)::(68,.type "ValueError")::(80,.ref 44)::(80,.ref 92)::(80,.ref 56)::(80,.ref 68)::(80,.type "ValueError")::(92,.ref 44)::(92,.ref 92)::(92,.ref 56)::(92,.ref 68)::(92,.type "ValueError")::[]
abbrev rf(n:Nat):Option (Option Value):=some (some (.ref n))
def OA(p:Program):HD.Ob:=(rf 240::rf 395::rf 406::rf 418::rf 425::rf 413::rf 265::rf 272::rf 101::rf 258::rf 437::rf 251::rf 432::rf 444::some (some (.int 0 296))::some (some (.int 60 298))::some none::some none::some none::some none::some none::some none::some none::some none::some none::some none::rf 31::rf 44::rf 56::rf 68::rf 80::rf 92::[],rf 115::rf 204::rf 216::rf 122::rf 357::rf 385::rf 364::rf 223::rf 296::rf 308::rf 164::rf 129::rf 237::rf 230::rf 211::rf 303::rf 143::rf 150::rf 199::rf 371::rf 284::rf 392::rf 350::rf 343::rf 378::rf 322::rf 329::some (some (.builtin "object.__setattr__"))::some (some (.builtin "object.__setattr__"))::some none::some none::some none::some none::some none::some none::some none::some none::some none::some none::some none::[],true::true::true::true::true::true::true::true::true::true::true::true::true::true::true::true::true::true::true::true::true::true::true::true::true::true::true::true::true::[],HD.fnE "__init__" "Guild.__init__" (HD.iC (HD.top p 12) 0)::HD.fnE "houses_paired" "Guild.houses_paired" (HD.iC (HD.top p 12) 13)::HD.fnE "shuns_one_of" "Guild.shuns_one_of" (HD.iC (HD.top p 12) 15)::HD.fnE "size" "Guild.size" (HD.iC (HD.top p 12) 1)::HD.fnE "first_of_line" "Post.first_of_line" (HD.iC (HD.top p 19) 11)::HD.fnE "forget" "Post.forget" (HD.iC (HD.top p 19) 15)::HD.fnE "write_road" "Post.write_road" (HD.iC (HD.top p 19) 12)::HD.fnE "_law_cell_at" "_law_cell_at" (HD.top p 21)::HD.fnE "_law_due" "_law_due" (HD.top p 23)::HD.fnE "_law_marks" "_law_marks" (HD.top p 24)::HD.fnE "_law_ways_by" "_law_ways_by" (HD.top p 22)::HD.fnE "best_road" "best_road" (HD.top p 16)::HD.fnE "copied" "copied" (HD.top p 18)::HD.fnE "require_within" "require_within" (HD.top p 11)::HD.fnE "require_houses" "Guild.require_houses" (HD.iC (HD.top p 12) 16)::HD.fnE "table" "Post.table" (HD.iC (HD.top p 19) 2)::HD.fnE "waiting" "Post.waiting" (HD.iC (HD.top p 19) 4)::HD.fnE "may_take" "may_take" (HD.top p 15)::HD.fnE "liking" "Guild.liking" (HD.iC (HD.top p 12) 7)::HD.fnE "neighbours" "Guild.neighbours" (HD.iC (HD.top p 12) 2)::HD.fnE "require_long_road" "Guild.require_long_road" (HD.iC (HD.top p 12) 18)::HD.fnE "require_two_houses" "Guild.require_two_houses" (HD.iC (HD.top p 12) 17)::HD.fnE "twin" "Guild.twin" (HD.iC (HD.top p 12) 14)::HD.fnE "told" "Post.told" (HD.iC (HD.top p 19) 3)::HD.fnE "lay_way" "Guild.lay_way" (HD.iC (HD.top p 12) 4)::HD.fnE "lift_way" "Guild.lift_way" (HD.iC (HD.top p 12) 5)::HD.fnE "rank_of" "Guild.rank_of" (HD.iC (HD.top p 12) 12)::HD.fnE "write_to_all" "Post.write_to_all" (HD.iC (HD.top p 19) 13)::HD.fnE "_law_seen" "_law_seen" (HD.top p 26)::HD.fnE "__init__" "Post.__init__" (HD.iC (HD.top p 19) 0)::HD.fnE "choose_anew" "Post.choose_anew" (HD.iC (HD.top p 19) 16)::HD.fnE "rise" "Post.rise" (HD.iC (HD.top p 19) 10)::HD.fnE "standing" "standing" (HD.top p 14)::HD.fnE "fall" "Post.fall" (HD.iC (HD.top p 19) 9)::HD.fnE "hear" "Post.hear" (HD.iC (HD.top p 19) 14)::HD.fnE "carry" "Post.carry" (HD.iC (HD.top p 19) 6)::HD.fnE "carry_next" "Post.carry_next" (HD.iC (HD.top p 19) 7)::HD.fnE "_law_did" "_law_did" (HD.top p 25)::HD.fnE "law" "law" (HD.top p 27)::[],(true,[.ref 31,.type "ValueError",.type "Exception",.type "BaseException",.type "object"])::(true,[.ref 44,.ref 31,.type "ValueError",.type "Exception",.type "BaseException",.type "object"])::(true,[.ref 56,.ref 31,.type "ValueError",.type "Exception",.type "BaseException",.type "object"])::(true,[.ref 68,.ref 31,.type "ValueError",.type "Exception",.type "BaseException",.type "object"])::(true,[.ref 80,.ref 31,.type "ValueError",.type "Exception",.type "BaseException",.type "object"])::(true,[.ref 92,.ref 31,.type "ValueError",.type "Exception",.type "BaseException",.type "object"])::[],some false::some false::some false::some false::some true::some true::some false::some false::some false::some true::some false::some false::some true::some false::some true::some false::some false::some false::some true::some true::some false::some false::some false::some false::some true::some false::some true::some false::some false::some true::[])
open_shared sh for PySem.Challenge.pw_heraldways_k11_deeds_refused leaving 20
noncomputable section
noncomputable abbrev pg:Program:=PySem.Challenge.pw_heraldways_k11_deeds_refused
noncomputable abbrev bd:List Stmt:=behindTheImports pg
noncomputable abbrev cE:Code:=.body bd sh.env_1
noncomputable abbrev BB:List Frame:=[topFrame ⟨0,0,0,0⟩]
abbrev nK:Nat:=1966+2
noncomputable def KJ(w:World)(os:OsState):Shared:=HS.mid (HS.s0 w os) (topGo treeTable pg w 11 (some (.ref 6)) 12 (HS.s0 w os) (topStub pg))
noncomputable abbrev OO(w:World)(os:OsState):SharedT:=({tree:=sh.tree_4 w.params,n:=15,life:={},gens:={toList:=[]},drawn:={},toks:=187,os:=os}:SharedT)
noncomputable abbrev KH(w:World)(os:OsState):SharedT:=({tree:=sh.tree_106 w.params,n:=95,life:={},gens:={toList:=[]},drawn:={},toks:=294,os:=os}:SharedT)
theorem pre(w:World):(λos=>topGo treeTable pg w 11 (some (.ref 6)) 12 (HS.s0 w os) (topStub pg))=λos=>some (KJ w os,⟨denote treeTable cE,cE,⟨0,0,0,0⟩,BB⟩):=by
 unfold KJ cE bd pg;rw[Fast.te14364793385576792824,Fast.te5709369780747969970]
 kernel_rfl
theorem Oz(w:World):(λos=>segRun treeTable pg w 11 (some (.ref 6)) 1 1 (KJ w os) (blockOf bd sh.env_1 cE ⟨0,0,0,0⟩ BB))=λos=>some (.next,(OO w os).abs,cE,⟨0,0,0,0⟩):=by
 unfold KJ cE bd pg;rw[Fast.te14364793385576792824,Fast.te5709369780747969970]
 kernel_rfl
theorem bdE:sh.sts_4++(sh.sts_28++(sh.sts_44++(sh.sts_60++(sh.sts_76++(sh.sts_92++bd.drop 8)))))=bd:=by
 unfold bd pg;rw[Fast.te5709369780747969970]
 kernel_rfl
theorem chn(w:World)(os:OsState)(r:Shared)(h:topRun treeTable pg w 11 (some (.ref 6)) nK (KH w os).abs (restOf (bd.drop 8) sh.env_1 cE ⟨15,0,16,8⟩ BB)=some r):topRun treeTable pg w 11 (some (.ref 6)) (Nat.add 225 (Nat.add 214 (Nat.add 214 (Nat.add 214 (Nat.add 214 (Nat.add 214 nK)))))) (OO w os).abs (restOf bd sh.env_1 cE ⟨0,0,0,0⟩ BB)=some r:=by
 have h:=sh.chain pg bd w os (bd.drop 8) nK r h;rw[bdE]at h;exact h
noncomputable def fz(w:World)(os:OsState):SharedT:=HS.lz (KH w os) (segRunT treeTable pg w 11 (some (.ref 6)) 1 1966 (KH w os) (piecesOf (bd.drop 8) sh.env_1 cE ⟨15,0,16,8⟩ BB))
theorem gZ(w:World):(λos=>(segRunT treeTable pg w 11 (some (.ref 6)) 1 1966 (KH w os) (piecesOf (bd.drop 8) sh.env_1 cE ⟨15,0,16,8⟩ BB),HS.look pg w (openSeen (qP pg) [] (importedModules pg.main.body) (λs=>xlAt (qP pg) [] s&&recOk (RowW.records PySem.Challenge.rw_heraldways_k11_deeds_refused.row.toRowW) s) true) (topRun treeTable pg w 11 (some (.ref 6)) 2 (fz w os).abs ⟨doneF .next,cE,⟨278,0,303,15⟩,BB⟩),HS.look pg w (HD.ob Tb P6 Qc Q0 RA Q5 Q4 QS) (topRun treeTable pg w 11 (some (.ref 6)) 2 (fz w os).abs ⟨doneF .next,cE,⟨278,0,303,15⟩,BB⟩)))=λos=>(some (.next,fz w os,cE,⟨278,0,303,15⟩),some (openGood (qP pg) []),some (OA pg)):=by
 unfold fz cE bd pg;rw[Fast.te10110043849684766642,Fast.te14082659384304107361,Fast.te14364793385576792824,Fast.te4187177175401517315,Fast.te5923862056798008813,Fast.te5709369780747969970]
 kernel_rfl
theorem opn(w:World):(fencedOpening treeTable pg w 6634).map (λs=>(s.heap,s.gens,s.drawn,s.toks))=some (boot_heap w.params,Array.mk [],boot_drawn,boot_toks):=by
 unfold pg;rw[Fast.te14364793385576792824,Fast.te5709369780747969970]
 kernel_rfl
theorem siz(w:World):((boot_heap w.params).isNs mainGlobals && (Array.mk []:Array GenState).size == 0,(boot_heap w.params).objs.size,(boot_heap w.params).nsMap mainGlobals "__annotations__")=(true,11,(some (.ref 6))):=by
 kernel_rfl
theorem QR(w:World):(openEnds treeTable PySem.Challenge.pw_heraldways_k11_deeds_refused w 6634).map (openSeen (qP PySem.Challenge.pw_heraldways_k11_deeds_refused) [] (importedModules PySem.Challenge.pw_heraldways_k11_deeds_refused.main.body) (λs=>xlAt (qP PySem.Challenge.pw_heraldways_k11_deeds_refused) [] s&&recOk (RowW.records PySem.Challenge.rw_heraldways_k11_deeds_refused.row.toRowW) s) true)=some (openGood (qP PySem.Challenge.pw_heraldways_k11_deeds_refused) []):=HS.ends (good:=λ_=>_) opn siz (λw os=>let ⟨a,c,b,_⟩:=HS.run pre Oz chn gZ w os;⟨a,c,b⟩) (by decide +kernel) w
theorem QQ(w:World):(openEnds treeTable PySem.Challenge.pw_heraldways_k11_deeds_refused w 6634).map (HD.ob Tb P6 Qc Q0 RA Q5 Q4 QS)=some (OA PySem.Challenge.pw_heraldways_k11_deeds_refused):=HS.ends (good:=λ_=>_) opn siz (λw os=>let ⟨a,c,_,b⟩:=HS.run pre Oz chn gZ w os;⟨a,c,b⟩) (by decide +kernel) w
end
end K11
namespace L2
open PySem PySem.Spec PyProof.Rows
abbrev aQ:=Sum Int Str
def qX:aQ->Value->Bool
 |.inl k,v=>Value.isInt k v
 |.inr x,v=>Value.isStrOf x v
def QT(w:World):aQ->Int
 |.inl k=>hashInt k
 |.inr x=>hashStr w x
theorem bZ:∀{k:aQ} {v:Value},qX k v=true->(∃i t,k=Sum.inl i/\v=Value.int i t)\/(∃x t,k=Sum.inr x/\v=Value.str x t)
 | .inl i,v,h=>by
   obtain⟨t,e⟩:=Value.isInt_shape (k:=i) (v:=v) h;exact .inl ⟨i,t,rfl,e⟩
 | .inr x,v,h=>by
   obtain⟨t,e⟩:=Value.isStrOf_shape (x:=x) (v:=v) h;exact .inr ⟨x,t,rfl,e⟩
theorem A0(i:Int)(t:Tok):qX (.inl i) (.int i t)=true:=by simp[qX,Value.isInt]
theorem AZ(x:Str)(t:Tok):qX (.inr x) (.str x t)=true:=by simp[qX,Value.isStrOf]
theorem Nj(a b:Int):decide ((Sum.inl a:aQ)=Sum.inl b)=(a==b):=by
 by_cases e:a=b
 ·subst e;simp
 ·have h:¬ (Sum.inl a:aQ)=Sum.inl b:=λq=>e (Wh q);rw[Uo h];exact(Ui.mpr e).symm
theorem Ng(a b:Str):decide ((Sum.inr a:aQ)=Sum.inr b)=decide (a=b):=by
 by_cases e:a=b
 ·subst e;simp
 ·have h:¬ (Sum.inr a:aQ)=Sum.inr b:=λq=>e (Sum.inr.inj q);rw[Uo h,Uo e]
theorem Ni(a:Int)(b:Str):decide ((Sum.inl a:aQ)=Sum.inr b)=false:=Uo (λq=>nomatch q)
theorem Nh(a:Str)(b:Int):decide ((Sum.inr a:aQ)=Sum.inl b)=false:=Uo (λq=>nomatch q)
def aC(prog:Program)(w:World):PySem.KeyKind prog w aQ where
 is:=qX
 hash:=QT w
 inj:=λv a b g d=>by
  rcases bZ g with ⟨i,t,rfl,rfl⟩|⟨x,t,rfl,rfl⟩
  · rcases bZ d with ⟨j,u,rfl,e⟩|⟨y,u,rfl,e⟩
    ·injection e with e1 _;rw[e1]
    ·exact nomatch e
  · rcases bZ d with ⟨j,u,rfl,e⟩|⟨y,u,rfl,e⟩
    ·exact nomatch e
    ·injection e with e1 _;rw[e1]
 byValue:=λk v h=>by
  rcases bZ h with ⟨i,t,rfl,rfl⟩|⟨x,t,rfl,rfl⟩<;>rfl
 pyHash:=λc h=>by
  rcases bZ c with ⟨i,t,rfl,rfl⟩|⟨x,t,rfl,rfl⟩
  ·exact wpAny_pyHash_int h
  ·exact wpAny_pyHash_str h
 eqBool:=λf c h=>by
  rcases bZ f with ⟨i,t,rfl,rfl⟩|⟨x,t,rfl,rfl⟩
  · rcases bZ c with ⟨j,u,rfl,rfl⟩|⟨y,u,rfl,rfl⟩
    ·rw[Nj]at h;exact wpAny_eqBool_int h
    ·rw[Ni]at h;exact SeqAt.EqAt.int_str i t y u _ _ _ _ h
  · rcases bZ c with ⟨j,u,rfl,rfl⟩|⟨y,u,rfl,rfl⟩
    ·rw[Nh]at h;exact SeqAt.EqAt.str_int x t j u _ _ _ _ h
    ·rw[Ng]at h;exact wpAny_eqBool_str h
 «strs»:=λk x t v h=>by
  rcases bZ h with ⟨i,u,rfl,e⟩|⟨y,u,rfl,e⟩
  ·exact nomatch e
  · injection e with e1 _
    subst e1;cases v<;>rfl
theorem uV(prog:Program)(w:World)(i:Int)(t:Tok):(aC prog w).is (.inl i) (.int i t)=true:=A0 i t
theorem uU(prog:Program)(w:World)(x:Str)(t:Tok):(aC prog w).is (.inr x) (.str x t)=true:=AZ x t
inductive V where
 |non|bl (b:Bool)|int (i:Int)|str (x:Str)|byt (b:Array UInt8)|flt (b:UInt64)|ref (a:Addr)|ty (n:String)
 deriving DecidableEq
def RelV:V->Value->Prop
 |.non,u=>u=Value.none
 |.bl b,u=>u=Value.bool b
 |.int i,u=>∃t,u=Value.int i t
 |.str x,u=>∃t,u=Value.str x t
 |.byt b,u=>∃t,u=Value.bytes b t
 |.flt b,u=>∃t,u=Value.float b t
 |.ref a,u=>u=Value.ref a
 |.ty n,u=>u=Value.type n
abbrev Vals:List V->List Value->Prop:=Paired RelV
theorem Vals.length{xs:List V}{us:List Value}(r:Vals xs us):xs.length=us.length:=Vd r
theorem Vals.get:∀{xs:List V} {us:List Value} {i:Nat} {x:V},Vals xs us->xs[i]?=some x->∃u,us[i]?=some u/\RelV x u
 |_,_,_,_,.nil,e=>by simp at e
 |_,_,0,_,.cons r _,e=>by simp at e;subst e;exact⟨_,rfl,r⟩
 | _,_,i+1,x,.cons _ t,e=>by
   obtain⟨u,b,a⟩:=Vals.get (i:=i) (x:=x) t (by simpa using e);exact⟨u,by simpa using b,a⟩
theorem Vals.set{x:V}{u:Value}(r:RelV x u):∀{xs:List V} {us:List Value} (i:Nat),Vals xs us->Vals (xs.set i x) (us.set i u)
 |_,_,_,.nil=>.nil
 |_,_,0,.cons _ t=>.cons r t
 |_,_,i+1,.cons q t=>.cons q (Vals.set r i t)
theorem Vals.append:∀{xs a:List V} {us b:List Value},Vals xs us->Vals a b->Vals (xs++a) (us++b)
 |_,_,_,_,.nil,s=>s
 |_,_,_,_,.cons r t,s=>.cons r (Vals.append t s)
theorem Vals.take:∀{xs:List V} {us:List Value} (n:Nat),Vals xs us->Vals (xs.take n) (us.take n)
 |_,_,0,_=>.nil
 |_,_,_+1,.nil=>.nil
 |_,_,n+1,.cons r t=>.cons r (Vals.take n t)
theorem Vals.drop:∀{xs:List V} {us:List Value} (n:Nat),Vals xs us->Vals (xs.drop n) (us.drop n)
 |_,_,0,r=>r
 |_,_,_+1,.nil=>.nil
 |_,_,n+1,.cons _ t=>Vals.drop n t
def RelO:Option V->Option Value->Prop
 |some v,some u=>RelV v u
 |none,none=>True
 |_,_=>False
def KV{W:Type}:List (W×V)->List (W×Value)->Prop:=Paired λ(p:W×V) (q:W×Value)=>p.1=q.1/\RelV p.2 q.2
def kV:aQ->V
 |.inl i=>.int i
 |.inr x=>.str x
inductive HO where
 /-- a list -/
 |lst (xs:List V)
 /-- a tuple (never changes) -/
 |tup (xs:List V)
 /-- a dict whose keys are ints and texts;one whose keys are tuples of ints and texts (the empty one is both) -/
 |dK (kvs:List (aQ×V))|dT (kvs:List (List aQ×V))
 /-- a set of ints: its members,its size -/
 |set (S:Int->Bool) (n:Nat)
 /-- an instance of the class at C,its dict at dx,its attributes -/
 |ins (C dx:Addr) (fs:List (Str×V))
 /-- the dict of the instance at x -/
 |own (x:Addr)
 /-- the dict of an exception -/
 |xd (fs:List (Str×V))
 /-- a bound method,f of x -/
 |met (f x:Addr)
 /-- a range object lo,lo+1,.. below hi -/
 |rng (lo hi:Int)
 /-- a thing that is known to the object (the script;a dict while a loop walks it): read,never written while it is so -/
 |frz (o:Obj) (u:HO)
 /-- a code object's table: at each of these places nothing,or a code of that name -/
 |tbl (l:List (Pos×Str))
 /-- any other thing,by what is true of its one object (a def of one's own: SetO a S n:=HO.ext λh=> ..) -/
 |ext (φ:Heap->Prop)
abbrev Hp:=Addr->Option HO
def upd(H:Hp)(a:Addr)(o:HO):Hp:=λb=>if b=a then some o else H b
theorem aM{H:Hp}{a:Addr}{o:HO}:upd H a o a=some o:=by unfold upd;rw[if_pos rfl]
theorem ay{H:Hp}{a b:Addr}{o:HO}(h:b≠a):upd H a o b=H b:=by unfold upd;rw[if_neg h]
theorem DS{H:Hp}{a b:Addr}{o u:HO}(h:H a=some o)(h':H b=some u)(d:o≠u):a≠b:=by
 intro e;subst e;rw[h]at h';exact d (T2 h')
theorem bf{H:Hp}{a b:Addr}{o:HO}(h:H a=some o)(h':H b=none):a≠b:=by
 intro e;subst e;rw[h]at h';cases h'
section
variable(P:Program)(w:World)
def ObjOk(H:Hp)(h:Heap)(a:Addr):HO->Prop
 |.lst xs=>xs.length<=sizeLine/\∃(its:List Value) (n:Nat),Vals xs its/\h.get? a=some {cls:=.type "list",data:=.seq its.toArray n}
 |.tup xs=>xs.length<=sizeLine/\∃its:List Value,Vals xs its/\IsTup h a its.toArray
 |.dK kvs=>kvs.length<=sizeLine/\(a==sysModules)=false/\∃vs,KV kvs vs/\h.DictOf (aC P w) a vs
 | .dT kvs=>kvs.length<=sizeLine/\(a==sysModules)=false/\∃xs:List (List aQ×Addr×Value),
    Paired (λ(p:List aQ×V) (q:List aQ×Addr×Value)=>p.1=q.1/\H q.2.1=some (.tup (p.1.map kV))/\RelV p.2 q.2.2) kvs xs/\
    ∃o i ep,h.get? a=some o/\o.ExactDict/\o.data=.dict i ep/\i.toList=xs.map (entryOfKey (tupleKind (aC P w)))/\(xs.map (·.1)).Nodup
 |.set S n=>h.SetOf (intKind P w) a S n
 | .ins C dx fs=>H dx=some (.own a)/\fs.length<=1000/\dx≠a/\h.get? a=some (PySem.W.instObj C dx)/\
    ∃b,h.Ns1 dx b/\(∀f,RelO (fs.lookup f) (b f))/\PySem.Within b (fs.map (·.1))
 |.own _=>∃o,h.get? a=some o
 |.xd fs=>∃b,h.Ns1 a b/\∀f,RelO (fs.lookup f) (b f)
 |.rng lo hi=>∃t u v,h.get? a=some {cls:=.type "range",data:=.fields #[.int lo t,.int hi u,.int 1 v]}
 |.frz o u=>h.get? a=some o/\ObjOk H h a u
 |.tbl l=>(∀y∈l,∀z∈l,y.1.line=z.1.line->y.1.col=z.1.col->y.2=z.2)/\∃ps:Array Value,h.get? a=some {cls:=.none,data:=.fields ps}/\TriplesOk ps.toList/\∀x∈l,codeAmong x.1 ps.toList=none\/∃c,codeAmong x.1 ps.toList=some (.ref c)/\H c=some (.own a)/\h.CodeRec (.ref c) x.2
 |.met f x=>h.get? a=some (PySem.W.methodObj (.ref f) (.ref x))
 |.ext d=>d h/\(∃o,h.get? a=some o)/\∀g e:Heap,d g->(∀o,g.get? a=some o->e.get? a=some o)->d e
def HOk(H:Hp)(h:Heap):Prop:=∀a o,H a=some o->ObjOk P w H h a o
end
section
variable{P:Program}{w:World}{H H':Hp}{h h':Heap}{a:Addr}{o:HO}
theorem ObjOk.lt(x:ObjOk P w H h a o):a<h.objs.size:=by
 cases o with
 |lst xs=>obtain⟨_,_,_,_,e⟩:=x;exact TH e
 |tup xs=>obtain⟨_,_,_,p⟩:=x;exact p.lt
 |dK kvs=>obtain⟨_,_,_,_,o,_,_,e,_⟩:=x;exact TH e
 |dT kvs=>obtain⟨_,_,_,_,o,_,_,e,_⟩:=x;exact TH e
 |set S n=>obtain⟨o,_,_,_,e,_⟩:=x;exact TH e
 |ins C dx fs=>obtain⟨_,_,_,e,_⟩:=x;exact TH e
 |own y=>obtain⟨_,e⟩:=x;exact TH e
 |xd fs=>obtain⟨_,⟨_,_,_,e,_⟩,_⟩:=x;exact TH e
 |rng lo hi=>obtain⟨_,_,_,e⟩:=x;exact TH e
 |frz ob u=>obtain⟨e,_⟩:=x;exact TH e
 |tbl l=>obtain⟨_,_,e,_⟩:=x;exact TH e
 |met f y=>exact TH (show h.get? a=some _ from x)
 |ext b=>obtain⟨_,⟨_,e⟩,_⟩:=x;exact TH e
theorem Paired.mapP{W X:Type}{F G:W->X->Prop}:∀{d:List W} {c:List X},Paired F d c->(∀a b,F a b->G a b)->Paired G d c
 |_,_,.nil,_=>.nil
 |_,_,.cons r t,f=>.cons (f _ _ r) (Paired.mapP t f)
theorem ObjOk.stay(x:ObjOk P w H h a o)(k:∀b u,(b=a\/H b=some (.own a))->h.get? b=some u->h'.get? b=some u)
 (s:∀b,H b=some (.own a)->H' b=some (.own a)) (F:∀b xs,H b=some (.tup xs)->H' b=some (.tup xs)):ObjOk P w H' h' a o:=by
 induction o with
 |lst xs=>obtain⟨z,its,n,r,e⟩:=x;exact⟨z,its,n,r,k _ _ (.inl rfl) e⟩
 |tup xs=>obtain⟨z,its,r,ob,e,c⟩:=x;exact⟨z,its,r,ob,k _ _ (.inl rfl) e,c⟩
 |dK kvs=>obtain⟨z,y,vs,r,ob,i,ep,e,c⟩:=x;exact⟨z,y,vs,r,ob,i,ep,k _ _ (.inl rfl) e,c⟩
 |dT kvs=>
   obtain⟨z,y,xs,r,ob,i,ep,e,c⟩:=x;exact⟨z,y,xs,Paired.mapP r λp q z=>⟨z.1,F _ _ z.2.1,z.2.2⟩,ob,i,ep,k _ _ (.inl rfl) e,c⟩
 |set S n=>obtain⟨ob,i,ep,t,e,c⟩:=x;exact⟨ob,i,ep,t,k _ _ (.inl rfl) e,c⟩
 |ins C dx fs=>
   obtain⟨d,z,ne,e,m,⟨j,i,ep,I,c⟩,r⟩:=x;exact⟨s _ d,z,ne,k _ _ (.inl rfl) e,m,⟨j,i,ep,k _ _ (.inr d) I,c⟩,r⟩
 |own y=>obtain⟨ob,e⟩:=x;exact⟨ob,k _ _ (.inl rfl) e⟩
 |xd fs=>obtain⟨m,⟨j,i,ep,e,c⟩,r⟩:=x;exact⟨m,⟨j,i,ep,k _ _ (.inl rfl) e,c⟩,r⟩
 |rng lo hi=>obtain⟨t,u,v,e⟩:=x;exact⟨t,u,v,k _ _ (.inl rfl) e⟩
 |frz ob u D=>obtain⟨e,q⟩:=x;exact⟨k _ _ (.inl rfl) e,D q⟩
 |tbl l=>
   obtain⟨J,ps,e,t,q⟩:=x;refine⟨J,ps,k _ _ (.inl rfl) e,t,λy E=>?_⟩;rcases q y E with z|⟨c,z,A,⟨L,o,vs,B,G,g,r⟩⟩
   ·exact .inl z
   ·cases G;exact .inr ⟨c,z,s _ A,⟨c,o,vs,B,rfl,k _ _ (.inr A) g,r⟩⟩
 |met f y=>
   have e:h.get? a=some (PySem.W.methodObj (.ref f) (.ref y)):=x;show h'.get? a=some (PySem.W.methodObj (.ref f) (.ref y));exact k a _ (.inl rfl) e
 |ext K=>obtain⟨p,⟨o,e⟩,st⟩:=x;exact⟨st _ _ p λo q=>k _ _ (.inl rfl) q,⟨o,k _ _ (.inl rfl) e⟩,st⟩
theorem HOk.lt(x:HOk P w H h)(e:H a=some o):a<h.objs.size:=(x a o e).lt
theorem HOk.fresh(x:HOk P w H h)(e:h.objs.size<=a):H a=none:=by
 cases q:H a with
 |none=>rfl
 |some u=>exact absurd (T1 (x.lt q) e) (Uy _)
theorem HOk.kept(x:HOk P w H h)(k:∀b u,h.get? b=some u->h'.get? b=some u):HOk P w H h':=λa o e=>
 (x a o e).stay (λb u _ q=>k b u q) (λ_ q=>q) λ_ _ q=>q
theorem HOk.laid(x:HOk P w H h)(k:∀b u,h.get? b=some u->h'.get? b=some u)(hp:h.objs.size<=a)(new:ObjOk P w (upd H a o) h' a o):HOk P w (upd H a o) h':=λb u e=>by
 have d:=x.fresh hp;by_cases f:b=a
 ·subst f;rw[aM]at e;cases e;exact new
 ·rw[ay f]at e;exact(x b u e).stay (λc v _ q=>k c v q) (λc q=>by rw[ay (bf q d)];exact q) λc xs q=>by rw[ay (bf q d)];exact q
end
def Rd(H:Hp)(a:Addr)(u:HO):Prop:=H a=some u\/∃o,H a=some (.frz o u)
theorem Rd.ok{P:Program}{w:World}{H:Hp}{h:Heap}{a:Addr}{u:HO}(r:Rd H a u)(x:HOk P w H h):ObjOk P w H h a u:=by
 rcases r with r|⟨o,r⟩
 ·exact x a u r
 ·obtain⟨_,q⟩:=x a _ r;exact q
def Sc:Option HO->Prop
 |some (.lst _)=>True
 |some (.dK _)=>True
 |some (.dT _)=>True
 |some (.set _ _)=>True
 |some (.ins _ _ _)=>True
 |some (.ext _)=>True
 |_=>False
section
variable{P:Program}{w:World}{H:Hp}{h h':Heap}{x e:Addr}{o':HO}
theorem HOk.write(ok:HOk P w H h)(g:Sc (H x))(n:e=x\/H e=some (.own x))(k:∀b u,b≠e->h.get? b=some u->h'.get? b=some u)(l:∃u,h'.get? e=some u)
 (new:ObjOk P w (upd H x o') h' x o'):HOk P w (upd H x o') h':=λb u q=>by
 have d:∀c y,H c=some (.own y)->c≠x:=λc y r z=>by subst z;rw[r]at g;exact g
 have f:∀c xs,H c=some (.tup xs)->c≠x:=λc xs r z=>by subst z;rw[r]at g;exact g
 by_cases j:b=x
 ·subst j;rw[aM]at q;cases q;exact new
 · rw[ay j]at q;by_cases a:b=e
   · have m:H b=some (.own x):=by
      rcases n with z|z
      ·exact absurd (a.trans z) j
      ·rw[a];exact z
     rw[q]at m;cases m;obtain⟨v,o⟩:=l;exact⟨v,by rw[a];exact o⟩
   · refine(ok b u q).stay (λc v i r=>k c v ?_ r) (λc r=>by rw[ay (d c b r)];exact r) λc xs r=>by rw[ay (f c xs r)];exact r
     rcases i with rfl|i
     ·exact a
     · rintro rfl;rcases n with z|z
       ·exact d c b i z
       ·rw[i]at z;cases z;exact j rfl
end
structure Un (fs ex:List Addr) (H H':Hp) (h h':Heap):Prop where
 keep:∀b o,h.get? b=some o->H b=none->b∉fs->b∉ex->h'.get? b=some o
 slot:∀b o,h.get? b=some o->H b=none->b∈fs->b∉ex->∃sl,h'.get? b=some {o with slots:=sl}
 free:∀b o,h.get? b=some o->H b=none->b∉ex->H' b=none
 there:∀b o,h.get? b=some o->b∉ex->∃o',h'.get? b=some o'
 tups:∀b xs,H b=some (.tup xs)->H' b=some (.tup xs)
 frzs:∀b o u,H b=some (.frz o u)->H' b=some (.frz o u)
 tbls:∀b l,H b=some (.tbl l)->H' b=some (.tbl l)/\∀c o,H c=some (.own b)->h.get? c=some o->H' c=some (.own b)/\h'.get? c=some o
section
variable{fs fs' ex ex':List Addr}{H H1 H2:Hp}{h h1 h2 h':Heap}{a x e:Addr}{o:HO}
theorem Un.any(u:Un fs ex H H1 h h1){b:Addr}{ob:Obj}(q:h.get? b=some ob)(n:H b=none)(a:b∉ex):∃d,h1.get? b=some {ob with slots:=d}:=by
 by_cases c:b∈fs
 ·exact u.slot b ob q n c a
 ·exact⟨ob.slots,u.keep b ob q n c a⟩
theorem Un.kept(k:∀b u,h.get? b=some u->h'.get? b=some u):Un fs ex H H h h':=
 ⟨λb ob q _ _ _=>k b ob q,λb ob q _ _ _=>⟨ob.slots,k b ob q⟩,λ_ _ _ n _=>n,λb ob q _=>⟨ob,k b ob q⟩,λ_ _ q=>q,λ_ _ _ q=>q,λ_ _ q=>⟨q,λc o e1 a=>⟨e1,k c o a⟩⟩⟩
theorem Un.refl:Un fs ex H H h h:=Un.kept λ_ _ q=>q
theorem Un.laid(k:∀b u,h.get? b=some u->h'.get? b=some u)(hp:h.objs.size<=a)(d:H a=none):Un fs ex H (upd H a o) h h' where
 keep:=λb u q _ _ _=>k b u q
 slot:=λb u q _ _ _=>⟨u.slots,k b u q⟩
 free:=λb u q n _=>by rw[ay (T8 (T1 (TH q) hp))];exact n
 there:=λb u q _=>⟨u,k b u q⟩
 tups:=λb xs q=>by rw[ay (bf q d)];exact q
 frzs:=λb u xs q=>by rw[ay (bf q d)];exact q
 tbls:=λb xs q=>⟨by rw[ay (bf q d)];exact q,λc o e1 e=>⟨by rw[ay (bf e1 d)];exact e1,k c o e⟩⟩
theorem Un.write(a:Sc (H x))(j:e=x\/H e=some (.own x))(k:∀b u,b≠e->h.get? b=some u->h'.get? b=some u)(g:∃u,h'.get? e=some u):Un fs ex H (upd H x o) h h':=by
 have i:∀b,H b=none->b≠x:=λb n z=>by subst z;rw[n]at a;exact a
 have l:∀b,H b=none->b≠e:=λb n z=>by
  subst z;rcases j with r|r
  ·exact i b n r
  ·rw[n]at r;cases r
 have d:∀b u,H b=some u->¬ Sc (some u)->b≠x:=λb u q nm z=>by subst z;rw[q]at a;exact nm a
 refine⟨λb u q n _ _=>k b u (l b n) q,λb u q n _ _=>⟨u.slots,k b u (l b n) q⟩,λb u q n _=>by rw[ay (i b n)];exact n,λb u q _=>?_,
  λb xs q=>by rw[ay (d b _ q λz=>z)];exact q,λb u xs q=>by rw[ay (d b _ q λz=>z)];exact q,λb ps q=>⟨by rw[ay (d b _ q λz=>z)];exact q,λc o e1 m=>⟨by rw[ay (d c _ e1 λz=>z)];exact e1,k c o (λz=>by
   rcases j with r|r
   ·exact d c _ e1 (λz=>z) (z.trans r)
   ·rw[<-z,e1]at r;cases r;rw[q]at a;exact a) m⟩⟩⟩
 by_cases f:b=e
 ·subst f;exact g
 ·exact⟨u,k b u f q⟩
end
def Sg(h:Heap)(H:Hp):List Addr:=(List.range h.objs.size).filter λa=>(H a).isSome
def o0(h:Heap)(H:Hp):Heap:=PySem.W.hideAll h (Sg h H)
theorem A7(h:Heap)(H:Hp):(o0 h H).objs.size=h.objs.size:=PySem.W.hideAll_size _ _
theorem E9{h:Heap}{H:Hp}{b:Addr}{o:Obj}(e:h.get? b=some o)(n:H b=none):(o0 h H).get? b=some o:=
 Vm _ e λa=>by
  have q:(H b).isSome=true:=(U8.mp a).2;rw[n]at q;simp at q
theorem Hi{h:Heap}{H:Hp}{b:Addr}{o:Obj}(e:(o0 h H).get? b=some o):h.get? b=some o/\H b=none:=by
 have a:h.get? b=some o:=PySem.W.of_hideAll (Sg h H) e;refine⟨a,?_⟩;cases q:H b with
 |none=>rfl
 |some x=>
   have c:b∈Sg h H:=U8.mpr ⟨WL.mpr (TH a),by simp[q]⟩;have z:(o0 h H).get? b=none:=PySem.W.hideAll_none (Sg h H) c;rw[z]at e;cases e
def Ir(g h:Heap)(L:Addr):L0:=(List.range h.objs.size).filterMap λa=>if a=L\/(g.get? a).isSome=true then none else (h.get? a).map λo=>(a,o)
def iA(g h:Heap)(L d:Addr):L0:=(Ir g h L).filter λp=>decide (p.1≠d)
structure Mod (K:F0) (mg:Str->Option Value) (base:Heap):Prop where
 kin:K.In base
 glob:base.Ns mainGlobals mg
 blt:∃mb,base.Ns builtinsNs mb/\∀x:Str,x ≠ "__name__" -> mb x=bootBuiltins x
 nolimit:base.NoLimit
 bmod:∃bm o,mg "__builtins__" = some (.ref bm)/\bm≠builtinsNs/\base.get? bm=some o/\o.cls=.type "module" /\ o.dict=some builtinsNs/\o.data=.plain
structure Cx where
 prog:Program
 w:World
 K:F0
 mg:Str->Option Value
 base:Heap
 A:Around
 N:List Str
 s₀:Shared
 H₀:Hp
 env:Env
 outer:List Env
 stack:List Env
 ex:List Addr
 fn:Str->Bool
 calm:Bool
 pn:L0
 xe:Value->Shared->Prop
def jp(l:List Env):List Addr:=l.filterMap (·.frame)
abbrev Cx.fs(X:Cx):List Addr:=jp X.outer
def Te(sc:Scope)(x:Str):Prop:=sc.names.lookup x=some .local\/sc.names.lookup x=some .cell\/sc.names.lookup x=some .free
def Sd(sc:Scope)(x:Str):Prop:=sc.names.lookup x=some .local\/sc.names.lookup x=some .cell
def Tj(env:Env)(h:Heap)(m:Str->Option Value)(x:Str)(u:Value):Prop:=
 (env.kindOf x=some .local/\m x=some u)\/((env.kindOf x=some .cell\/env.kindOf x=some .free)/\∃c,env.cells.lookup x=some c/\h.IsCell c (some u))
structure Cx.Ok (X:Cx):Prop where
 mod:Mod X.K X.mg X.base
 kind:X.env.scope.kind=.function
 glob:X.env.globals=mainGlobals
 blt:X.env.builtins=builtinsNs
 above:X.s₀.heap.objs.size<=X.env.locals
 inj:∀x y c,X.env.cells.lookup x=some c->X.env.cells.lookup y=some c->x=y
 has:∀x,(X.env.kindOf x=some .cell\/X.env.kindOf x=some .free)->∃c,X.env.cells.lookup x=some c
 cab:∀x c,X.fn x=true->X.env.cells.lookup x=some c->X.s₀.heap.objs.size<=c
 hd:X.calm=true->X.A.handled=none
 frames:X.A.frames=some X.stack
 stk:X.stack=X.outer\/(X.stack=X.env::X.outer/\X.env.frame=some X.env.locals)
 exf:∀b∈X.ex,b≠X.env.locals/\∀x c,X.env.cells.lookup x=some c->c≠b
 bs:∀b o,X.base.get? b=some o->X.s₀.heap.get? b=some o/\X.H₀ b=none
 bsz:X.base.objs.size<=X.s₀.heap.objs.size
 noex:∀b o,X.base.get? b=some o->b∉X.ex
 exfs:∀b∈X.ex,b∉X.fs
 funs:X.s₀.heap.FunFrames X.base X.outer
 frf:∀b∈X.fs,X.H₀ b=none
structure Inv (X:Cx) (pins:L0) (Z:List (Option V)) (H:Hp) (s:Shared):Prop where
 ok:X.Ok
 os:s.os=X.s₀.os
 bare:AllBare s.gens
 base:Un X.fs X.ex X.H₀ H X.s₀.heap s.heap
 loc:∃m,s.heap.Ns X.env.locals m/\∀(i:Nat) (x:Str) (v:V),X.N[i]?=some x->Z[i]?=some (some v)->Te X.env.scope x->∃u,RelV v u/\Tj X.env s.heap m x u
 cell:∀x c,X.env.cells.lookup x=some c->∃v,s.heap.IsCell c v
 free:H X.env.locals=none
 freeC:∀x c,X.env.cells.lookup x=some c->H c=none
 pin:∀p∈X.pn++pins,s.heap.get? p.1=some p.2/\H p.1=none/\p.1≠X.env.locals/\p.1∉X.fs/\∀v,p.2.data≠ .cell v
 hok:HOk X.prog X.w H s.heap
 len:Z.length=X.N.length
section
variable{X:Cx}{pins:L0}{Z:List (Option V)}{H H':Hp}{s:Shared}{h':Heap}
theorem Cx.Ok.nofr(ok:X.Ok){b:Addr}{o:Obj}(e:X.base.get? b=some o):b∉X.fs:=λa=>by
 have:=(ok.funs.mem a).1
 rw[e]at this;cases this
theorem Inv.bs(I:Inv X pins Z H s):∀b o,X.base.get? b=some o->s.heap.get? b=some o/\H b=none:=λb o e=>
 ⟨I.base.keep b o (I.ok.bs b o e).1 (I.ok.bs b o e).2 (I.ok.nofr e) (I.ok.noex b o e),I.base.free b o (I.ok.bs b o e).1 (I.ok.bs b o e).2 (I.ok.noex b o e)⟩
theorem Inv.bk(I:Inv X pins Z H s):∀b o,X.base.get? b=some o->s.heap.get? b=some o:=λb o e=>(I.bs b o e).1
theorem Inv.mod(I:Inv X pins Z H s):Mod X.K X.mg X.base:=I.ok.mod
theorem Inv.kIn(I:Inv X pins Z H s):X.K.In s.heap:=I.ok.mod.kin.keeps I.bk
theorem Inv.lt(I:Inv X pins Z H s):X.env.locals<s.heap.objs.size:=let ⟨_,a,_⟩:=I.loc;a.lt
theorem Inv.sz(I:Inv X pins Z H s):X.s₀.heap.objs.size<=s.heap.objs.size:=Uk I.ok.above (UK I.lt)
theorem Inv.nofs(I:Inv X pins Z H s){a:Addr}(h:s.heap.objs.size<=a):a∉X.fs:=λc=>by
 obtain⟨_,o,b,_⟩:=I.ok.funs.mem c;exact absurd (T1 (TH b) (Uk I.sz h)) (Uy _)
theorem Inv.cne(I:Inv X pins Z H s):∀x c,X.env.cells.lookup x=some c->c≠X.env.locals:=λx c e z=>by
 obtain⟨v,o,d,hd⟩:=I.cell x c e;obtain⟨m,⟨o',f,ep,a,b,_⟩,_⟩:=I.loc;rw[z,a]at d;cases d;rw[b]at hd;cases hd
theorem Inv.funs(I:Inv X pins Z H s):s.heap.FunFrames X.base X.outer:=by
 have all:∀(l:List Env),(∀b∈jp l,b∈X.fs)->X.s₀.heap.FunFrames X.base l->s.heap.FunFrames X.base l:=by
  intro l
  induction l with
  |nil=>intro _ _;trivial
  |cons env r g=>
    intro f k;obtain⟨m,⟨L,o,a,j,i,hd⟩,h⟩:=k;have d:L∈X.fs:=f L (by unfold jp;rw[List.filterMap_cons,a];exact List.mem_cons_self);obtain⟨n,e⟩:=I.base.slot L o i (I.ok.frf L d) d λz=>I.ok.exfs L z d;exact⟨m,⟨L,_,a,j,e,hd⟩,g (λb c=>f b (by unfold jp;rw[List.filterMap_cons,a];exact List.mem_cons_of_mem _ c)) h⟩
 exact all X.outer (λ_ c=>c) I.ok.funs
theorem Inv.stack(I:Inv X pins Z H s):s.heap.FunFrames X.base X.stack:=by
 rcases I.ok.stk with e|⟨e,b⟩
 ·rw[e];exact I.funs
 ·rw[e];obtain⟨m,a,_⟩:=I.loc;refine .cons (by rw[I.ok.kind];decide) b a ?_ I.funs;exact Heap.get?_none_of_le (Uk I.ok.bsz I.ok.above)
theorem Inv.stkSub(I:Inv X pins Z H s):∀b∈jp X.stack,b∈X.env.locals::X.fs:=λb a=>by
 rcases I.ok.stk with e|⟨e,c⟩
 ·rw[e]at a;exact Tt _ a
 ·rw[e]at a;unfold jp at a;rw[List.filterMap_cons,c]at a;exact a
theorem Inv.stkFree(I:Inv X pins Z H s):∀b∈jp X.stack,H b=none:=λb a=>by
 rcases Tz.mp (I.stkSub b a) with e|a
 ·rw[e];exact I.free
 ·obtain⟨_,o,c,_⟩:=I.ok.funs.mem a;exact I.base.free b o c (I.ok.frf b a) λz=>I.ok.exfs b z a
theorem Inv.step{g':Array GenState}{t':Nat}{d':Drawn}{ch:List Addr}(I:Inv X pins Z H s)
 (g:∀b∈ch,(b∈X.ex\/X.s₀.heap.objs.size<=b)/\b≠X.env.locals/\(∀x c,X.env.cells.lookup x=some c->c≠b)/\∀p∈X.pn++pins,p.1≠b)
 (keep:∀b o,b≠X.env.locals->b∉X.fs->b∉ch->s.heap.get? b=some o->H b=none->h'.get? b=some o)
 (slot:∀b o,b≠X.env.locals->b∈X.fs->b∉ch->s.heap.get? b=some o->H b=none->∃D,h'.get? b=some {o with slots:=D}) (free:∀b o,b∉ch->s.heap.get? b=some o->H b=none->H' b=none)
 (there:∀b o,b∉ch->s.heap.get? b=some o->∃o',h'.get? b=some o')
 (tups:∀b xs,H b=some (.tup xs)->H' b=some (.tup xs)) (frzs:∀b o u,H b=some (.frz o u)->H' b=some (.frz o u)) (tbls:∀b l,H b=some (.tbl l)->H' b=some (.tbl l)/\∀c o,H c=some (.own b)->s.heap.get? c=some o->H' c=some (.own b)/\h'.get? c=some o)
 (ns:∀m,s.heap.Ns X.env.locals m->h'.Ns X.env.locals m) (hok:HOk X.prog X.w H' h') (K:AllBare g'):
 Inv X pins Z H' {s with heap:=h',gens:=g',drawn:=d',toks:=t'}:=by
 have A:∀b o,X.s₀.heap.get? b=some o->b≠X.env.locals:=λb o e=>T8 (T1 (TH e) I.ok.above)
 have j:∀b o,X.s₀.heap.get? b=some o->b∉X.ex->b∉ch:=λb o e a t=>by
  rcases(g b t).1 with z|z
  ·exact a z
  ·exact absurd (T1 (TH e) z) (Uy _)
 have h:∀x c,X.env.cells.lookup x=some c->∀v,s.heap.IsCell c v->h'.IsCell c v:=λx c e v ⟨o,y,hd⟩=>by
  have f:c∉ch:=λz=>(g c z).2.2.1 x c e rfl;by_cases F:c∈X.fs
  ·obtain⟨D,q⟩:=slot c o (I.cne x c e) F f y (I.freeC x c e);exact⟨_,q,hd⟩
  ·exact⟨o,keep c o (I.cne x c e) F f y (I.freeC x c e),hd⟩
 refine⟨I.ok,I.os,K,⟨λb o e n t a=>?_,λb o e n t a=>?_,λb o e n a=>?_,λb o e a=>?_,λb xs e=>tups b xs (I.base.tups b xs e),λb o xs e=>frzs b o xs (I.base.frzs b o xs e),λb ps e=>⟨(tbls b ps (I.base.tbls b ps e).1).1,λc o e1 B=>let ⟨M,L⟩:=(I.base.tbls b ps e).2 c o e1 B;(tbls b ps (I.base.tbls b ps e).1).2 c o M L⟩⟩,?_,λx c e=>?_,?_,λx c e=>?_,λp hp=>?_,hok,I.len⟩
 ·exact keep b o (A b o e) t (j b o e a) (I.base.keep b o e n t a) (I.base.free b o e n a)
 ·obtain⟨D,e1⟩:=I.base.slot b o e n t a;obtain⟨C,B⟩:=slot b _ (A b o e) t (j b o e a) e1 (I.base.free b o e n a);exact⟨C,B⟩
 ·obtain⟨o',e1⟩:=I.base.there b o e a;exact free b o' (j b o e a) e1 (I.base.free b o e n a)
 ·obtain⟨o',e1⟩:=I.base.there b o e a;exact there b o' (j b o e a) e1
 · obtain⟨m,G,J⟩:=I.loc;refine⟨m,ns m G,λi x v e1 B N=>?_⟩;obtain⟨u,r,l⟩:=J i x v e1 B N;refine⟨u,r,?_⟩;rcases l with l|⟨k,c,e,z⟩
   ·exact .inl l
   ·exact .inr ⟨k,c,e,h x c e _ z⟩
 ·obtain⟨v,z⟩:=I.cell x c e;exact⟨v,h x c e v z⟩
 ·obtain⟨m,⟨o,_,_,y,_⟩,_⟩:=I.loc;exact free _ o (λz=>(g _ z).2.1 rfl) y I.free
 ·obtain⟨v,o,y,hd⟩:=I.cell x c e;exact free c o (λz=>(g c z).2.2.1 x c e rfl) y (I.freeC x c e)
 ·obtain⟨e,n,ne,E,d⟩:=I.pin p hp;have f:p.1∉ch:=λz=>(g p.1 z).2.2.2 p hp rfl;exact⟨keep p.1 p.2 ne E f e n,free p.1 p.2 f e n,ne,E,d⟩
theorem Inv.un{t':Nat}(I:Inv X pins Z H s)(u:Un X.fs [] H H' s.heap h')(hok:HOk X.prog X.w H' h'):Inv X pins Z H' {s with heap:=h',toks:=t'}:=by
 obtain⟨m,⟨o,p,ep,g,r⟩,_⟩:=id I.loc;obtain⟨k,j⟩:=u.any g I.free (by simp)
 exact I.step (g':=s.gens) (d':=s.drawn) (ch:=[]) (λ_ z=>nomatch z) (λb o _ c _ e n=>u.keep b o e n c (by simp)) (λb o _ c _ e n=>u.slot b o e n c (by simp)) (λb o _ e n=>u.free b o e n (by simp)) (λb o _ e=>u.there b o e (by simp)) u.tups u.frzs u.tbls (λl i=>by
  obtain⟨o',d,f,a,h⟩:=i;rw[g]at a;cases a
  exact⟨_,d,f,j,h⟩) hok I.bare
theorem Inv.call{g':Array GenState}{t':Nat}{d':Drawn}{ch:List Addr}(I:Inv X pins Z H s)(u:Un (jp X.stack) ch H H' s.heap h')(hok:HOk X.prog X.w H' h')(q:AllBare g')
 (f:∀b∈ch,(b∈X.ex\/X.s₀.heap.objs.size<=b)/\b≠X.env.locals/\(∀x c,X.env.cells.lookup x=some c->c≠b)/\∀p∈X.pn++pins,p.1≠b):
 Inv X pins Z H' {s with heap:=h',gens:=g',drawn:=d',toks:=t'}:=by
 obtain⟨m,⟨o,A,ep,j,r⟩,_⟩:=id I.loc;obtain⟨v,g⟩:=u.any j I.free λz=>(f _ z).2.1 rfl
 exact I.step (ch:=ch) f (λb o g t a e n=>u.keep b o e n (λz=>(Tz.mp (I.stkSub b z)).elim g t) a) (λb o _ _ a e n=>u.any e n a) (λb o a e n=>u.free b o e n a) (λb o a e=>u.there b o e a) u.tups u.frzs u.tbls (λy l=>by
  obtain⟨o',h,i,d,k⟩:=l;rw[j]at d;cases d
  exact⟨_,h,i,g,k⟩) hok q
theorem Inv.turned{t':Nat}{a:Addr}(I:Inv X pins Z H s)(k:∀b o,b≠a->s.heap.get? b=some o->h'.get? b=some o)(g:H a=none)(h:a≠X.env.locals)
 (y:a∈X.ex\/X.s₀.heap.objs.size<=a) (w:∀x c,X.env.cells.lookup x=some c->c≠a) (t:∀p∈X.pn++pins,p.1≠a):Inv X pins Z H {s with heap:=h',toks:=t'}:=by
 have f:∀b u,H b=some u->b≠a:=λb u e z=>by rw[z,g]at e;cases e
 refine I.step (g':=s.gens) (d':=s.drawn) (ch:=[a]) (λb l=>?_) (λb o _ _ d e _=>k b o (λz=>d (by simp[z])) e) (λb o _ _ d e _=>⟨o.slots,k b o (λz=>d (by simp[z])) e⟩) (λ_ _ _ _ n=>n)
  (λb o d e=>⟨o,k b o (λz=>d (by simp[z])) e⟩) (λ_ _ e=>e) (λ_ _ _ e=>e) (λ_ _ e=>⟨e,λc o e1 B=>⟨e1,k c o (bf e1 g) B⟩⟩) (λm j=>?_) (λb u e=>?_) I.bare
 · have e:b=a:=by simpa using l
   subst e;exact⟨y,h,w,t⟩
 ·obtain⟨o,A,ep,i,r⟩:=j;exact⟨o,A,ep,k _ o (Va h) i,r⟩
 · refine(I.hok b u e).stay (λc v d q=>k c v ?_ q) (λ_ q=>q) λ_ _ q=>q;rcases d with z|z
   ·rw[z];exact f b u e
   ·exact f c _ z
theorem Inv.tok(I:Inv X pins Z H s)(t:Nat):Inv X pins Z H {s with toks:=t}:=I.un (h':=s.heap) (t':=t) Un.refl I.hok
theorem Inv.kept{t':Nat}(I:Inv X pins Z H s)(k:∀b u,s.heap.get? b=some u->h'.get? b=some u):Inv X pins Z H {s with heap:=h',toks:=t'}:=I.un (Un.kept k) (I.hok.kept k)
theorem Inv.laid{a:Addr}{o:HO}{t':Nat}(I:Inv X pins Z H s)(k:∀b u,s.heap.get? b=some u->h'.get? b=some u)(hp:s.heap.objs.size<=a)(new:ObjOk X.prog X.w (upd H a o) h' a o):
 Inv X pins Z (upd H a o) {s with heap:=h',toks:=t'}:=I.un (Un.laid k hp (I.hok.fresh hp)) (I.hok.laid k hp new)
theorem Inv.write{x e:Addr}{o:HO}{t':Nat}(I:Inv X pins Z H s)(c:Sc (H x))(d:e=x\/H e=some (.own x))(k:∀b u,b≠e->s.heap.get? b=some u->h'.get? b=some u)(a:∃u,h'.get? e=some u)
 (new:ObjOk X.prog X.w (upd H x o) h' x o):Inv X pins Z (upd H x o) {s with heap:=h',toks:=t'}:=I.un (Un.write c d k a) (I.hok.write c d k a new)
theorem Inv.pins_of{a:L0}(I:Inv X pins Z H s)(h:∀p∈a,s.heap.get? p.1=some p.2/\H p.1=none/\p.1≠X.env.locals/\p.1∉X.fs/\∀v,p.2.data≠ .cell v):Inv X a Z H s:=
 ⟨I.ok,I.os,I.bare,I.base,I.loc,I.cell,I.free,I.freeC,λp hp=>(TY.mp hp).elim (λz=>I.pin p (TL _ z)) (h p),I.hok,I.len⟩
theorem oB{N:List Str}(c:N.Nodup){i j:Nat}{x:Str}(a:N[i]?=some x)(b:N[j]?=some x):i=j:=by
 obtain⟨f,e1⟩:=TW.mp a;obtain⟨e,d⟩:=TW.mp b;exact(List.getElem_inj c).mp (e1.trans d.symm)
theorem Aq{M:Model}{A:Around}{E:L1}{i:Nat}{x:Str}{v:V}{u:Value}{Q:Unit->Shared->Prop}(I:Inv X pins Z H s)(hN:X.N.Nodup)(hi:X.N[i]?=some x)(B:Sd X.env.scope x)(r:RelV v u)
 (h:∀s',Inv X pins (Z.set i (some v)) H s'->(∃a,Heap.SameBut a s.heap s'.heap/\(a=X.env.locals\/X.env.cells.lookup x=some a))->Q () s') (hf:X.fn x=true\/X.env.scope.names.lookup x=some .local:=by first | exact .inl rfl | exact .inr rfl | assumption):wpAny M A (storeName X.env x u) Q E s:=by
 obtain⟨m,hn,hl⟩:=id I.loc;have S:(X.env.scope.kind == .class||(X.env.scope.kind == .module&&X.env.locals != X.env.globals))=false:=by rw[I.ok.kind];rfl
 have G:i<Z.length:=by rw[I.len];exact(TW.mp hi).1
 have cne:=I.cne
 have g:∀{a:Addr} {h':Heap},(∃o,s.heap.get? a=some o/\H a=none)->Heap.SameBut a s.heap h'->HOk X.prog X.w H h':=λ{a h'} ha f b ob e=>by
  obtain⟨_,_,D⟩:=ha;refine(I.hok b ob e).stay (λc Y t q=>(f.2 c ?_).trans q) (λ_ q=>q) λ_ _ q=>q;rintro rfl;rcases t with rfl|t
  ·rw[D]at e;cases e
  ·rw[D]at t;cases t
 rcases B with F|F
 · refine wpAny_storeName_local F hn (λh' hn' f=>?_) S;obtain⟨oL,_,_,hoL,_⟩:=id hn;refine h _ ⟨I.ok,I.os,I.bare,⟨λb o e n L B=>?_,λb o e n L B=>?_,I.base.free,λb o e B=>?_,I.base.tups,I.base.frzs,λb l q=>⟨(I.base.tbls b l q).1,λc o e1 C=>let ⟨W,f2⟩:=(I.base.tbls b l q).2 c o e1 C;⟨W,(f.2 c (bf W I.free)).trans f2⟩⟩⟩,⟨_,hn',λj y v' e1 C e3=>?_⟩,λy c e=>?_,I.free,I.freeC,λp hp=>?_,g ⟨oL,hoL,I.free⟩ f,by simpa using I.len⟩ ⟨_,f,.inl rfl⟩
   ·exact(f.2 b (T8 (T1 (TH e) I.ok.above))).trans (I.base.keep b o e n L B)
   ·obtain⟨sl,e1⟩:=I.base.slot b o e n L B;exact⟨sl,(f.2 b (T8 (T1 (TH e) I.ok.above))).trans e1⟩
   ·obtain⟨o',e1⟩:=I.base.there b o e B;exact⟨o',(f.2 b (T8 (T1 (TH e) I.ok.above))).trans e1⟩
   · by_cases J:j=i
     ·subst J;rw[hi]at e1;cases e1;rw[UV G]at C;cases C;exact⟨u,r,.inl ⟨F,by simp⟩⟩
     · rw[VA (Va J)]at C;obtain⟨u',r',q⟩:=hl j y v' e1 C e3;refine⟨u',r',?_⟩;rcases q with ⟨k,e⟩|⟨k,c,e,z⟩
       · refine .inl ⟨k,?_⟩
         have:y≠x:=λe=>J (oB hN e1 (e▸hi))
         simp[this,e]
       ·exact .inr ⟨k,c,e,z.sameBut f (cne y c e)⟩
   ·obtain⟨Y,z⟩:=I.cell y c e;exact⟨Y,z.sameBut f (cne y c e)⟩
   ·obtain⟨e,n,ne,nf,d⟩:=I.pin p hp;exact⟨(f.2 p.1 ne).trans e,n,ne,nf,d⟩
 · have K:X.fn x=true:=by
    rcases hf with z|z
    ·exact z
    ·rw[z]at F;cases F
   obtain⟨c,t⟩:=I.ok.has x (.inl F);obtain⟨Y,z⟩:=I.cell x c t;refine wpAny_storeName_cell I.ok.kind F t z (λh' U f=>?_);obtain⟨oc,R,P⟩:=id z;refine h {s with heap:=h'} ⟨I.ok,I.os,I.bare,⟨λb o e n L B=>?_,λb o e n L B=>?_,I.base.free,λb o e B=>?_,I.base.tups,I.base.frzs,λb l q=>⟨(I.base.tbls b l q).1,λO o e1 C=>let ⟨W,f2⟩:=(I.base.tbls b l q).2 O o e1 C;⟨W,(f.2 O (bf W (I.freeC x c t))).trans f2⟩⟩⟩,⟨m,hn.sameBut f (Va (cne x c t)),λj y v' e1 C e3=>?_⟩,λy O e=>?_,I.free,I.freeC,λp hp=>?_,g ⟨oc,R,I.freeC x c t⟩ f,by simpa using I.len⟩ ⟨c,f,.inr t⟩
   ·exact(f.2 b (T8 (T1 (TH e) (I.ok.cab x c K t)))).trans (I.base.keep b o e n L B)
   ·obtain⟨sl,e1⟩:=I.base.slot b o e n L B;exact⟨sl,(f.2 b (T8 (T1 (TH e) (I.ok.cab x c K t)))).trans e1⟩
   ·obtain⟨o',e1⟩:=I.base.there b o e B;exact⟨o',(f.2 b (T8 (T1 (TH e) (I.ok.cab x c K t)))).trans e1⟩
   · by_cases J:j=i
     ·subst J;rw[hi]at e1;cases e1;rw[UV G]at C;cases C;exact⟨u,r,.inr ⟨.inl F,c,t,U⟩⟩
     · rw[VA (Va J)]at C;obtain⟨u',r',q⟩:=hl j y v' e1 C e3;refine⟨u',r',?_⟩;rcases q with q|⟨k,O,e,z'⟩
       ·exact .inl q
       ·refine .inr ⟨k,O,e,z'.sameBut f ?_⟩;rintro rfl;exact J (oB hN e1 (I.ok.inj _ _ _ e t▸hi))
   · by_cases T:O=c
     ·subst T;exact⟨_,U⟩
     ·obtain⟨w2,z2⟩:=I.cell y O e;exact⟨w2,z2.sameBut f T⟩
   ·obtain⟨e,n,ne,nf,d⟩:=I.pin p hp;refine⟨(f.2 p.1 ?_).trans e,n,ne,nf,d⟩;intro q;rw[q,R]at e;have q':oc=p.2:=T2 e;exact d Y (by rw[<-q'];exact P)
theorem nG{M:Model}{A:Around}{E:L1}{i:Nat}{x:Str}{v:V}{u:Value}{Q:Unit->Shared->Prop}(I:Inv X pins Z H s)(c:X.N.Nodup)(hi:X.N[i]?=some x)(a:Sd X.env.scope x)(r:RelV v u)
 (h:∀s',Inv X pins (Z.set i (some v)) H s'->Q () s') (b:X.fn x=true\/X.env.scope.names.lookup x=some .local:=by first | exact .inl rfl | exact .inr rfl | assumption):wpAny M A (storeName X.env x u) Q E s:=
 Aq I c hi a r (λs' d _=>h s' d) b
theorem Inv.call'{s':Shared}{ch:List Addr}(I:Inv X pins Z H s)(d:s'.os=s.os)(u:Un (jp X.stack) ch H H' s.heap s'.heap)(hok:HOk X.prog X.w H' s'.heap)(f:AllBare s'.gens)
 (a:∀b∈ch,(b∈X.ex\/X.s₀.heap.objs.size<=b)/\b≠X.env.locals/\(∀x c,X.env.cells.lookup x=some c->c≠b)/\∀p∈X.pn++pins,p.1≠b):Inv X pins Z H' s':=by
 obtain⟨h',g',d',t',o'⟩:=s';have e:o'=s.os:=d;subst e;exact I.call (g':=g') (t':=t') (d':=d') u hok f a
end
abbrev XK:=Value->Option Addr->Hp->Prop
abbrev St:=List (Option V)
abbrev VK:=V->Hp->Prop
abbrev TE:=St->Hp->VK->Prop
abbrev TT:=St->Hp->(Bool->Hp->Prop)->Prop
abbrev TA:=St->Hp->(List V->Hp->Prop)->Prop
structure Ends where
 nx:St->Hp->Prop
 rt:VK
 bk:St->Hp->Prop:=λ_ _=>False
 ct:St->Hp->Prop:=λ_ _=>False
abbrev TS:=Ends->St->Hp->Prop
def EP(X:Cx)(a:L0)(Z:St)(Q:VK)(u:Value)(s':Shared):Prop:=∃v H',Inv X a Z H' s'/\RelV v u/\Q v H'
def TP(X:Cx)(a:L0)(Z:St)(Q:Bool->Hp->Prop)(b:Bool)(s':Shared):Prop:=∃H',Inv X a Z H' s'/\Q b H'
def AP(X:Cx)(a:L0)(Z:St)(Q:List V->Hp->Prop)(us:List Value)(s':Shared):Prop:=∃vs H',Inv X a Z H' s'/\Vals vs us/\Q vs H'
def SP(X:Cx)(b:L0)(D:Ends)(f:Flow)(s':Shared):Prop:=
 match f with
 |.next=>∃a H',Inv X b a H' s'/\D.nx a H'
 |.brk=>∃a H',Inv X b a H' s'/\D.bk a H'
 |.cont=>∃a H',Inv X b a H' s'/\D.ct a H'
 |.ret u=>∃v a H',Inv X b a H' s'/\RelV v u/\D.rt v H'
def PE(X:Cx)(e:Expr)(t:TE):Prop:=
 ∀(a:L0) (s:Shared) (Z:St) (H:Hp) (Q:VK),Inv X a Z H s->t Z H Q->wpAny (model X.prog X.w) X.A (eval e X.env) (EP X a Z Q) X.xe s
def PT(X:Cx)(e:Expr)(t:TT):Prop:=
 ∀(a:L0) (s:Shared) (Z:St) (H:Hp) (Q:Bool->Hp->Prop),Inv X a Z H s->t Z H Q->wpAny (model X.prog X.w) X.A (isTrue e X.env (eval e X.env)) (TP X a Z Q) X.xe s
def PW(X:Cx)(e:Expr)(t:TT):Prop:=
 ∀(whole:Sem Value) (a:L0) (s:Shared) (Z:St) (H:Hp) (Q:Bool->Hp->Prop),Inv X a Z H s->t Z H Q->wpAny (model X.prog X.w) X.A (isTrue e X.env whole) (TP X a Z Q) X.xe s
theorem PW.pt{X:Cx}{e:Expr}{t:TT}(h:PW X e t):PT X e t:=h _
def PA(X:Cx)(b:List Expr)(t:TA):Prop:=
 ∀(pos:Pos) (a:L0) (s:Shared) (Z:St) (H:Hp) (Q:List V->Hp->Prop),Inv X a Z H s->t Z H Q->wpAny (model X.prog X.w) X.A (spliced (backTo pos (starEach b X.env))) (AP X a Z Q) X.xe s
def PS(X:Cx)(st:Stmt)(t:TS):Prop:=
 ∀(a:L0) (s:Shared) (Z:St) (H:Hp) (D:Ends),Inv X a Z H s->t D Z H->wpAny (model X.prog X.w) X.A (exec st X.env) (SP X a D) X.xe s
def Gb(X:Cx)(st:List Stmt)(t:TS):Prop:=
 ∀(a:L0) (s:Shared) (Z:St) (H:Hp) (D:Ends),Inv X a Z H s->t D Z H->wpAny (model X.prog X.w) X.A (execs st X.env) (SP X a D) X.xe s
theorem bE{W:Type}{t:Sem W}{Q Q':W->Shared->Prop}{M:Model}{A:Around}{E:L1}{s:Shared}(h:wpAny M A t Q E s)(b:∀a s,Q a s->Q' a s):wpAny M A t Q' E s:=Ve h b λ_ _ x=>x
section
variable{X:Cx}
def cR(i:Nat):TE:=λZ H Q=>∃v,Z[i]?=some (some v)/\Q v H
def tC(v:V):TE:=λ_ H Q=>Q v H
theorem LJ{i:Nat}{x:Str}{pos:Pos}(q:X.N[i]?=some x)(k:Te X.env.scope x)(hd:(x==("__debug__" : Str))=false:=by decide)(g:(x==("__classdict__" : Str))=false:=by decide):PE X (.Name x pos) (cR i):=by
 intro f s Z H Q I h;obtain⟨v,e,h⟩:=h;obtain⟨m,n,p⟩:=I.loc;obtain⟨u,r,l⟩:=p i x v q e k;have d:EP X f Z Q u s:=⟨v,H,I,r,h⟩;rcases l with ⟨b,o⟩|⟨b,c,j,a⟩
 ·exact wpAny_Name (wpAny_loadName_local I.ok.kind b n o d) hd
 · rcases b with b|b
   ·exact wpAny_Name (wpAny_loadName_cell I.ok.kind b j a d) hd
   ·exact wpAny_Name (wpAny_loadName_free I.ok.kind b j a d g) hd
theorem ax{i j pos}:PE X (.Constant (.int i) j pos) (tC (.int i)):=λ_ _ _ H _ I h=>wpAny_Constant_int ⟨.int i,H,I.tok _,⟨_,rfl⟩,h⟩
theorem kj{b j pos}:PE X (.Constant (.bool b) j pos) (tC (.bl b)):=λ_ _ _ H _ I h=>Constant_bool ⟨.bl b,H,I,rfl,h⟩
theorem dY{j pos}:PE X (.Constant .none j pos) (tC .non):=λ_ _ _ H _ I h=>Constant_none ⟨.non,H,I,rfl,h⟩
theorem bN{x j pos}:PE X (.Constant (.str x) j pos) (tC (.str x)):=λ_ _ _ H _ I h=>Calls.Constant_str ⟨.str x,H,I.tok _,⟨_,rfl⟩,h⟩
def Gl(X:Cx)(x:Str):Prop:=X.env.kindOf x=some .globalImplicit
theorem kx{E:L1}{a:L0}{s:Shared}{Z:St}{H:Hp}{x:Str}{u:Value}{pos:Pos}{Q:L1}(I:Inv X a Z H s)(c:Gl X x)(b:X.mg x=some u)(h:Q u s)
 (hd:(x==("__debug__" : Str))=false:=by decide):wpAny (model X.prog X.w) X.A (eval (.Name x pos) X.env) Q E s:=
 V8 I.ok.kind c (Calls.loadGlobal_global (by rw[I.ok.glob];exact I.mod.glob.keeps I.bk) b h) hd
theorem jJ{E:L1}{a:L0}{s:Shared}{Z:St}{H:Hp}{x:Str}{u:Value}{pos:Pos}{Q:L1}(I:Inv X a Z H s)(e:Gl X x)(d:X.mg x=none)(b:bootBuiltins x=some u)(h:Q u s)
 (c:x ≠ "__name__" := by decide) (hd:(x==("__debug__" : Str))=false:=by decide):wpAny (model X.prog X.w) X.A (eval (.Name x pos) X.env) Q E s:=by
 obtain⟨i,g,f⟩:=I.mod.blt;exact V8 I.ok.kind e (Calls.loadGlobal_builtin (by rw[I.ok.glob];exact I.mod.glob.keeps I.bk) d (by rw[I.ok.blt];exact g.keeps I.bk) ((f x c).trans b) h) hd
theorem cG{x:Str}{v:V}{u:Value}{pos:Pos}(b:Gl X x)(a:X.mg x=some u)(r:RelV v u)(hd:(x==("__debug__" : Str))=false:=by decide):PE X (.Name x pos) (tC v):=
 λ_ _ _ H _ I h=>kx I b a ⟨v,H,I,r,h⟩ hd
theorem Hd{x:Str}{v:V}{u:Value}{pos:Pos}(d:Gl X x)(c:X.mg x=none)(a:bootBuiltins x=some u)(r:RelV v u)(b:x ≠ "__name__" := by decide)(hd:(x==("__debug__" : Str))=false:=by decide):PE X (.Name x pos) (tC v):=
 λ_ _ _ H _ I h=>jJ I d c a ⟨v,H,I,r,h⟩ b hd
variable{a b:Expr}{ta tb:TE}{pos:Pos}
def PC(X:Cx)(op:CmpOp)(a b:Expr)(t:TE):Prop:=
 ∀(c:L0) (s:Shared) (Z:St) (H:Hp) (Q:VK),Inv X c Z H s->t Z H Q->
  wpAny (model X.prog X.w) X.A (eval a X.env) (λv e=>wpAny (model X.prog X.w) X.A (eval b X.env) (λu d=>wpAny (model X.prog X.w) X.A (compareOp op v u) (EP X c Z Q) X.xe d) X.xe e) X.xe s
theorem uS(b:Expr){op:CmpOp}(h:op≠ .In)(a:op≠ .NotIn):behindInMarks op b=false:=by
 have e1:(op == CmpOp.In)=false:=by cases op <;> first | rfl | exact absurd rfl h
 have c:(op == CmpOp.NotIn)=false:=by cases op <;> first | rfl | exact absurd rfl a
 cases b<;>simp[behindInMarks,e1,c]
def tB(t:TE):TT:=λZ H Q=>t Z H λx H1=>∃c,x=.bl c/\Q c H1
theorem LM{op:CmpOp}{t:TE}(h:PC X op a b t)(e:behindInMarks op b=false:=by first | exact uS _ (by decide) (by decide) | rfl):PE X (.Compare a [op] [b] pos) t:=λc s Z H Q I d=>wpAny_Compare1 (h c s Z H Q I d) e
theorem sk{op:CmpOp}{t:TE}(h:PC X op a b t)(f:behindInMarks op b=false:=by first | exact uS _ (by decide) (by decide) | rfl):PT X (.Compare a [op] [b] pos) (tB t):=by
 intro e s Z H Q I j;refine wpAny_isTrue_Compare1 (bE (h e s Z H _ I j) λv n f=>bE f λu s2 k=>bE k λc m ⟨x,H1,l,g,i⟩=>?_) f;obtain⟨d,rfl,q⟩:=i;cases g;exact Vb ⟨H1,l,q⟩
theorem wO{e:Expr}{t:TE}(h:PE X e t)(g:∀whole,isTrue e X.env whole=(do let v <-whole;standAt e.pos;holding [v] (truthy v)):=by intro _;rfl):PT X e (tB t):=by
 intro a s Z H Q I f;refine isTrue_plain (bE (h a s Z H _ I f) λv j ⟨x,H1,i,b,c⟩=>?_) (g _);obtain⟨d,rfl,q⟩:=c;cases b;exact Vb ⟨H1,i,q⟩
variable{tA tB':TT}{iA:List Expr}
def OM(t u:TT):TT:=λZ H Q=>t Z H λc H1=>if c=true then u Z H1 Q else Q false H1
def tOr(t u:TT):TT:=λZ H Q=>t Z H λc H1=>if c=true then Q true H1 else u Z H1 Q
def OJ(t:TT):TT:=λZ H Q=>t Z H λc H1=>Q (!c) H1
theorem fi(d:PT X a tA):PW X (.BoolOp .And [a] pos) tA:=by
 intro f b s Z H Q I h;refine isTrue_and (bE (d b s Z H Q I h) λc g e=>?_);cases c with
 |true=>exact isTrue_and_nil e
 |false=>exact e
theorem si(d:PT X a tA):PW X (.BoolOp .Or [a] pos) tA:=by
 intro f b s Z H Q I h;refine isTrue_or (bE (d b s Z H Q I h) λc g e=>?_);cases c with
 |false=>exact isTrue_or_nil e
 |true=>exact e
theorem gk(k:PT X a tA)(j:PW X (.BoolOp .And (b::iA) pos) tB'):PW X (.BoolOp .And (a::b::iA) pos) (OM tA tB'):=by
 intro g d s Z H Q I h;refine isTrue_and (bE (k d s Z H _ I h) λc i ⟨H1,f,e⟩=>?_);cases c with
 |true=>exact j g d i Z H1 Q f e
 |false=>exact⟨H1,f,e⟩
theorem qF(k:PT X a tA)(j:PW X (.BoolOp .Or (b::iA) pos) tB'):PW X (.BoolOp .Or (a::b::iA) pos) (tOr tA tB'):=by
 intro g d s Z H Q I h;refine isTrue_or (bE (k d s Z H _ I h) λc i ⟨H1,f,e⟩=>?_);cases c with
 |true=>exact⟨H1,f,e⟩
 |false=>exact j g d i Z H1 Q f e
theorem LC(d:PT X a tA):PT X (.UnaryOp .Not a pos) (OJ tA):=by
 intro b s Z H Q I h;exact isTrue_not (d b s Z H (λc H1=>Q (!c) H1) I h)
def IN(ta:TE):TE:=λZ H Q=>ta Z H λx H1=>∃c,x=.bl c/\Q (.bl (!c)) H1
theorem LK(f:PE X a ta):PE X (.UnaryOp .Not a pos) (IN ta):=by
 intro b s Z H Q I h;refine UnaryOp_ (bE (f b s Z H _ I h) λv i ⟨x,H1,g,e,d⟩=>?_);obtain⟨c,rfl,d⟩:=d;cases e;exact not_of (Vb ⟨.bl (!c),H1,g,rfl,d⟩)
end
def SqL(K:F0)(H:Hp)(a:Addr)(xs:List V):Prop:=
 Rd H a (.lst xs)\/
  ∃(o:Obj) (its:Array Value) (n:Nat),K.lookup a=some o/\o.cls=.type "list" /\ o.dict=none/\o.data=.seq its n/\its.size<=sizeLine/\Vals xs its.toList
def SqT(K:F0)(H:Hp)(a:Addr)(xs:List V):Prop:=
 Rd H a (.tup xs)\/
  ∃(o:Obj) (its:Array Value) (n:Nat),K.lookup a=some o/\o.cls=.type "tuple" /\ o.data=.seq its n/\its.size<=sizeLine/\Vals xs its.toList
def Td:Value->Option V
 |.none=>some .non
 |.bool b=>some (.bl b)
 |.int i _=>some (.int i)
 |.str x _=>some (.str x)
 |.bytes b _=>some (.byt b)
 |.float b _=>some (.flt b)
 |.ref a=>some (.ref a)
 |.type n=>some (.ty n)
 |_=>none
theorem RelV.abs{x:V}{u:Value}(r:RelV x u):Td u=some x:=by
 cases x with
 |non=>cases r;rfl
 |bl _=>cases r;rfl
 |int _=>obtain⟨t,rfl⟩:=r;rfl
 |str _=>obtain⟨t,rfl⟩:=r;rfl
 |byt _=>obtain⟨t,rfl⟩:=r;rfl
 |flt _=>obtain⟨t,rfl⟩:=r;rfl
 |ref _=>cases r;rfl
 |ty _=>cases r;rfl
theorem RelV.inj{x y:V}{u:Value}(r:RelV x u)(q:RelV y u):x=y:=T2 (r.abs.symm.trans q.abs)
theorem Vals.inj:∀{xs a:List V} {us:List Value},Vals xs us->Vals a us->xs=a
 |_,_,_,.nil,.nil=>rfl
 |_,_,_,.cons r t,.cons b t'=>by rw[r.inj b,Vals.inj t t']
section
variable{X:Cx}{pins:L0}{Z:St}{H:Hp}{s:Shared}{a:Addr}{xs ys:List V}
theorem SqL.of{K:F0}(h:H a=some (.lst xs)):SqL K H a xs:=.inl (.inl h)
theorem SqT.of{K:F0}(h:H a=some (.tup xs)):SqT K H a xs:=.inl (.inl h)
theorem Inv.list(I:Inv X pins Z H s)(h:SqL X.K H a xs):∃its:List Value,Vals xs its/\PlainL s.heap a its.toArray/\xs.length<=sizeLine:=by
 rcases h with h|⟨o,its,n,c,d,hd,b,hz,r⟩
 ·obtain⟨z,its,n,r,e⟩:=h.ok I.hok;exact⟨its,r,⟨_,n,e,rfl,rfl,rfl⟩,z⟩
 ·refine⟨its.toList,r,⟨o,n,I.kIn a o c,d,hd,by simpa using b⟩,?_⟩;have e:=r.length;simp only[UC]at e;omega
theorem Inv.tuple(I:Inv X pins Z H s)(h:SqT X.K H a xs):∃its:List Value,Vals xs its/\IsTup s.heap a its.toArray/\xs.length<=sizeLine:=by
 rcases h with h|⟨o,its,n,c,d,b,hz,r⟩
 ·obtain⟨z,its,r,p⟩:=h.ok I.hok;exact⟨its,r,p,z⟩
 ·refine⟨its.toList,r,⟨o,I.kIn a o c,d,n,by simpa using b⟩,?_⟩;have e:=r.length;simp only[UC]at e;omega
theorem Inv.list_inj(I:Inv X pins Z H s)(h:SqL X.K H a xs)(h':SqL X.K H a ys):xs=ys:=by
 obtain⟨its,r,⟨o,n,e,_,_,d⟩,_⟩:=I.list h;obtain⟨its',c,⟨o',g,b,_,_,d'⟩,_⟩:=I.list h';rw[e]at b;cases b;rw[d]at d';injection d' with f _
 have:its=its':=by simpa using congrArg Array.toList f
 subst this;exact r.inj c
end
abbrev Cx.wish(X:Cx)(E:L1):Cx:={X with xe:=E}
abbrev Cx.nox(X:Cx):Cx:=X.wish λ_ _=>False
theorem Cx.Ok.wish{X:Cx}(ok:X.Ok)(E:L1):(X.wish E).Ok:=
 ⟨ok.mod,ok.kind,ok.glob,ok.blt,ok.above,ok.inj,ok.has,ok.cab,ok.hd,ok.frames,ok.stk,ok.exf,ok.bs,ok.bsz,ok.noex,ok.exfs,ok.funs,ok.frf⟩
theorem Cx.Ok.unwish{X:Cx}{E:L1}(ok:(X.wish E).Ok):X.Ok:=
 ⟨ok.mod,ok.kind,ok.glob,ok.blt,ok.above,ok.inj,ok.has,ok.cab,ok.hd,ok.frames,ok.stk,ok.exf,ok.bs,ok.bsz,ok.noex,ok.exfs,ok.funs,ok.frf⟩
section
variable{X:Cx}{pins:L0}{Z:St}{H:Hp}{s:Shared}{E:L1}
theorem Inv.wish(I:Inv X pins Z H s)(E:L1):Inv (X.wish E) pins Z H s:=⟨I.ok.wish E,I.os,I.bare,I.base,I.loc,I.cell,I.free,I.freeC,I.pin,I.hok,I.len⟩
theorem Inv.unwish(I:Inv (X.wish E) pins Z H s):Inv X pins Z H s:=⟨I.ok.unwish,I.os,I.bare,I.base,I.loc,I.cell,I.free,I.freeC,I.pin,I.hok,I.len⟩
theorem SP.unwish{D:Ends}{f:Flow}{s':Shared}(h:SP (X.wish E) pins D f s'):SP X pins D f s':=by
 cases f with
 |next=>obtain⟨a,H',I,q⟩:=h;exact⟨a,H',I.unwish,q⟩
 |brk=>obtain⟨a,H',I,q⟩:=h;exact⟨a,H',I.unwish,q⟩
 |cont=>obtain⟨a,H',I,q⟩:=h;exact⟨a,H',I.unwish,q⟩
 |ret u=>obtain⟨v,a,H',I,r,q⟩:=h;exact⟨v,a,H',I.unwish,r,q⟩
end
section
variable{X:Cx}{st:Stmt}{iA:List Stmt}{t u:TS}{e:Expr}{te:TE}{pos:Pos}
def IP:TS:=λD Z H=>D.nx Z H
def Gy(t u:TS):TS:=λD Z H=>t {D with nx:=u D} Z H
theorem a7:Gb X [] IP:=λ_ _ Z H _ I h=>UR ⟨Z,H,I,h⟩
theorem ae(e:PS X st t)(d:Gb X iA u):Gb X (st::iA) (Gy t u):=by
 intro a s Z H D I h;refine VX (bE (e a s Z H {D with nx:=u D} I h) λf c q=>?_);cases f with
 |next=>
   obtain⟨b,H',g,q⟩:=q;exact d a c b H' D g q
 |ret v=>exact q
 |brk=>exact q
 |cont=>exact q
theorem ag(b:PS X st t):Gb X [st] t:=by
 intro a s Z H D I h;refine VX (bE (b a s Z H D I h) λf c q=>?_);cases f with
 |next=>exact UR q
 |ret v=>exact q
 |brk=>exact q
 |cont=>exact q
theorem Inv.quiet{a:L0}{Z:St}{H:Hp}{s:Shared}(I:Inv X a Z H s):interactive X.env=false:=by simp[interactive,I.ok.kind]
def yo(te:TE):TS:=λD Z H=>te Z H λ_ H1=>D.nx Z H1
theorem aL(d:PE X e te)(c:swapsWith e none pos.line X.env=pure false:=by rfl):PS X (.Expr e pos) (yo te):=by
 intro a s Z H D I h;exact wpAny_Expr_any (bE (d a s Z H _ I h) λv g ⟨x,H1,f,i,b⟩=>⟨Z,H1,f,b⟩) I.quiet c
def KD(te:TE):TS:=λD Z H=>te Z H D.rt
theorem aS(d:PE X e te):PS X (.Return (some e) pos) (KD te):=by
 intro a s Z H D I h;exact wpAny_Return_some (bE (d a s Z H _ I h) λv g ⟨x,H1,f,b,c⟩=>⟨x,Z,H1,f,b,c⟩)
def IL:TS:=λD _ H=>D.rt .non H
theorem G4:PS X (.Return none pos) IL:=λ_ _ Z H _ I h=>wpAny_Return_none ⟨.non,Z,H,I,rfl,h⟩
def Gz(c:TT)(t u:TS):TS:=λD Z H=>c Z H λb H1=>if b=true then t D Z H1 else u D Z H1
theorem bS{c:Expr}{a b:List Stmt}{f:TT}(k:PT X c f)(m:Gb X a t)(l:Gb X b u):PS X (.If c a b pos) (Gz f t u):=by
 intro e s Z H D I h;refine wpAny_If (bE (k e s Z H _ I h) λd g ⟨H1,j,i⟩=>?_);cases d with
 |true=>exact m e g Z H1 D j i
 |false=>exact l e g Z H1 D j i
end
abbrev TG:=V->St->Hp->(St->Hp->Prop)->Prop
abbrev Oo:=List V->St->Hp->(St->Hp->Prop)->Prop
def PG(X:Cx)(a:Expr)(t:TG):Prop:=
 ∀(b:L0) (s:Shared) (Z:St) (H:Hp) (v:V) (u:Value) (Q:St->Hp->Prop),Inv X b Z H s->RelV v u->t v Z H Q->
  wpAny (model X.prog X.w) X.A (assign a X.env u) (λ_ s'=>∃c H',Inv X b c H' s'/\Q c H') X.xe s
def SA(X:Cx)(c:List Expr)(t:Oo):Prop:=
 ∀(a:L0) (s:Shared) (Z:St) (H:Hp) (vs:List V) (us:List Value) (Q:St->Hp->Prop),Inv X a Z H s->Vals vs us->t vs Z H Q->
  wpAny (model X.prog X.w) X.A (assignInOrder ((assignEach c X.env).map (·.2)) us) (λ_ s'=>∃b H',Inv X a b H' s'/\Q b H') X.xe s
abbrev On:=V->V->V->Hp->(Hp->Prop)->Prop
def Sa(X:Cx)(t:On):Prop:=
 ∀(a:L0) (s:Shared) (Z:St) (H:Hp) (o i v:V) (ov b u:Value) (Q:Hp->Prop),Inv X a Z H s->RelV o ov->RelV i b->RelV v u->t o i v H Q->
  wpAny (model X.prog X.w) X.A (setItem ov b u) (λ_ s'=>∃H',Inv X a Z H' s'/\Q H') X.xe s
section
variable{X:Cx}{pos:Pos}
def fc(i:Nat):TG:=λv Z H Q=>Q (Z.set i (some v)) H
theorem fk{i:Nat}{x:Str}(d:X.N.Nodup)(hi:X.N[i]?=some x)(b:Sd X.env.scope x)(c:X.fn x=true\/X.env.scope.names.lookup x=some .local:=by first | exact .inl rfl | exact .inr rfl | assumption):PG X (.Name x pos) (fc i):=by
 intro a s Z H v u Q I r h;exact wpAny_assign_Name (nG I d hi b r (λs' e=>⟨_,H,e,h⟩) c)
def QZ:Oo:=λvs Z H Q=>vs=[]/\Q Z H
def Fe(t:TG)(u:Oo):Oo:=λvs Z H Q=>∃v r,vs=v::r/\t v Z H λa H'=>u r a H' Q
theorem Ha:SA X [] QZ:=by
 intro a s Z H vs us Q I r h;obtain⟨e,h⟩:=h;subst e;cases r;exact assignInOrder_nil ⟨Z,H,I,h⟩
theorem uK{e:Expr}{b:List Expr}{t:TG}{u:Oo}(k:PG X e t)(j:SA X b u)
 (i:(assignEach (e::b) X.env).map (·.2)=assign e X.env::(assignEach b X.env).map (·.2):=by rfl):SA X (e::b) (Fe t u):=by
 intro a s Z H vs us Q I r h;obtain⟨v,vr,e1,h⟩:=h;subst e1;cases r with
 |cons r f=>
   rw[i];refine assignInOrder_cons (bE (k a s Z H _ _ _ I r h) λ_ d ⟨c,H1,l,g⟩=>?_);exact j a d c H1 _ _ Q l f g
def QX(K:F0)(n:Nat)(t:Oo):TG:=λv Z H Q=>∃a xs,v=.ref a/\SqT K H a xs/\xs.length=n/\t xs Z H Q
theorem LH{d:List Expr}{k:Nat}{t:Oo}{n:Nat}(w:X.calm=true)(h:SA X d t)
 (p:(assignEach d X.env).length=n:=by rfl) (g:(assignEach d X.env).findIdx? (·.1)=none:=by rfl):PG X (.Tuple d k pos) (QX X.K n t):=by
 intro c s Z H v u Q I r f;obtain⟨a,xs,e1,m,q,f⟩:=f;subst e1;cases r;obtain⟨its,i,l,hz⟩:=I.tuple m;refine assign_Tuple_tuple (I.ok.hd w) l (by simp[p,<-q,i.length]) g λh' j=>?_;have x:Inv X c Z H {s with heap:=h'}:=I.kept (t':=s.toks) λb o e=>j b o (T8 (TH e)) e;exact h c _ Z H xs _ Q x (by simpa using i) f
def QY(to a:TE)(t:On):TG:=λv Z H Q=>to Z H λo H1=>a Z H1 λi c=>t o i v c λb=>Q Z b
theorem Dp{o i:Expr}{to c:TE}{t:On}(m:PE X o to)(hi:PE X i c)(l:Sa X t)
 (n:∀v,assign (.Subscript o i pos) X.env v=(do
   let ov <-holding [v] (eval o X.env)
   let b <-holding [v,ov] (eval i X.env)
   standAt pos
   holding [v,ov,b] (setItem ov b v)
   release [v,ov,b] []):=by intro _;rfl):PG X (.Subscript o i pos) (QY to c t):=by
 intro a s Z H v u Q I r h;rw[n];refine Ts (Vf (bE (m a s Z H _ I h) λov d ⟨x,H1,w,f,k⟩=>?_));refine Ts (Vf (bE (hi a d Z H1 _ w k) λb s2 ⟨y,A,q,e,j⟩=>?_));refine Ts (wpAny_standAt (Ts (Vf (bE (l a s2 Z A x y v ov b u _ q f e r j) λ_ B ⟨z,p,g⟩=>?_))));exact wpAny_release ⟨Z,z,p,g⟩
def qg(te:TE)(g:TG):TS:=λD Z H=>te Z H λx H1=>g x Z H1 D.nx
theorem Dm{b e:Expr}{te:TE}{g:TG}(l:PE X e te)(k:PG X b g)(j:swapsWithSole [b] e pos.line X.env=pure false:=by rfl)(i:swappedStores [b] e X.env=pure none:=by rfl)
 (m:(assignEach [b] X.env).map (·.2)=[assign b X.env]:=by rfl):PS X (.Assign [b] e pos) (qg te g):=by
 intro a s Z H D I h;refine wpAny_Assign_stores (bE (l a s Z H _ I h) λv c ⟨x,H1,n,d,f⟩=>?_) j i;rw[m];exact bE (k a c Z H1 x v _ n d f) λ_ s2 q=>q
theorem bG{i:Nat}{x:Str}{e:Expr}{te:TE}{a:Pos}(l:X.N.Nodup)(hi:X.N[i]?=some x)(f:Sd X.env.scope x)(k:PE X e te)(g:swapsWith e (some (.Name x a)) pos.line X.env=pure false:=by rfl)(j:X.fn x=true\/X.env.scope.names.lookup x=some .local:=by first | exact .inl rfl | exact .inr rfl | assumption):
 PS X (.Assign [.Name x a] e pos) (qg te (fc i)):=by
 intro b s Z H D I h;refine wpAny_Assign_Name (bE (k b s Z H _ I h) λv o ⟨y,H1,n,c,d⟩=>?_) g;exact nG n l hi f c (λs2 m=>⟨_,H1,m,d⟩) j
end
structure It where
 go:Nat->Hp->Prop
 yld:Nat->Hp->V->Hp->Prop
 stop:Nat->Hp->Prop
def p7(X:Cx)(a:L0)(H:Hp)(b:Addr):Prop:=
 H b=none/\b≠X.env.locals/\b∉X.fs/\(b∈X.ex\/X.s₀.heap.objs.size<=b)/\(∀x c,X.env.cells.lookup x=some c->c≠b)/\∀p∈X.pn++a,p.1≠b
theorem Inv.fpOk{X:Cx}{a:L0}{Z:St}{H H':Hp}{s:Shared}{b:Addr}(I:Inv X a Z H s)(d:s.heap.objs.size<=b)(f:H' b=none):p7 X a H' b:=by
 refine⟨f,Nat.ne_of_gt (T1 I.lt d),I.nofs d,.inr (Uk I.sz d),λx c e z=>?_,λp hp z=>?_⟩
 ·obtain⟨v,q⟩:=I.cell x c e;exact absurd (T1 q.lt (by rw[z];exact d)) (Uy _)
 ·exact absurd (T1 (TH (I.pin p hp).1) (by rw[z];exact d)) (Uy _)
structure Turn (P:Program) (w:World) (K:F0) (tg:Expr) (J:It) (fp:List Addr) (it:Addr) (tn:Nat->Heap->Prop):Prop where
 mem:it∈fp
 obj:∀i h,tn i h->∀b∈fp,∃o,h.get? b=some o/\∀v,o.data≠ .cell v
 keep:∀i h h',tn i h->(∀b∈fp,∀o,h.get? b=some o->h'.get? b=some o)->tn i h'
 item:∀(X:Cx),X.prog=P->X.w=w->X.K=K->X.calm=true->∀(i:Nat) (pins:L0) (s:Shared) (Z:St) (H:Hp) (E:L1),Inv X pins Z H s->(∀b∈fp,p7 X pins H b)->tn i s.heap->J.go i H->
  wpAny (model P w) X.A (pyNext (.ref it)) (λr s1=>∃u,r=some u/\
   wpAny (model P w) X.A (letOwnedTupleGo tg (.ref it) u) (λ_ s2=>∃x H',Inv X pins Z H' s2/\RelV x u/\J.yld i H x H'/\tn (i+1) s2.heap/\∀b∈fp,H' b=none) E s1) E s
 done:∀(X:Cx),X.prog=P->X.w=w->X.K=K->X.calm=true->∀(i:Nat) (pins:L0) (s:Shared) (Z:St) (H:Hp) (E:L1),Inv X pins Z H s->(∀b∈fp,p7 X pins H b)->tn i s.heap->J.stop i H->
  wpAny (model P w) X.A (pyNext (.ref it)) (λr s1=>r=none/\Inv X pins Z H s1) E s
 self:∀(A:Around) (i:Nat) (s:Shared) (Q:L1) (E:L1),tn i s.heap->Q (.ref it) s->wpAny (model P w) A (pyIter (.ref it)) Q E s
abbrev TI:=St->Hp->(It->Hp->Prop)->Prop
def PIE(X:Cx)(a:L0)(Z:St)(g:Expr)(R:It->Hp->Prop)(c:Value)(s2:Shared):Prop:=
 ∃(e:Addr) (f:List Addr) (d:Nat->Heap->Prop) (J:It) (H':Hp),c=.ref e/\Inv X a Z H' s2/\Turn X.prog X.w X.K g J f e d/\d 0 s2.heap/\(∀b∈f,p7 X a H' b)/\R J H'
def PI(X:Cx)(c iter:Expr)(b:TI):Prop:=
 ∀(a:L0) (s:Shared) (Z:St) (H:Hp) (R:It->Hp->Prop),Inv X a Z H s->b Z H R->
  wpAny (model X.prog X.w) X.A (eval iter X.env) (λv d=>wpAny (model X.prog X.w) X.A (pyIter v) (PIE X a Z c R) X.xe d) X.xe s
theorem zk{M:Model}{A:Around}{E:L1}{s:Shared}{b:Expr}{c:Addr}{u:Value}{o:Obj}{n:String}{vs:Array Value}{Q:Unit->Shared->Prop}(d:s.heap.get? c=some o)(f:o.cls=.type n)(hd:o.data=.fields vs)
 (e:["enumerate","zip","dict_itemiterator","dict_reverseitemiterator","odict_iterator","itertools.zip_longest","itertools.pairwise"].contains n=false) (a:Q () s):wpAny M A (letOwnedTupleGo b (.ref c) u) Q E s:=by
 unfold letOwnedTupleGo
 cases b <;> first
  |exact TF a
  | (cases u <;> first
      |exact TF a
      | (refine Ts (wpAny_load d ?_)
         rw[f,hd];show wpAny M A (if (["enumerate","zip","dict_itemiterator","dict_reverseitemiterator","odict_iterator","itertools.zip_longest","itertools.pairwise"].contains n&&vs[0]?==some (rawInt _))=true then _ else _) Q E s;rw[on (by intro h;rw[e,Bool.false_and]at h;cases h)]
         exact TF a))
def Tk(K:F0)(a:Addr):It:=
 ⟨λi H=>∃xs x,SqL K H a xs/\xs[i]?=some x,λi H x H'=>H'=H/\∀xs,SqL K H a xs->xs[i]?=some x,λi H=>∃xs,SqL K H a xs/\xs.length<=i⟩
def Sf(lo:Int)(n:Nat):It:=⟨λi _=>i<n,λi H x H'=>H'=H/\x=.int (lo+i),λi _=>n<=i⟩
theorem Am{P:Program}{w:World}{K:F0}{M:Expr}(a g:Addr):Turn P w K M (Tk K a) [g] g (λi h=>h.IsListIter g a i) where
 mem:=by simp
 obj:=λi h st b j=>by
  have e:b=g:=by simpa using j
  subst e;obtain⟨o,e,c,d⟩:=st;exact⟨o,e,λv z=>by rw[d]at z;cases z⟩
 keep:=λi h h' st k=>st.at λo e=>k g (by simp) o e
 item:=by
  intro X A t B L i f s Z H E I n st y;subst A t B;obtain⟨xs,x,m,r⟩:=y;obtain⟨its,q,p,hz⟩:=I.list m;obtain⟨u,R,O⟩:=q.get r;obtain⟨J,G,S,F,D,C⟩:=n g (by simp);refine wpAny_pyNext_list_item st p.isList (x:=u) (by simpa using R) λh' l N=>?_;have U:Inv X f Z H {s with heap:=h'}:=I.turned (t':=s.toks) (λb o j e=>(N.2 b j).trans e) J G F D C;obtain⟨o,e,c,d⟩:=id l;exact⟨u,rfl,zk (s:={s with heap:=h'}) e c d (by decide) ⟨x,H,U,O,⟨rfl,λV Q=>by rw[I.list_inj Q m];exact r⟩,l,λb j=>(n b j).1⟩⟩
 done:=by
  intro X A t B L i f s Z H E I n st y;subst A t B;obtain⟨xs,m,r⟩:=y;obtain⟨its,q,p,hz⟩:=I.list m;obtain⟨J,G,S,F,D,C⟩:=n g (by simp);have Y:=q.length;exact wpAny_pyNext_list_end (I.ok.hd L) st p.isList (by simp;omega) λh' T=>⟨rfl,I.turned (t':=s.toks) (λb o j e=>T b o j e) J G F D C⟩
 self:=λ_ _ _ _ _ st h=>wpAny_pyIter_listiter st h
theorem wz{P:Program}{w:World}{K:F0}{D:Expr}(c:Addr)(lo:Int)(n:Nat):Turn P w K D (Sf lo n) [c] c (λi h=>IsRangeIter h c (lo+(i:Nat)*1) ((n:Int)-(i:Nat)) 1) where
 mem:=by simp
 obj:=λi h st b d=>by
  have e:b=c:=by simpa using d
  subst e
  exact⟨_,st,λv z=>by
   have C:Data.fields _=Data.cell v:=z
   cases C⟩
 keep:=λi h h' st k=>k c (by simp) _ st
 item:=by
  intro X p j q m i a s Z H E I g st l;subst p j q;obtain⟨A,y,J,x,u,r⟩:=g c (by simp);have W:=Walks.range (prog:=X.prog) (w:=X.w) (I.ok.hd m) c lo 1 n;refine W.item i s _ _ l st λv h' B G f F=>?_;obtain⟨t,rfl⟩:=G;have M:Inv X a Z H {s with heap:=h',toks:=B}:=I.turned (λb o d e=>F b o (by simpa using d) e) A y x u r;refine⟨_,rfl,zk (s:={s with heap:=h',toks:=B}) (n := "range_iterator") f rfl rfl (by decide) ⟨.int (lo+i),H,M,⟨t,?_⟩,⟨rfl,rfl⟩,f,λb d=>(g b d).1⟩⟩;rw[Int.mul_one]
 done:=by
  intro X p j q m i a s Z H E I g st l;subst p j q;obtain⟨A,y,J,x,u,r⟩:=g c (by simp);exact wpAny_pyNext_range_end (I.ok.hd m) st (by have:n<=i:=l;omega) λh' L=>⟨rfl,I.turned (t':=s.toks) (λb o d e=>L b o d e) A y x u r⟩
 self:=λ_ _ _ _ _ st h=>wpAny_pyIter_rangeiter st h
section
variable{X:Cx}{tg:Expr}
def q9(K:F0)(b:TE):TI:=λZ H R=>b Z H λx H1=>∃a,x=.ref a/\(∃xs,SqL K H1 a xs)/\R (Tk K a) H1
theorem G9{l:Expr}{g:TE}(m:PE X l g):PI X tg l (q9 X.K g):=by
 intro c s Z H R I h;refine bE (m c s Z H _ I h) λv d ⟨x,H1,f,i,j⟩=>?_;obtain⟨a,e,⟨xs,k⟩,q⟩:=j;subst e;cases i;obtain⟨its,r,p,hz⟩:=f.list k;refine VQ p.isList ?_;refine⟨d.heap.objs.size,[d.heap.objs.size],_,_,H1,rfl,f.kept (t':=d.toks) λb o e=>Tx _ e,Am a _,⟨_,TZ _ rfl,rfl,rfl⟩,λb n=>?_,q⟩;have e:b=d.heap.objs.size:=by simpa using n
 subst e;exact f.fpOk (TM _) (f.hok.fresh (TM _))
theorem uH{a:L0}{Z:St}{H:Hp}{s:Shared}{R:It->Hp->Prop}{E:L1}{lo hi:Int}{t u v:Tok}{c:Nat}(I:Inv X a Z H s)(j:-(2 ^ 62)<=lo)(i:lo<2 ^ 62)(h:-(2 ^ 62)<=hi)(g:hi<2 ^ 62)
 (q:R (Sf lo (hi-lo).toNat) H):wpAny (model X.prog X.w) X.A (pyIter (.ref s.heap.objs.size)) (PIE X a Z tg R) E {s with heap:=s.heap.push {cls:=.type "range",data:=.fields #[.int lo t,.int hi u,.int 1 v]},toks:=c}:=by
 refine wpAny_pyIter_range (IsRange.new ..) (small_one j i h g) ?_;have d:Inv X a Z H {s with heap:=s.heap.push {cls:=.type "range",data:=.fields #[.int lo t,.int hi u,.int 1 v]},toks:=c}:=I.kept λb o e=>Tx _ e
 refine⟨(s.heap.push {cls:=.type "range",data:=.fields #[.int lo t,.int hi u,.int 1 v]}).objs.size,[(s.heap.push {cls:=.type "range",data:=.fields #[.int lo t,.int hi u,.int 1 v]}).objs.size],_,_,H,rfl,
  d.kept (t':=c) λb o e=>Tx _ e,wz _ lo (hi-lo).toNat,?_,λb f=>?_,q⟩
 · have e1:lo+((0:Nat):Int)*1=lo:=by simp
   have k:(((hi-lo).toNat:Nat):Int)-((0:Nat):Int)=Builtin.Range.rangeSize lo hi 1:=by rw[rangeSize_one];split<;>omega
   show IsRangeIter _ _ (lo+((0:Nat):Int)*1) ((((hi-lo).toNat:Nat):Int)-((0:Nat):Int)) 1;rw[e1,k];exact TZ _ rfl
 · have e:b=(s.heap.push {cls:=.type "range",data:=.fields #[.int lo t,.int hi u,.int 1 v]}).objs.size:=by simpa using f
   subst e;exact d.fpOk (TM _) (d.hok.fresh (TM _))
def Ke(a:TA):TI:=λZ H R=>a Z H λvs H1=>∃j:Int,vs=[.int j]/\-(2 ^ 62)<=j/\j<2 ^ 62/\R (Sf 0 j.toNat) H1
def Kb(a:TA):TI:=λZ H R=>a Z H λvs H1=>∃i j:Int,vs=[.int i,.int j]/\(-(2 ^ 62)<=i/\i<2 ^ 62/\-(2 ^ 62)<=j/\j<2 ^ 62)/\R (Sf i (j-i).toNat) H1
theorem gC{a:Expr}{d:TA}{p pos:Pos}(m:Gl X "range")(l:X.mg "range" = none)(n:PA X [a] d)(k:starEach [a] X.env=[(false,eval a X.env)]:=by rfl):PI X tg (.Call (.Name "range" p) [a] [] pos) (Ke d):=by
 intro b s Z H R I h;refine Call_ (jJ I m l boot_range (UW (bE (n pos b s Z H _ I h) λus u ⟨vs,H1,o,g,c⟩=>?_) k rfl));obtain⟨j,e,c,i,q⟩:=c;subst e;cases g with
 |cons r f=>
   cases f;obtain⟨t,rfl⟩:=r;exact call_range_1 (uH o (by omega) (by omega) c i (by simpa using q))
theorem AF{a b:Expr}{k:TA}{p pos:Pos}(x:Gl X "range")(w:X.mg "range" = none)(y:PA X [a,b] k)(v:starEach [a,b] X.env=[(false,eval a X.env),(false,eval b X.env)]:=by rfl)(d:starEach [b] X.env=[(false,eval b X.env)]:=by rfl):
 PI X tg (.Call (.Name "range" p) [a,b] [] pos) (Kb k):=by
 intro c s Z H R I h;refine Call_ (jJ I x w boot_range (UW (bE (y pos c s Z H _ I h) λus A ⟨vs,H1,z,l,g⟩=>?_) (by rw[v,d]) (by rw[d];rfl)));obtain⟨i,j,e,⟨g,u,o,n⟩,q⟩:=g;subst e;cases l with
 |cons r f=>
   cases f with
   |cons m f=>
     cases f;obtain⟨t,rfl⟩:=r;obtain⟨t',rfl⟩:=m;exact call_range_2 (uH z g u o n q)
def KE(d:TI)(g:TG)(tb:TS):TS:=λD Z H=>d Z H λJ H1=>∃W:Nat->Nat->St->Hp->Prop,(∃m,W 0 m Z H1)/\∀i m Z H,W i m Z H->
 (J.stop i H/\D.nx Z H)\/(J.go i H/\∃N:St->Hp->Prop,(∀a H',N a H'->∃c,c<m/\W (i+1) c a H')/\∀x H',J.yld i H x H'->g x Z H' λb e=>tb {D with nx:=N,ct:=N,bk:=D.nx} b e)
def n8(a:List Addr)(h:Heap):L0:=a.filterMap λb=>(h.get? b).map λo=>(b,o)
theorem gU{a:List Addr}{h:Heap}{b:Addr}{o:Obj}(c:b∈a)(e:h.get? b=some o):(b,o)∈n8 a h:=V9.mpr ⟨b,c,by rw[e];rfl⟩
theorem AH{a:List Addr}{h:Heap}{p:Addr×Obj}(hp:p∈n8 a h):p.1∈a/\h.get? p.1=some p.2:=by
 obtain⟨b,c,e⟩:=V9.mp hp;cases q:h.get? b with
 |none=>rw[q]at e;cases e
 |some o=>
   rw[q]at e;have d:(b,o)=p:=T2 e;subst d;exact⟨c,q⟩
theorem Inv.pinned{a:L0}{Z:St}{H:Hp}{s:Shared}{c:List Addr}(I:Inv X a Z H s)(i:∀b∈c,p7 X a H b)(h:∀b∈c,∃o,s.heap.get? b=some o/\∀v,o.data≠ .cell v):Inv X (a++n8 c s.heap) Z H s:=
 I.pins_of λp hp=>(TY.mp hp).elim (λz=>I.pin p (Tw _ z)) λz=>by
  obtain⟨f,e⟩:=AH z;obtain⟨l,k,j,_⟩:=i p.1 f;obtain⟨o,g,d⟩:=h p.1 f;rw[e]at g;cases g;exact⟨e,l,k,j,d⟩
theorem Inv.unpinned{a pl:L0}{Z:St}{H:Hp}{s:Shared}(I:Inv X (a++pl) Z H s):Inv X a Z H s:=I.pins_of λp hp=>I.pin p (Tw _ (TL _ hp))
theorem lA{iter:Expr}{body:List Stmt}{Y:TI}{g:TG}{tb:TS}{pos:Pos}(hp:PassesOwn (model X.prog X.w) X.A X.env X.xe)(hc:X.calm=true)(hi:PI X tg iter Y)(hg:PG X tg g)(p:Gb X body tb)
 (hs:∀x,foldedSetIterable iter X.env x=pure x:=by intro _;rfl):PS X (.For tg iter body [] pos) (KE Y g tb):=by
 intro c s Z H D I h;refine wpAny_For (bE (hi c s Z H _ I h) λv s1 h1=>bE h1 λitv s2 h2=>?_) hs;obtain⟨it,L,tn,J,H2,e,I2,T,Q,f2,W,⟨m0,w0⟩,C⟩:=h2;subst e
 -- what P true of the z F through the loop
 have l:∀{H':Hp},(∀b∈L,H' b=none)->∀b∈L,p7 X c H' b:=λhn b p=>⟨hn b p,(f2 b p).2⟩;refine codeAny_forLoop_any (λn s'=>∃i k H',Inv X c k H' s'/\tn i s'.heap/\(∀b∈L,H' b=none)/\W i n k H') ?_ m0 ⟨0,Z,H2,I2,Q,λb p=>(f2 b p).1,w0⟩;rintro n s3 ⟨i,j,M,I3,E,K,w3⟩;rcases C i n j M w3 with ⟨stop,qn⟩|⟨go,N,hN,step⟩
 ·refine UF hp (bE (T.done X rfl rfl rfl hc i c s3 j M X.xe I3 (l K) E stop) λr s4 ⟨S,I4⟩=>?_);subst S;exact UR ⟨j,M,I4,qn⟩
 · refine UF hp (bE (T.item X rfl rfl rfl hc i c s3 j M X.xe I3 (l K) E go) λr s4 ⟨u,S,h4⟩=>?_);subst S;refine UF hp (bE h4 λ_ s5 ⟨x,H5,I5,r5,y5,B,U⟩=>?_);have V:=I5.pinned (l U) (T.obj _ _ B);refine UF hp (bE (hg _ s5 j H5 x u _ V r5 (step x H5 y5)) λ_ s6 ⟨O,H6,I6,q6⟩=>?_);refine UF hp (bE (p _ s6 O H6 _ I6 q6) λf R y=>?_)
   have again:∀{a:St} {t:Hp},Inv X (c++n8 L s5.heap) a t R->N a t->∃m,m<n/\∃i k H',Inv X c k H' R/\tn i R.heap/\(∀b∈L,H' b=none)/\W i m k H':=λ{a t} q G=>by
    obtain⟨m',hm,w7⟩:=hN a t G;refine⟨m',hm,i+1,a,t,q.unpinned,T.keep _ _ _ B λb p o e=>(q.pin (b,o) (Tw _ (Tw _ (gU p e)))).1,λb p=>?_,w7⟩;obtain⟨o,e,d⟩:=T.obj _ _ B b p;exact(q.pin (b,o) (Tw _ (Tw _ (gU p e)))).2.1
   cases f with
   |next=>obtain⟨a,t,q,G⟩:=y;exact again q G
   |cont=>obtain⟨a,t,q,G⟩:=y;exact again q G
   |brk=>obtain⟨a,t,q,y⟩:=y;exact⟨a,t,q.unpinned,y⟩
   |ret v=>obtain⟨x7,a,t,q,r7,y⟩:=y;exact⟨x7,a,t,q.unpinned,r7,y⟩
end
abbrev R2:=V->V->Hp->VK->Prop
def mR(X:Cx)(f:Value->Value->Sem Value)(r:R2):Prop:=
 ∀(a:L0) (s:Shared) (Z:St) (H:Hp) (x y:V) (v u:Value) (Q:VK),Inv X a Z H s->RelV x v->RelV y u->r x y H Q->
  wpAny (model X.prog X.w) X.A (f v u) (EP X a Z Q) X.xe s
def Tg(X:Cx)(f:Value->Sem Value)(r:V->Hp->VK->Prop):Prop:=
 ∀(a:L0) (s:Shared) (Z:St) (H:Hp) (x:V) (v:Value) (Q:VK),Inv X a Z H s->RelV x v->r x H Q->
  wpAny (model X.prog X.w) X.A (f v) (EP X a Z Q) X.xe s
def fe(X:Cx)(f:Value)(r:List V->Hp->VK->Prop):Prop:=
 ∀(a:L0) (s:Shared) (Z:St) (H:Hp) (xs:List V) (us:List Value) (Q:VK),Inv X a Z H s->Vals xs us->r xs H Q->
  wpAny (model X.prog X.w) X.A (call f us) (EP X a Z Q) X.xe s
def Ao(r:R2)(a tb:TE):TE:=λZ H Q=>a Z H λx H1=>tb Z H1 λy b=>r x y b Q
def tUn(r:V->Hp->VK->Prop)(a:TE):TE:=λZ H Q=>a Z H λx H1=>r x H1 Q
def rI(C:Int->Int->Prop)(g:Int->Int->V):R2:=λx y H Q=>∃i j,x=.int i/\y=.int j/\C i j/\Q (g i j) H
def yS(g:Int->Int->V):R2:=λx y H Q=>∃i j,x=.int i/\y=.int j/\Q (g i j) H
def rU(g:Int->V):V->Hp->VK->Prop:=λx H Q=>∃i,x=.int i/\Q (g i) H
section
variable{X:Cx}{a b c:Expr}{ta tb tc:TE}{pos:Pos}
theorem Oe(p:PE X a ta)(o:PE X b tb){c:L0}{s:Shared}{Z:St}{H:Hp}{R:V->V->Hp->Prop}(I:Inv X c Z H s)
 (h:ta Z H λx H1=>tb Z H1 λy d=>R x y d) {Q:L1} {f:Value->Value->Sem Value}
 (n:∀v u s2 x y d,Inv X c Z d s2->RelV x v->RelV y u->R x y d->wpAny (model X.prog X.w) X.A (f v u) Q X.xe s2):
 wpAny (model X.prog X.w) X.A (eval a X.env) (λv g=>wpAny (model X.prog X.w) X.A (eval b X.env) (λu e=>wpAny (model X.prog X.w) X.A (f v u) Q X.xe e) X.xe g) X.xe s:=by
 refine bE (p c s Z H _ I h) λv i ⟨x,H1,r,k,m⟩=>?_;refine bE (o c i Z H1 _ r m) λu s2 ⟨y,d,q,j,l⟩=>?_;exact n v u s2 x y d q k j l
theorem bQ{op:Operator}{r:R2}(f:mR X (binaryOp op) r)(i:PE X a ta)(g:PE X b tb):PE X (.BinOp a op b pos) (Ao r ta tb):=by
 intro c s Z H Q I h;exact wpAny_BinOp (Oe i g I h λv u s2 x y k j e d q=>f c s2 Z k x y v u Q j e d q)
theorem Jf{op:UnaryOp}{r:V->Hp->VK->Prop}(f:Tg X (unaryOp op) r)(g:PE X a ta):PE X (.UnaryOp op a pos) (tUn r ta):=by
 intro b s Z H Q I h;exact UnaryOp_ (bE (g b s Z H _ I h) λv c ⟨x,H1,i,d,e⟩=>f b c Z H1 x v Q i d e)
theorem Sn{f:Value->Value->Sem Value}{C:Int->Int->Prop}{g:Int->Int->Int}
 (rule:∀(i j:Int) (t u:Tok) (s:Shared) (Q:L1) (E:L1),C i j->Q (.int (g i j) s.toks) {s with toks:=s.toks+1}->wpAny (model X.prog X.w) X.A (f (.int i t) (.int j u)) Q E s):
 mR X f (rI C λi j=>.int (g i j)):=by
 intro a s Z H x y v u Q I c b h;obtain⟨i,j,rfl,rfl,d,q⟩:=h;obtain⟨t,rfl⟩:=c;obtain⟨t',rfl⟩:=b;exact rule i j t t' s _ _ d ⟨.int (g i j),H,I.tok _,⟨_,rfl⟩,q⟩
theorem Pp{f:Value->Value->Sem Value}{g:Int->Int->Int}
 (rule:∀(i j:Int) (t u:Tok) (s:Shared) (Q:L1) (E:L1),Q (.int (g i j) s.toks) {s with toks:=s.toks+1}->wpAny (model X.prog X.w) X.A (f (.int i t) (.int j u)) Q E s):
 mR X f (yS λi j=>.int (g i j)):=by
 intro a s Z H x y v u Q I c b h;obtain⟨i,j,rfl,rfl,q⟩:=h;obtain⟨t,rfl⟩:=c;obtain⟨t',rfl⟩:=b;exact rule i j t t' s _ _ ⟨.int (g i j),H,I.tok _,⟨_,rfl⟩,q⟩
theorem L8{f:Value->Value->Sem Value}{g:Int->Int->Bool}
 (rule:∀(i j:Int) (t u:Tok) (s:Shared) (Q:L1) (E:L1),Q (.bool (g i j)) s->wpAny (model X.prog X.w) X.A (f (.int i t) (.int j u)) Q E s):
 mR X f (yS λi j=>.bl (g i j)):=by
 intro a s Z H x y v u Q I c b h;obtain⟨i,j,rfl,rfl,q⟩:=h;obtain⟨t,rfl⟩:=c;obtain⟨t',rfl⟩:=b;exact rule i j t t' s _ _ ⟨.bl (g i j),H,I,rfl,q⟩
def Os(i j:Int):Prop:=0<j/\j<1073741824
def CMul(i j:Int):Prop:=(-(2 ^ 64)<i/\i<2 ^ 64)\/(-(2 ^ 64)<j/\j<2 ^ 64)
theorem CMul.ok{i j:Int}(h:CMul i j):IntMulOk i j:=by
 rcases h with ⟨b,a⟩|⟨b,a⟩
 ·exact .of_left (intBits_le_64 b a)
 ·exact .of_right (intBits_le_64 b a)
theorem wy(k:Nat):(0:Int)<=2 ^ k:=by
 rw[two_pow_cast];exact Int.natCast_nonneg _
theorem jE:mR X (binaryOp .Add) (yS λi j=>.int (i+j)):=Pp λ_ _ _ _ _ _ _ q=>add_int q
theorem DB:mR X (binaryOp .Sub) (yS λi j=>.int (i-j)):=Pp λ_ _ _ _ _ _ _ q=>sub_int q
theorem DD:mR X (binaryOp .Mult) (rI CMul λi j=>.int (i*j)):=Sn λ_ _ _ _ _ _ _ a q=>mul_int q a.ok
theorem jk:mR X (binaryOp .FloorDiv) (rI Os λi j=>.int (i / j)):=Sn λi j _ _ _ _ _ a q=>by
 have c:(0:Int)<j:=a.1;have b:j<1073741824:=a.2;exact floordiv_int (by omega) (by rw[Wa i (by omega)];exact q) (.inl (PyProof.noPylong_small (by omega)))
theorem fJ:mR X (binaryOp .Mod) (rI (λ_ j=>0<j) λi j=>.int (i%j)):=Sn λi j _ _ _ _ _ a q=>by
 have b:(0:Int)<j:=a;exact mod_int' (by omega) (by rw[Int.fmod_eq_emod_of_nonneg i (by omega)];exact q)
theorem LY:mR X (binaryOp .RShift) (rI (λ_ j=>0<=j) λi j=>.int (i / 2 ^ j.toNat)):=Sn λi j _ _ _ _ _ a q=>
 rshift_int a (by rw[Wa i (wy _)];exact q)
theorem unI{f:Value->Sem Value}{g:Int->Int}
 (rule:∀(i:Int) (t:Tok) (s:Shared) (Q:L1) (E:L1),Q (.int (g i) s.toks) {s with toks:=s.toks+1}->wpAny (model X.prog X.w) X.A (f (.int i t)) Q E s):
 Tg X f (rU λi=>.int (g i)):=by
 intro a s Z H x v Q I b h;obtain⟨i,rfl,q⟩:=h;obtain⟨t,rfl⟩:=b;exact rule i t s _ _ ⟨.int (g i),H,I.tok _,⟨_,rfl⟩,q⟩
theorem BK:Tg X (unaryOp .USub) (rU λi=>.int (-i)):=unI λ_ _ _ _ _ q=>neg_int q
end
def KW:V->V->Bool
 |.non,.non=>true | .non,.int _=>true | .int _,.non=>true | .non,.bl _=>true | .bl _,.non=>true | .non,.str _=>true | .str _,.non=>true
 |.int _,.int _=>true | .bl _,.bl _=>true | .str _,.str _=>true | .byt _,.byt _=>true
 |.int _,.str _=>true | .str _,.int _=>true | .bl _,.str _=>true | .str _,.bl _=>true
 |_,_=>false
def rEq:R2:=λx y H Q=>KW x y=true/\Q (.bl (decide (x=y))) H
def rNe:R2:=λx y H Q=>KW x y=true/\Q (.bl (!decide (x=y))) H
theorem zr{i j:Int}:decide (V.int i=V.int j)=(i==j):=by
 rw[V3];simp
theorem FC{i j:Bool}:decide (V.bl i=V.bl j)=(i==j):=by
 rw[V3];simp
theorem zq{i j:Str}:decide (V.str i=V.str j)=(i==j):=by
 rw[V3];simp
theorem zt{i j:Array UInt8}:decide (V.byt i=V.byt j)=(i.toList==j.toList):=by
 rw[V3];cases i;cases j;simp
section
variable{X:Cx}{a b c:Expr}{ta tb tc:TE}{pos:Pos}
theorem bw{a:L0}{Z:St}{H:Hp}{s:Shared}{Q:VK}{k k':Bool}(I:Inv X a Z H s)(q:Q (.bl k) H)(e:k=k'):EP X a Z Q (.bool k') s:=by
 subst e;exact⟨.bl k,H,I,rfl,q⟩
theorem cg:mR X (compareOp .Eq) rEq:=by
 intro d s Z H x y v u Q I c a h;obtain⟨b,q⟩:=h;cases x with
 |non=>
   cases c;cases y with
   |non=>cases a;exact PySem.EqNone.eq_none_none (bw I q (by simp))
   |bl j=>cases a;exact PySem.EqNone.eq_none_bool (bw I q (by simp))
   |int j=>obtain⟨t',rfl⟩:=a;exact PySem.EqNone.eq_none_int (bw I q (by simp))
   |str j=>obtain⟨t',rfl⟩:=a;exact PySem.EqNone.eq_none_str (bw I q (by simp))
   |_=>exact absurd (show false=true from b) TK
 |bl i=>
   cases c;cases y with
   |non=>cases a;exact PySem.EqNone.eq_bool_none (bw I q (by simp))
   |bl j=>cases a;exact eq_bool (bw I q FC)
   |str j=>obtain⟨t',rfl⟩:=a;exact PySem.EqMixed.eq_bool_str (bw I q (by simp))
   |_=>exact absurd (show false=true from b) TK
 |int i=>
   obtain⟨t,rfl⟩:=c;cases y with
   |non=>cases a;exact PySem.EqNone.eq_int_none (bw I q (by simp))
   |int j=>obtain⟨t',rfl⟩:=a;exact eq_int (bw I q zr)
   |str j=>obtain⟨t',rfl⟩:=a;exact PySem.EqMixed.eq_int_str (bw I q (by simp))
   |_=>exact absurd (show false=true from b) TK
 |str i=>
   obtain⟨t,rfl⟩:=c;cases y with
   |non=>cases a;exact PySem.EqNone.eq_str_none (bw I q (by simp))
   |bl j=>cases a;exact PySem.EqMixed.eq_str_bool (bw I q (by simp))
   |int j=>obtain⟨t',rfl⟩:=a;exact PySem.EqMixed.eq_str_int (bw I q (by simp))
   |str j=>obtain⟨t',rfl⟩:=a;exact eq_str (bw I q zq)
   |_=>exact absurd (show false=true from b) TK
 |byt i=>
   obtain⟨t,rfl⟩:=c;cases y with
   |byt j=>obtain⟨t',rfl⟩:=a;exact PySem.W.eq_bytes (bw I q zt)
   |_=>exact absurd (show false=true from b) TK
 |_=>cases y<;>exact absurd (show false=true from b) TK
theorem DC:mR X (compareOp .NotEq) rNe:=by
 intro d s Z H x y v u Q I c a h;obtain⟨b,q⟩:=h;cases x with
 |non=>
   cases c;cases y with
   |non=>cases a;exact PySem.EqNone.ne_none_none (bw I q (by simp))
   |bl j=>cases a;exact PySem.EqNone.ne_none_bool (bw I q (by simp))
   |int j=>obtain⟨t',rfl⟩:=a;exact PySem.EqNone.ne_none_int (bw I q (by simp))
   |str j=>obtain⟨t',rfl⟩:=a;exact PySem.EqNone.ne_none_str (bw I q (by simp))
   |_=>exact absurd (show false=true from b) TK
 |bl i=>
   cases c;cases y with
   |non=>cases a;exact PySem.EqNone.ne_bool_none (bw I q (by simp))
   |bl j=>cases a;exact ne_bool (bw I q (congrArg not FC))
   |str j=>obtain⟨t',rfl⟩:=a;exact PySem.EqMixed.ne_bool_str (bw I q (by simp))
   |_=>exact absurd (show false=true from b) TK
 |int i=>
   obtain⟨t,rfl⟩:=c;cases y with
   |non=>cases a;exact PySem.EqNone.ne_int_none (bw I q (by simp))
   |int j=>obtain⟨t',rfl⟩:=a;exact ne_int (bw I q (congrArg not zr))
   |str j=>obtain⟨t',rfl⟩:=a;exact PySem.EqMixed.ne_int_str (bw I q (by simp))
   |_=>exact absurd (show false=true from b) TK
 |str i=>
   obtain⟨t,rfl⟩:=c;cases y with
   |non=>cases a;exact PySem.EqNone.ne_str_none (bw I q (by simp))
   |bl j=>cases a;exact PySem.EqMixed.ne_str_bool (bw I q (by simp))
   |int j=>obtain⟨t',rfl⟩:=a;exact PySem.EqMixed.ne_str_int (bw I q (by simp))
   |str j=>obtain⟨t',rfl⟩:=a;exact ne_str (bw I q (congrArg not zq))
   |_=>exact absurd (show false=true from b) TK
 |byt i=>
   obtain⟨t,rfl⟩:=c;cases y with
   |byt j=>obtain⟨t',rfl⟩:=a;exact PySem.W.ne_bytes (bw I q (congrArg not zt))
   |_=>exact absurd (show false=true from b) TK
 |_=>cases y<;>exact absurd (show false=true from b) TK
theorem uO:mR X (compareOp .Lt) (yS λi j=>.bl (decide (i<j))):=L8 λ_ _ _ _ _ _ _ q=>lt_int q
theorem DE:mR X (compareOp .Gt) (yS λi j=>.bl (decide (j<i))):=L8 λ_ _ _ _ _ _ _ q=>gt_int q
theorem Jj:mR X (compareOp .GtE) (yS λi j=>.bl (decide (j<=i))):=L8 λ_ _ _ _ _ _ _ q=>ge_int q
theorem sy:mR X (compareOp .Is) (λx y H Q=>y=.non/\Q (.bl (decide (x=.non))) H):=by
 intro b s Z H x y v u Q I a c h;obtain⟨rfl,q⟩:=h;cases c;refine is_none_gen (bw I q ?_)
 cases x <;> first
  |(cases a;rfl)
  |(obtain⟨t,rfl⟩:=a;rfl)
theorem aK(b:Expr){op:CmpOp}(h:op≠ .In:=by decide)(a:op≠ .NotIn:=by decide):behindInMarks op b=false:=by
 have e1:(op == CmpOp.In)=false:=by cases op <;> first | rfl | exact absurd rfl h
 have c:(op == CmpOp.NotIn)=false:=by cases op <;> first | rfl | exact absurd rfl a
 cases b<;>simp[behindInMarks,e1,c]
theorem ki{op:CmpOp}{r:R2}(f:mR X (compareOp op) r)(j:PE X a ta)(i:PE X b tb)(g:behindInMarks op b=false):PE X (.Compare a [op] [b] pos) (Ao r ta tb):=by
 intro c s Z H Q I h;exact wpAny_Compare1 (Oe j i I h λv u s2 x y l k e d q=>f c s2 Z l x y v u Q k e d q) g
def BU(t:TE):TT:=λZ H Q=>t Z H λx H'=>∃k,x=.bl k/\Q k H'
theorem aB{op:CmpOp}{r:R2}(o:mR X (compareOp op) r)(t:PE X a ta)(q:PE X b tb)(p:behindInMarks op b=false):PT X (.Compare a [op] [b] pos) (BU (Ao r ta tb)):=by
 intro d s Z H Q I h
 refine wpAny_isTrue_Compare1 (bE (t d s Z H _ I h) λv f ⟨x,H1,B,j,n⟩=>bE (q d f Z H1 _ B n) λu s2 ⟨y,D,A,i,m⟩=>
  bE (o d s2 Z D x y v u _ A j i m) λc E ⟨z,C,w,g,k,e,l⟩=>?_) p
 subst e;cases g;exact Vb ⟨C,w,l⟩
theorem sM:(sizeLine:Nat)<2 ^ 63:=by rw[sizeLine_eq];decide
theorem BI{x:V}{us:List Value}(r:Vals [x] us):∃u,us=[u]/\RelV x u:=by
 cases r with
 |cons b a=>cases a;exact⟨_,rfl,b⟩
theorem BH{x y:V}{us:List Value}(r:Vals [x,y] us):∃u a,us=[u,a]/\RelV x u/\RelV y a:=by
 cases r with
 |cons e d=>
   cases d with
   |cons c b=>cases b;exact⟨_,_,rfl,e,c⟩
theorem d7(c:X.calm=true):fe X (.builtin "max") (λxs H Q=>∃i j,xs=[.int i,.int j]/\Q (.int (if j>i then j else i)) H):=by
 intro b s Z H xs us Q I r h;obtain⟨i,j,rfl,q⟩:=h;obtain⟨u,d,rfl,⟨t,rfl⟩,⟨t',rfl⟩⟩:=BH r;refine max_two_ints (I.ok.hd c) λh' e k=>⟨_,H,I.kept k,?_,q⟩;by_cases a:j>i
 ·rw[Tq a,Tq a];exact⟨_,rfl⟩
 ·rw[on a,on a];exact⟨_,rfl⟩
theorem d6(c:X.calm=true):fe X (.builtin "min") (λxs H Q=>∃i j,xs=[.int i,.int j]/\Q (.int (if j<i then j else i)) H):=by
 intro b s Z H xs us Q I r h;obtain⟨i,j,rfl,q⟩:=h;obtain⟨u,d,rfl,⟨t,rfl⟩,⟨t',rfl⟩⟩:=BH r;refine min_two_ints (I.ok.hd c) λh' e k=>⟨_,H,I.kept k,?_,q⟩;by_cases a:j<i
 ·rw[Tq a,Tq a];exact⟨_,rfl⟩
 ·rw[on a,on a];exact⟨_,rfl⟩
end
structure ObjM (h:Heap) (x dx C:Addr) (mA:Str->Option Value):Prop where
 obj:h.get? x=some (PySem.W.instObj C dx)
 ns:h.Ns1 dx mA
 ne:dx≠x
theorem AR{h:Heap}{dx:Addr}{d:Str->Option Value}(n:h.Ns1 dx d):∃c,h.get? dx=some c/\∀name,PySem.W.lookIn name c=some (d name):=by
 obtain⟨o,f,ep,i,hd,k,_,j⟩:=n;refine⟨o,i,λname=>?_⟩;have e:=j name;unfold nsFind findBy at e;rw[<-Array.find?_toList]at e;unfold PySem.W.lookIn;rw[hd];dsimp only;split
 ·rename_i y q;rw[q]at e;exact congrArg some e
 · rename_i q;rw[q]at e
   have a:f.toList.any (·.refKey)=false:=by
    rw[List.any_eq_false];intro y g;obtain⟨z,t,b⟩:=k y (V1.mp g);simp[DictEntry.refKey,b]
   have l:¬ f.toList.any (·.refKey)=true:=by rw[a];exact TK
   rw[on l];exact congrArg some e
theorem ObjM.look{h:Heap}{x dx C:Addr}{b:Str->Option Value}(I:ObjM h x dx C b):∃a,PySem.W.InstAt h x (PySem.W.instObj C dx) C (some a)/\∀name,PySem.W.lookIn name a=some (b name):=
 let ⟨a,c,d⟩:=AR I.ns
 ⟨a,⟨I.obj,rfl,rfl,c⟩,d⟩
section
variable{prog:Program}{w:World}{A:Around}{E:L1}{s:Shared}{K:F0}{x dx C f:Addr}{mA:Str->Option Value}{name:Str}{v:Value}
theorem HU{a:Bool}{Q:L1}(X:K.In s.heap)(I:ObjM s.heap x dx C mA)(f:PySem.W.plainGet K C name=true)(e:PySem.W.hasDictIn K C=true)
 (g:PySem.W.findIn K (.ref C) name=some none) (c:mA name=some v) (b:PySem.W.handedIn v=true) (h:Q v {s with toks:=s.toks+1}):
 wpAny (model prog w) A (getAttr (.ref x) name a) Q E s:=by
 obtain⟨i,J,d⟩:=I.look;exact PySem.W.get_value X J (V5 f).1 (PySem.W.findObj_own e g rfl (by rw[d,c])) b h
theorem Fb{pl:Sem Bool}{Q:Value×List Value->Shared->Prop}(X:K.In s.heap)(I:ObjM s.heap x dx C mA)(a:PySem.W.plainGet K C name=true)
 (g:PySem.W.findIn K (.ref C) name=some (some (.ref f))) (d:PySem.W.isFn K (.ref f)=true) (c:mA name=none) (h:Q (.ref f,[.ref x]) s):
 wpAny (model prog w) A (getMethod (.ref x) name pl) Q E s:=by
 obtain⟨b,J,e⟩:=I.look;exact PySem.W.method_fn X J (V5 a).1 (V5 a).2 g (VY.mp d) (by show(PySem.W.lookIn name b).map (·.isSome)=some false;rw[e,c];rfl) h
theorem GQ{ns:List Str}{Q:Unit->Shared->Prop}(X:K.In s.heap)(I:ObjM s.heap x dx C mA)
 (m:PySem.W.findIn K (.ref C) "__setattr__" = some (some (.builtin "object.__setattr__"))) (hp:PySem.W.plainOver K C=true) (l:PySem.W.takerIn K C name=some none) (n:PySem.W.hasDictIn K C=true)
 (k:PySem.Within mA ns) (hsz:ns.length<=sizeLine)
 (h:∀h',ObjM h' x dx C (λy=>if y=name then some v else mA y)->Heap.SameBut dx s.heap h'->Q () {s with heap:=h',toks:=s.toks+2}):
 wpAny (model prog w) A (setAttr (.ref x) name v) Q E s:=by
 obtain⟨t,J,z⟩:=I.look;refine PySem.W.set_plain X J m (PySem.W.osa_open (s:={s with toks:=s.toks+1}) (r:=none) X J hp l λb=>?_);obtain⟨B,o,g⟩:=PySem.W.any_some n;have j:s.heap.get? x=some ⟨.ref C,some dx,.plain,#[]⟩:=I.obj;refine Ts (TF (Ts (Ts (wpAny_loadPart j (Ts (PySem.W.Looks.here (s:={s with toks:=s.toks+1}) (PySem.W.looks_clsIn X o) ?_))))));rw[g];refine TF (a:=some dx) (Ts (TF (Ts ?_)));refine wpAny_nsSet1 (s:={s with toks:=s.toks+1}) I.ns λh' d c=>?_;obtain⟨u,p,q,e,f,i⟩:=d.count (PySem.Within.cons name v k);refine Ts (wpAny_lookBehind e (by rw[f];exact pastItsLine_dict (Uk i (by rw[TD];omega))) ?_);exact TF (h _ ⟨(c.2 _ (Va I.ne)).trans I.obj,d,I.ne⟩ c)
theorem EG{R:Result->Shared->Prop}{vs:List Value}{a:List (Str×Value)}(X:K.In s.heap)(b:PySem.W.makesIn K C=true)
 (hi:PySem.W.findIn K (.ref C) "__init__" = some (some (.ref f))) (c:PySem.W.typeIn K (.ref f)=some (.type "function"))
 (h:codeAny (model prog w) (A.under (.builtin "type.__call__" ⟨.ref C::vs,a⟩)) (.call (.ref f) ⟨.ref (s.heap.objs.size+1)::vs,a⟩) (PySem.W.InitBack (s.heap.objs.size+1) R)
   {s with heap:=(s.heap.push PySem.W.emptyDict).push (PySem.W.instObj C s.heap.objs.size)}):
 codeAny (model prog w) A (.call (.ref C) ⟨vs,a⟩) R s:=by
 obtain⟨e,g,d,t,os⟩:=s;exact PySem.W.make_core (PySem.W.makes_of X b) (PySem.W.looks_findIn X hi) (λself=>PySem.W.bind_fn X self c) (.inl rfl) h
end
def fD(f:Str)(v:V):List (Str×V)->List (Str×V)
 |[]=>[(f,v)]
 |(g,x)::r=>if g=f then (g,v)::r else (g,x)::fD f v r
theorem l8(f g:Str)(v:V):∀fs:List (Str×V),(fD f v fs).lookup g=if g=f then some v else fs.lookup g
 | []=>by
   show List.lookup g [(f,v)]=_;by_cases h:g=f
   ·have a:(g==f)=true:=VY.mpr h;simp only[List.lookup,a,Tq h]
   ·have a:(g==f)=false:=Ui.mpr h;simp only[List.lookup,a,on h]
 | (k,x)::r=>by
   have c:=l8 f g v r;rw[show fD f v ((k,x)::r)=(if k=f then (k,v)::r else (k,x)::fD f v r) from rfl];by_cases b:k=f
   · rw[Tq b];by_cases h:g=k
     ·have a:(g==k)=true:=VY.mpr h;simp only[List.lookup,a,Tq (h.trans b)]
     ·have a:(g==k)=false:=Ui.mpr h;simp only[List.lookup,a,on (λe:g=f=>h (e.trans b.symm))]
   · rw[on b];by_cases h:g=k
     ·have a:(g==k)=true:=VY.mpr h;simp only[List.lookup,a,on (λe:g=f=>b (h.symm.trans e))]
     ·have a:(g==k)=false:=Ui.mpr h;simp only[List.lookup,a];exact c
theorem lJ(f:Str)(v:V):∀fs:List (Str×V),f∈(fD f v fs).map (·.1)/\∀g,g∈fs.map (·.1)->g∈(fD f v fs).map (·.1)
 |[]=>⟨by simp[fD],λg h=>by simp at h⟩
 | (k,x)::r=>by
   obtain⟨c,b⟩:=lJ f v r;rw[show fD f v ((k,x)::r)=(if k=f then (k,v)::r else (k,x)::fD f v r) from rfl];by_cases a:k=f
   ·rw[Tq a];subst a;exact⟨by simp,λg h=>by simpa using h⟩
   · rw[on a];refine⟨?_,λg h=>?_⟩
     ·rw[Tr];exact Tt _ c
     · rw[Tr]at h ⊢;rcases Tz.mp h with e|e
       ·exact Tz.mpr (.inl e)
       ·exact Tt _ (b g e)
theorem mj(f:Str)(v:V):∀fs:List (Str×V),(fD f v fs).length<=fs.length+1
 |[]=>by simp[fD]
 | (k,x)::r=>by
   have b:=mj f v r;rw[show fD f v ((k,x)::r)=(if k=f then (k,v)::r else (k,x)::fD f v r) from rfl];by_cases a:k=f
   ·rw[Tq a,TD,TD];omega
   ·rw[on a,TD,TD];omega
theorem RelO.some_of{v:V}{o:Option Value}(r:RelO (some v) o):∃u,o=some u/\RelV v u:=by
 cases o with
 |none=>exact(show False from r).elim
 |some u=>exact⟨u,rfl,r⟩
theorem RelO.none_of{o:Option Value}(r:RelO none o):o=none:=by
 cases o with
 |none=>rfl
 |some u=>exact(show False from r).elim
theorem A9{v:V}{u:Value}(r:RelV v u):PySem.W.handedIn u=true:=by
 cases v with
 |non=>cases(show u=Value.none from r);rfl
 |bl b=>cases(show u=Value.bool b from r);rfl
 |int i=>obtain⟨t,e⟩:=(show ∃t,u=Value.int i t from r);cases e;rfl
 |str x=>obtain⟨t,e⟩:=(show ∃t,u=Value.str x t from r);cases e;rfl
 |byt b=>obtain⟨t,e⟩:=(show ∃t,u=Value.bytes b t from r);cases e;rfl
 |flt b=>obtain⟨t,e⟩:=(show ∃t,u=Value.float b t from r);cases e;rfl
 |ref a=>cases(show u=Value.ref a from r);rfl
 |ty n=>cases(show u=Value.type n from r);rfl
section
variable{P:Program}{w:World}{H H':Hp}{h h':Heap}{a C dx:Addr}{fs fs':List (Str×V)}
theorem sQ(hok:HOk P w H h)(e:H a=some (.ins C dx fs)):∃b,ObjM h a dx C b/\(∀f,RelO (fs.lookup f) (b f))/\PySem.Within b (fs.map (·.1))/\fs.length<=1000/\H dx=some (.own a):=by
 obtain⟨d,z,ne,ob,b,n,r,q⟩:=(show ObjOk P w H h a (.ins C dx fs) from hok a _ e);exact⟨b,⟨ob,n,ne⟩,r,q,z,d⟩
end
structure Cls (K:F0) (C:Addr):Prop where
 pg:PySem.W.plainGet K C Str.empty=true
 hd:PySem.W.hasDictIn K C=true
 po:PySem.W.plainOver K C=true
 sa:PySem.W.findIn K (.ref C) "__setattr__" = some (some (.builtin "object.__setattr__"))
theorem Cls.get{K:F0}{C:Addr}(c:Cls K C)(f:Str):PySem.W.plainGet K C f=true:=c.pg
def NoAttr(K:F0)(C:Addr)(f:Str):Prop:=PySem.W.findIn K (.ref C) f=some none
theorem NoAttr.taker{K:F0}{C:Addr}{f:Str}(n:NoAttr K C f):PySem.W.takerIn K C f=some none:=by
 unfold PySem.W.takerIn;rw[show PySem.W.findIn K (.ref C) f=some none from n];rfl
structure Meth (K:F0) (C:Addr) (m:Str) (f:Addr):Prop where
 at_:PySem.W.findIn K (.ref C) m=some (some (.ref f))
 fn:PySem.W.isFn K (.ref f)=true
 kp:PySem.W.keepIn K (.ref f)=true
section
variable{X:Cx}{pins:L0}{Z:St}{H:Hp}{s:Shared}{a C dx:Addr}{fs:List (Str×V)}{f:Str}{v:V}{A:Around}{E:L1}
theorem xD{b:Bool}{Q:L1}(I:Inv X pins Z H s)(e:H a=some (.ins C dx fs))(c:Cls X.K C)(n:NoAttr X.K C f)(l:fs.lookup f=some v)
 (h:∀u s',Inv X pins Z H s'->RelV v u->Q u s'):wpAny (model X.prog X.w) A (getAttr (.ref a) f b) Q E s:=by
 obtain⟨g,O,r,_,_,_⟩:=sQ I.hok e;obtain⟨u,i,d⟩:=RelO.some_of (v:=v) (o:=g f) (by rw[<-l];exact r f);exact HU I.kIn O (c.get f) c.hd n i (A9 d) (h u _ (I.tok _) d)
theorem g6{m:Str}{g:Addr}{pl:Sem Bool}{Q:Value×List Value->Shared->Prop}(I:Inv X pins Z H s)(e:H a=some (.ins C dx fs))(c:Cls X.K C)(k:Meth X.K C m g)(l:fs.lookup m=none)
 (h:Q (.ref g,[.ref a]) s):wpAny (model X.prog X.w) A (getMethod (.ref a) m pl) Q E s:=by
 obtain⟨b,O,r,_,_,_⟩:=sQ I.hok e;have d:b m=none:=RelO.none_of (by rw[<-l];exact r m);exact Fb I.kIn O (c.get m) k.at_ k.fn d h
theorem wF{y:V}{u:Value}{Q:Unit->Shared->Prop}(I:Inv X pins Z H s)(e:H a=some (.ins C dx fs))(c:Cls X.K C)(n:NoAttr X.K C f)(B:fs.length<1000)(m:RelV y u)
 (h:∀s',Inv X pins Z (upd H a (.ins C dx (fD f y fs))) s'->Q () s'):wpAny (model X.prog X.w) A (setAttr (.ref a) f u) Q E s:=by
 obtain⟨j,O,r,i,_,k⟩:=sQ I.hok e;have hz:(fs.map (·.1)).length<=sizeLine:=by rw[Tv,sizeLine_eq];omega
 refine GQ I.kIn O c.sa c.po n.taker c.hd i hz λh' d l=>h _ ?_;have hd:∃o,h'.get? dx=some o:=let ⟨o,_,_,v,_⟩:=d.ns;⟨o,v⟩
 refine I.write (x:=a) (e:=dx) (by rw[e];exact True.intro) (.inr k) (λb q t z=>(l.2 b t).trans z) hd ?_;refine⟨by rw[ay O.ne];exact k,?_,O.ne,d.obj,_,d.ns,λg=>?_,λg p=>?_⟩
 ·have:=mj f y fs;omega
 · show RelO ((fD f y fs).lookup g) (if g=f then some u else j g);rw[l8];by_cases q:g=f
   ·rw[Tq q,Tq q];exact m
   ·rw[on q,on q];exact r g
 · by_cases q:g=f
   ·rw[q];exact(lJ f y fs).1
   ·refine(lJ f y fs).2 g (i g λz=>p ?_);show(if g=f then some u else j g)=none;rw[on q];exact z
theorem Inv.made(I:Inv X pins Z H s):Inv X pins Z (upd (upd H s.heap.objs.size (.own (s.heap.objs.size+1))) (s.heap.objs.size+1) (.ins C s.heap.objs.size []))
 {s with heap:=(s.heap.push PySem.W.emptyDict).push (PySem.W.instObj C s.heap.objs.size)}:=by
 have e1:(s.heap.push PySem.W.emptyDict).get? s.heap.objs.size=some PySem.W.emptyDict:=TZ s.heap rfl
 have g:((s.heap.push PySem.W.emptyDict).push (PySem.W.instObj C s.heap.objs.size)).get? (s.heap.objs.size+1)=some (PySem.W.instObj C s.heap.objs.size):=by
  have:=TZ (s.heap.push PySem.W.emptyDict) (o:=PySem.W.instObj C s.heap.objs.size) rfl
  rwa [VB]at this
 have f:(s.heap.push PySem.W.emptyDict).Ns s.heap.objs.size (λ_=>none):=⟨PySem.W.emptyDict,#[],_,e1,rfl,(λe d=>absurd d (by simp)),λ_=>rfl⟩;have h:=I.laid (a:=s.heap.objs.size) (o:=.own (s.heap.objs.size+1)) (h':=s.heap.push PySem.W.emptyDict) (t':=s.toks) (λb u q=>Tx _ q) (TM _) ⟨_,e1⟩;refine h.laid (a:=s.heap.objs.size+1) (o:=.ins C s.heap.objs.size []) (t':=s.toks) (λb u q=>Tx _ q) (Nat.le_of_eq (VB _ _)) ?_;have ne:s.heap.objs.size≠s.heap.objs.size+1:=T8 (VZ _);refine⟨by rw[ay ne,aM],UN _,ne,g,λ_=>none,(Heap.Ns1.of_empty f).at λo q=>Tx _ q,λ_=>True.intro,λy c=>absurd rfl c⟩
theorem Im{prog:Program}{w:World}{env:Env}{e:Expr}{f:Str}{pos:Pos}{s:Shared}{Q:L1}(b:attributeBase e f env (eval e env)=eval e env)
 (h:wpAny (model prog w) A (eval e env) (λo a=>wpAny (model prog w) A (getAttr o f true) Q E a) E s):wpAny (model prog w) A (eval (.Attribute e f pos) env) Q E s:=
 Attribute_any_ h (by rw[arm_eval_Attribute,b])
end
def qd(K:F0)(b:TE)(f:Str):TE:=λZ H Q=>b Z H λx H1=>∃a C dx fs v,x=.ref a/\H1 a=some (.ins C dx fs)/\Cls K C/\NoAttr K C f/\fs.lookup f=some v/\Q v H1
def GV(K:F0)(d c:TE)(f:Str):TS:=λD Z H=>c Z H λy H1=>d Z H1 λx b=>∃a C dx fs,x=.ref a/\b a=some (.ins C dx fs)/\Cls K C/\NoAttr K C f/\fs.length<1000/\
 D.nx Z (upd b a (.ins C dx (fD f y fs)))
section
variable{X:Cx}{o e value:Expr}{f:Str}{pos pos' tpos:Pos}{ta tv:TE}
theorem LL(i:PE X e ta)(j:attributeBase e f X.env (eval e X.env)=eval e X.env):PE X (.Attribute e f pos) (qd X.K ta f):=by
 intro b s Z H Q I h;refine Im j (bE (i b s Z H _ I h) λu r ⟨x,H1,o,d,a,C,dx,fs,v,ex,k,c,n,l,q⟩=>?_);subst ex;obtain rfl:u=Value.ref a:=d;exact xD o k c n l λp s2 m g=>⟨v,H1,m,g,q⟩
theorem fE(m:PE X o ta)(j:PE X value tv)(k:swapsWith value (some (.Attribute o f pos')) pos.line X.env=pure false):PS X (.Assign [.Attribute o f pos'] value pos) (GV X.K ta tv f):=by
 intro b s Z H D I h;refine plainObj_wpAny_Assign_Attribute (bE (j b s Z H _ I h) λu d ⟨y,H1,v,e,q⟩=>bE (m b d Z H1 _ v q) λov s2 ⟨x,z,t,g,a,C,dx,fs,ex,p,c,n,l,i⟩=>?_) k;subst ex;obtain rfl:ov=Value.ref a:=g;exact wF t p c n l e λw r=>⟨Z,_,r,i⟩
end
structure Room (k:Nat) (A:Around):Prop where
 hd:A.handled=none
 dp:A.depth+3*k+5<recursionLimit
 un:A.units+16*k+200<cLine
theorem Room.mono{j k:Nat}{A:Around}(r:Room k A)(h:j<=k):Room j A:=⟨r.hd,by have:=r.dp;omega,by have:=r.un;omega⟩
theorem Room.deeper{k:Nat}{A:Around}(r:Room (k+1) A)(env:Env):Room k (A.deeper env):=
 ⟨r.hd,by have:=r.dp;show A.depth+1+3*k+5<_;omega,by have:=r.un;show A.units+3+16*k+200<_;omega⟩
theorem xr{A:Around}{C:Addr}{us:List Value}{a:List (Str×Value)}:(A.under (.builtin "type.__call__" ⟨.ref C::us,a⟩)).depth=A.depth+1:=by
 first | rfl | simp[Around.under,Code.weight,Code.isCreation,Code.isGuard,Code.isCaller,Code.frames,Code.isFrame,guardIds]
theorem xq{A:Around}{C:Addr}{us:List Value}{a:List (Str×Value)}:(A.under (.builtin "type.__call__" ⟨.ref C::us,a⟩)).units=A.units+1:=by
 first | rfl | simp[Around.under,Code.cUnits,Code.frames,Code.isFrame]
theorem Room.make{k:Nat}{A:Around}(r:Room (k+1) A)(C:Addr)(us:List Value)(a:List (Str×Value)):Room k (A.under (.builtin "type.__call__" ⟨.ref C::us,a⟩)):=
 ⟨r.hd,by have:=r.dp;rw[xr];omega,by have:=r.un;rw[xq];omega⟩
theorem Room.depth{k:Nat}{A:Around}(r:Room k A):A.depth<recursionLimit:=by have:=r.dp;omega
theorem Room.units{k:Nat}{A:Around}(r:Room k A):A.units+64<cLine:=by have:=r.un;omega
def cT:TA:=λ_ H Q=>Q [] H
def bz(b:TE)(a:TA):TA:=λZ H Q=>b Z H λx H1=>a Z H1 λxs c=>Q (x::xs) c
section
variable{X:Cx}{e:Expr}{es:List Expr}{te:TE}{t:TA}{pos:Pos}
theorem ac:PA X [] cT:=λ_ _ _ _ H Q I h=>UQ ⟨[],H,I,.nil,h⟩
theorem aa(k:PE X e te)(j:PA X es t)(i:starEach (e::es) X.env=(false,eval e X.env)::starEach es X.env:=by rfl):PA X (e::es) (bz te t):=by
 intro pos a s Z H Q I h;rw[i];show wpAny _ _ (spliced ((false,eval e X.env)::backTo pos (starEach es X.env))) _ _ s;refine Us (bE (k a s Z H _ I h) λu b ⟨x,H1,m,d,g⟩=>?_);exact bE (j pos a b Z H1 _ m g) λus s2 ⟨xs,n,l,c,f⟩=>⟨x::xs,n,l,.cons d c,f⟩
def OH(t:TA):TE:=λZ H Q=>t Z H λxs H1=>xs.length<=sizeLine/\∀p,H1 p=none->Q (.ref p) (upd H1 p (.tup xs))
def wB(t:TA):TE:=λZ H Q=>t Z H λxs H1=>xs.length<=sizeLine/\∀p,H1 p=none->Q (.ref p) (upd H1 p (.lst xs))
theorem bH{f}(h:PA X es t):PE X (.Tuple es f pos) (OH t):=by
 intro a s Z H Q I g;refine wpAny_Tuple_spliced (bE (h pos a s Z H _ I g) λus c ⟨xs,H1,d,r,z,q⟩=>⟨by rw[<-r.length];exact z,?_⟩);have i:H1 c.heap.objs.size=none:=d.hok.fresh (TM _);refine⟨.ref c.heap.objs.size,upd H1 c.heap.objs.size (.tup xs),d.laid (t':=c.toks) (λb u e=>Tx _ e) (TM _) ?_,rfl,q _ i⟩;exact⟨z,us,r,⟨_,TZ _ rfl,rfl,_,rfl⟩⟩
theorem cK(h:PA X es t):PE X (.List es pos) (wB t):=by
 intro a s Z H Q I f;refine wpAny_List_spliced (bE (h pos a s Z H _ I f) λus c ⟨xs,H1,d,r,z,q⟩=>⟨by rw[<-r.length];exact z,?_⟩);have g:H1 c.heap.objs.size=none:=d.hok.fresh (TM _);refine⟨.ref c.heap.objs.size,upd H1 c.heap.objs.size (.lst xs),d.laid (t':=c.toks) (λb u e=>Tx _ e) (TM _) ?_,rfl,q _ g⟩;exact⟨z,us,0,r,TZ _ rfl⟩
end
abbrev Sp:=List V->Hp->VK->XK->Prop
abbrev ym:=List Env->Hp->Shared->XK->Value->Shared->Prop
structure Env0 (P:Program) (w:World) (K:F0) (mg:Str->Option Value) (base:Heap) (A:Around) (outer:List Env) (s:Shared) (H:Hp):Prop where
 frames:A.frames=some outer
 mod:Mod K mg base
 bs:∀b o,base.get? b=some o->s.heap.get? b=some o/\H b=none
 bsz:base.objs.size<=s.heap.objs.size
 funs:s.heap.FunFrames base outer
 frf:∀b∈jp outer,H b=none
 hok:HOk P w H s.heap
 bare:AllBare s.gens
def CE(outer:List Env)(P:Program)(w:World)(H:Hp)(s:Shared)(Q:VK)(u:Value)(s':Shared):Prop:=
 ∃v H',s'.os=s.os/\AllBare s'.gens/\Un (jp outer) [] H H' s.heap s'.heap/\HOk P w H' s'.heap/\RelV v u/\Q v H'
def CR(CX:ym)(outer:List Env)(P:Program)(w:World)(H:Hp)(s:Shared)(Q:VK)(E:XK)(r:Result)(s':Shared):Prop:=
 match r with
 |.ok (.ret u)=>CE outer P w H s Q u s'
 |.ok _=>False
 |.error e=>CX outer H s E e s'
structure FnOk (P:Program) (w:World) (K:F0) (mg:Str->Option Value) (base:Heap) (CX:ym) (k:Nat) (f:Addr) (fd:FuncData) (ps:List Str) (sp:Sp):Prop where
 len:∀vs H Q E,sp vs H Q E->vs.length=ps.length
 run:∀(A:Around) (outer:List Env) (s:Shared) (H:Hp) (args:Args) (us:List Value) (vs:List V) (Q:VK) (E:XK),Room k A->Env0 P w K mg base A outer s H->BindsTo s fd args (ps.zip us)->Vals vs us->sp vs H Q E->
  codeAny (model P w) A (.call (.ref f) args) (CR CX outer P w H s Q E) s
theorem FnOk.imp{P:Program}{w:World}{K:F0}{mg:Str->Option Value}{base:Heap}{CX:ym}{k:Nat}{f:Addr}{fd:FuncData}{ps:List Str}{sp a:Sp}(F:FnOk P w K mg base CX k f fd ps sp)
 (h:∀vs H Q E,a vs H Q E->sp vs H Q E):FnOk P w K mg base CX k f fd ps a:=
 ⟨λvs H Q E q=>F.len vs H Q E (h _ _ _ _ q),λA outer s H args us vs Q E d e g b c=>F.run A outer s H args us vs Q E d e g b (h _ _ _ _ c)⟩
theorem Env0.make{P:Program}{w:World}{K:F0}{mg:Str->Option Value}{base:Heap}{A:Around}{outer:List Env}{s:Shared}{H:Hp}(e:Env0 P w K mg base A outer s H)(C:Addr)(us:List Value)(a:List (Str×Value)):
 Env0 P w K mg base (A.under (.builtin "type.__call__" ⟨.ref C::us,a⟩)) outer s H:=⟨by first | exact e.frames | (simpa [Around.under,Code.envs,Code.isFrame,pushEnvs] using e.frames),e.mod,e.bs,e.bsz,e.funs,e.frf,e.hok,e.bare⟩
section
variable{X:Cx}{pins:L0}{Z:St}{H:Hp}{s s':Shared}
theorem Inv.env0(I:Inv X pins Z H s):Env0 X.prog X.w X.K X.mg X.base X.A X.stack s H:=
 ⟨I.ok.frames,I.ok.mod,I.bs,Uk I.ok.bsz I.sz,I.stack,I.stkFree,I.hok,I.bare⟩
theorem Inv.after{Q:VK}{u:Value}(I:Inv X pins Z H s)(h:CE X.stack X.prog X.w H s Q u s'):EP X pins Z Q u s':=by
 obtain⟨v,H',os,bare,un,hok,r,q⟩:=h;obtain⟨c,g,d,t,a⟩:=s';obtain rfl:a=s.os:=os;exact⟨v,H',I.call (h':=c) (g':=g) (d':=d) (t':=t) (ch:=[]) un hok bare (λb z=>absurd z (by simp)),r,q⟩
end
def qA(sp:Sp)(a:List V)(E:XK)(t:TA):TE:=λZ H Q=>t Z H λvs H1=>sp (vs++a) H1 Q E
def gy(C:Addr)(m:Str)(sp:Sp)(b:List V)(E:XK)(c:TE)(t:TA):TE:=λZ H Q=>c Z H λx H1=>∃a dx fs,x=.ref a/\H1 a=some (.ins C dx fs)/\fs.lookup m=none/\
 t Z H1 λvs d=>sp (x::(vs++b)) d Q E
def BW(C:Addr)(sp:Sp)(a:List V)(E:XK)(t:TA):TE:=λZ H Q=>t Z H λvs H1=>∀x dx,H1 x=none->H1 dx=none->dx≠x->
 sp (.ref x::(vs++a)) (upd (upd H1 dx (.own x)) x (.ins C dx [])) (λv b=>v=.non/\Q (.ref x) b) E
def Binds(K:F0)(fd:FuncData)(ps:List Str)(ds:List Value):Prop:=
 ∀(s:Shared) (us:List Value),K.In s.heap->(us++ds).length=ps.length->BindsTo s fd ⟨us,[]⟩ (ps.zip (us++ds))
theorem Binds.all{K:F0}{fd:FuncData}{ps:List Str}(h:∀us:List Value,us.length=ps.length->bindArgs fd ⟨us,[]⟩=pure (ps.zip us)):Binds K fd ps []:=λs us _ a=>by
 rw[Um]at a ⊢;exact .of_eq (h us a)
def im(CX:ym)(X:Cx)(E:XK):Prop:=∀(a:L0) (Z:St) (H:Hp) (s:Shared) (e:Value) (s':Shared),Inv X a Z H s->CX X.stack H s E e s'->X.xe e s'
section
variable{X:Cx}{CX:ym}{k:Nat}{f C:Addr}{fd:FuncData}{ps:List Str}{sp:Sp}{dvs:List V}{ds:List Value}{E:XK}{x m:Str}{p pos apos:Pos}{e o:Expr}{es:List Expr}{ta:TE}{t:TA}
theorem wH{a:L0}{Z:St}{H:Hp}{s:Shared}{Q:VK}{us:List Value}{vs:List V}(F:FnOk X.prog X.w X.K X.mg X.base CX k f fd ps sp)(g:Room k X.A)(j:Binds X.K fd ps ds)(hd:Vals dvs ds)(d:im CX X E)
 (I:Inv X a Z H s) (r:Vals vs us) (h:sp (vs++dvs) H Q E):wpAny (model X.prog X.w) X.A (call (.ref f) us) (EP X a Z Q) X.xe s:=by
 have c:Vals (vs++dvs) (us++ds):=r.append hd;have i:(us++ds).length=ps.length:=by rw[<-c.length];exact F.len _ _ _ _ h
 refine wpAny_call (VR (F.run X.A X.stack s H ⟨us,[]⟩ (us++ds) (vs++dvs) Q E g I.env0 (j s us I.kIn i) c h) λr s' b=>?_);cases r with
 |error e=>exact d a Z H s e s' I b
 |ok l=>
   cases l with
   |ret u=>exact I.after b
   |next=>exact False.elim b
   |brk=>exact False.elim b
   |cont=>exact False.elim b
theorem cq(F:FnOk X.prog X.w X.K X.mg X.base CX k f fd ps sp)(i:Room k X.A)(m:Gl X x)(j:X.mg x=some (.ref f))(l:PySem.W.keepIn X.K (.ref f)=true)(o:Binds X.K fd ps ds)(hd:Vals dvs ds)(g:im CX X E)
 (u:PA X (e::es) t) (c:(x==("__debug__" : Str))=false:=by decide) (n:starEach (e::es) X.env=(false,eval e X.env)::starEach es X.env:=by rfl) (b:(backTo pos (starEach es X.env)).any (·.1)=false:=by rfl):
 PE X (.Call (.Name x p) (e::es) [] pos) (qA sp dvs E t):=by
 intro a s Z H Q I h;refine UZ (kx I m j ?_ c);refine VN (h₀:=X.base) I.ok.mod.kin l (bE (u pos a s Z H _ I h) λus v ⟨vs,H1,d,r,q⟩=>⟨d.kIn,?_⟩) n b;exact wH F i o hd g d r q
theorem a8{pl:Sem Bool}(G:PE X o ta)(c:Cls X.K C)(i:Meth X.K C m f)(F:FnOk X.prog X.w X.K X.mg X.base CX k f fd ps sp)(D:Room k X.A)(J:Binds X.K fd ps ds)(hd:Vals dvs ds)(z:im CX X E)(L:PA X (e::es) t)
 (d:starEach (e::es) X.env=(false,eval e X.env)::starEach es X.env:=by rfl) (g:(backTo pos (starEach es X.env)).any (·.1)=false:=by rfl)
 (B:eval (.Call (.Attribute o m apos) (e::es) [] pos) X.env=(do
   let ov <-eval o X.env
   standAt apos.atName
   let (f,first) <-holding [ov] (getMethod ov m pl)
   callWith pos f first (backTo pos (starEach (e::es) X.env)) (backToKw pos (keywordEach [] X.env))):=by rfl):
 PE X (.Call (.Attribute o m apos) (e::es) [] pos) (gy C m sp dvs E ta t):=by
 intro b s Z H Q I h;refine Vv (pl:=pl) (bE (G b s Z H _ I h) λu p ⟨x,H1,n,v,a,dx,fs,ex,M,l,q⟩=>?_) B;subst ex;obtain rfl:u=Value.ref a:=v;refine g6 n M c i l ?_;refine VN (first:=[.ref a]) (h₀:=X.base) I.ok.mod.kin i.kp (bE (L pos b p Z H1 _ n q) λus s2 ⟨vs,N,j,r,y⟩=>⟨j.kIn,?_⟩) d g;exact wH (us:=.ref a::us) (vs:=.ref a::vs) F D J hd z j (.cons rfl r) y
theorem fG{pl:Sem Bool}(p:PE X o ta)(c:Cls X.K C)(e:Meth X.K C m f)(F:FnOk X.prog X.w X.K X.mg X.base CX k f fd ps sp)(n:Room k X.A)(r:Binds X.K fd ps ds)(hd:Vals dvs ds)(i:im CX X E)
 (j:eval (.Call (.Attribute o m apos) [] [] pos) X.env=(do
   let ov <-eval o X.env
   standAt apos.atName
   let (f,first) <-holding [ov] (getMethod ov m pl)
   callWith pos f first (backTo pos (starEach [] X.env)) (backToKw pos (keywordEach [] X.env))):=by rfl):
 PE X (.Call (.Attribute o m apos) [] [] pos) (gy C m sp dvs E ta cT):=by
 intro b s Z H Q I h;refine Vv (pl:=pl) (bE (p b s Z H _ I h) λu v ⟨x,H1,d,g,a,dx,fs,ex,t,l,q⟩=>?_) j;subst ex;obtain rfl:u=Value.ref a:=g;refine g6 d t c e l ?_;exact PySem.W.callWith_K0 (first:=[.ref a]) d.kIn e.kp (wH (us:=[.ref a]) (vs:=[.ref a]) F n r hd i d (.cons rfl .nil) q)
structure Mk (K:F0) (C f:Addr):Prop where
 makes:PySem.W.makesIn K C=true
 init:PySem.W.findIn K (.ref C) "__init__" = some (some (.ref f))
 fn:PySem.W.isFn K (.ref f)=true
 kp:PySem.W.keepIn K (.ref C)=true
theorem CM{a:L0}{Z:St}{H:Hp}{s:Shared}{Q:VK}{us:List Value}{vs:List V}(M:Mk X.K C f)(F:FnOk X.prog X.w X.K X.mg X.base CX k f fd ps sp)(m:Room (k+1) X.A)(o:Binds X.K fd ps ds)(hd:Vals dvs ds)
 (l:im CX X E) (I:Inv X a Z H s) (r:Vals vs us)
 (h:∀x dx,H x=none->H dx=none->dx≠x->sp (.ref x::(vs++dvs)) (upd (upd H dx (.own x)) x (.ins C dx [])) (λv y=>v=.non/\Q (.ref x) y) E):
 wpAny (model X.prog X.w) X.A (call (.ref C) us) (EP X a Z Q) X.xe s:=by
 have g:=h (s.heap.objs.size+1) s.heap.objs.size (I.hok.fresh (Nat.le_succ _)) (I.hok.fresh (TM _)) (T8 (VZ _));have c:=Inv.made (C:=C) I;have d:Vals (V.ref (s.heap.objs.size+1)::(vs++dvs)) (Value.ref (s.heap.objs.size+1)::(us++ds)):=.cons rfl (r.append hd)
 have n:(Value.ref (s.heap.objs.size+1)::us++ds).length=ps.length:=by
  have e:=d.length;rw[F.len _ _ _ _ g]at e;exact e.symm
 refine wpAny_call (EG (f:=f) I.kIn M.makes M.init (VY.mp M.fn) (VR (F.run _ X.stack _ _ ⟨Value.ref (s.heap.objs.size+1)::us,[]⟩ (Value.ref (s.heap.objs.size+1)::(us++ds)) _ _ E (m.make C us [])
  (c.env0.make C us []) (o _ (Value.ref (s.heap.objs.size+1)::us) c.kIn n) d g) λr s' b=>?_))
 cases r with
 |error e=>exact l a Z _ _ e s' c b
 |ok p=>
   cases p with
   |ret u=>
     obtain⟨v,H',t,i,q,j⟩:=c.after b;subst q;exact⟨i,⟨V.ref (s.heap.objs.size+1),H',t,rfl,j⟩⟩
   |next=>exact False.elim b
   |brk=>exact False.elim b
   |cont=>exact False.elim b
theorem ss(M:Mk X.K C f)(F:FnOk X.prog X.w X.K X.mg X.base CX k f fd ps sp)(i:Room (k+1) X.A)(l:Gl X x)(j:X.mg x=some (.ref C))(n:Binds X.K fd ps ds)(hd:Vals dvs ds)(g:im CX X E)
 (o:PA X (e::es) t) (c:(x==("__debug__" : Str))=false:=by decide) (m:starEach (e::es) X.env=(false,eval e X.env)::starEach es X.env:=by rfl) (b:(backTo pos (starEach es X.env)).any (·.1)=false:=by rfl):
 PE X (.Call (.Name x p) (e::es) [] pos) (BW C sp dvs E t):=by
 intro a s Z H Q I h;refine UZ (kx I l j ?_ c);refine VN (h₀:=X.base) I.ok.mod.kin M.kp (bE (o pos a s Z H _ I h) λus u ⟨vs,H1,d,r,q⟩=>⟨d.kIn,?_⟩) m b;exact CM M F i n hd g d r q
end
def PK(X:Cx)(b:List Keyword)(t:TA):Prop:=
 ∀(pos:Pos) (a:L0) (s:Shared) (Z:St) (H:Hp) (Q:List V->Hp->Prop),Inv X a Z H s->t Z H Q->wpAny (model X.prog X.w) X.A (evalAll ((backToKw pos (keywordEach b X.env)).map (·.2))) (AP X a Z Q) X.xe s
section
variable{X:Cx}{CX:ym}{k:Nat}{f C:Addr}{fd:FuncData}{ps ks:List Str}{sp:Sp}{E:XK}{x m:Str}{p pos apos kpos:Pos}{e o:Expr}{es:List Expr}{kws:List Keyword}{te ta:TE}{t tk:TA}{nm:Option Str}
theorem wR:PK X [] cT:=λ_ _ _ _ H Q I h=>wpAny_evalAll_nil ⟨[],H,I,.nil,h⟩
theorem sr(j:PE X e te)(i:PK X kws t):PK X (⟨nm,e,kpos⟩::kws) (bz te t):=by
 intro pos a s Z H Q I h;show wpAny _ _ (evalAll ((do let v <-eval e X.env;standAt pos;pure v)::(backToKw pos (keywordEach kws X.env)).map (·.2))) _ _ s;refine wpAny_evalAll_cons (Ts (bE (j a s Z H _ I h) λu b ⟨x,H1,l,d,g⟩=>Ts (wpAny_standAt (TF ?_))));exact bE (i pos a b Z H1 _ l g) λus s2 ⟨xs,m,k,c,f⟩=>⟨x::xs,m,k,.cons d c,f⟩
variable{g:List Value->List Value->List Value}{gV:List V->List V->List V}
end
structure FnScope (N P:List Str) (sc:Scope):Prop where
 kind:sc.kind=.function
 co:sc.isCoroutine=false
 gen:sc.isGenerator=false
 nd:N.Nodup
 pre:N.take P.length=P
 par:∀x∈P,sc.names.lookup x=some .local\/sc.names.lookup x=some .cell
 nofree:∀y∈sc.names,y.2≠ .free
theorem rM{kindOf:Str->Option NameKind}{x:Str}:∀{binds:List (Str×Value)} {m:Str->Option Value},(∀v,(x,v)∉binds)->bindL kindOf binds m x=m x
 |[],_,_=>rfl
 | (n,v)::r,m,h=>by
   unfold bindL;rw[rM λw a=>h w (List.mem_cons_of_mem _ a)];split
   · have:x≠n:=by rintro rfl;exact h v Tu
     simp[this]
   ·rfl
theorem rO{kindOf:Str->Option NameKind}{x:Str}:∀{binds:List (Str×Value)} {m:Str->Option Value},(∀v,(x,v)∉binds)->bindC kindOf binds m x=m x
 |[],_,_=>rfl
 | (n,v)::r,m,h=>by
   unfold bindC;rw[rO λw a=>h w (List.mem_cons_of_mem _ a)];split
   ·rfl
   · have:x≠n:=by rintro rfl;exact h v Tu
     simp[this]
theorem rN{kindOf:Str->Option NameKind}{x:Str}{v:Value}:∀{P:List Str} {vs:List Value} {i:Nat} {m:Str->Option Value},P.Nodup->P[i]?=some x->vs[i]?=some v->kindOf x=some .local->
 bindL kindOf (P.zip vs) m x=some v
 |[],_,_,_,_,h,_,_=>by simp at h
 |_::_,[],_,_,_,_,h,_=>by simp at h
 | p::P,w::vs,0,m,nd,b,a,c=>by
   simp at b a;subst b;subst a;show bindL kindOf ((p,w)::P.zip vs) m p=_;unfold bindL;rw[rM λv d=>(List.nodup_cons.mp nd).1 (List.of_mem_zip d).1,if_pos c];simp
 | p::P,w::vs,i+1,m,nd,b,a,c=>by
   show bindL kindOf ((p,w)::P.zip vs) m x=_;unfold bindL;exact rN (i:=i) (List.nodup_cons.mp nd).2 (by simpa using b) (by simpa using a) c
theorem rP{kindOf:Str->Option NameKind}{x:Str}{v:Value}:∀{P:List Str} {vs:List Value} {i:Nat} {m:Str->Option Value},P.Nodup->P[i]?=some x->vs[i]?=some v->kindOf x≠some .local->
 bindC kindOf (P.zip vs) m x=some v
 |[],_,_,_,_,h,_,_=>by simp at h
 |_::_,[],_,_,_,_,h,_=>by simp at h
 | p::P,w::vs,0,m,nd,b,a,c=>by
   simp at b a;subst b;subst a;show bindC kindOf ((p,w)::P.zip vs) m p=_;unfold bindC;rw[rO λv d=>(List.nodup_cons.mp nd).1 (List.of_mem_zip d).1,if_neg c];simp
 | p::P,w::vs,i+1,m,nd,b,a,c=>by
   show bindC kindOf ((p,w)::P.zip vs) m x=_;unfold bindC;exact rP (i:=i) (List.nodup_cons.mp nd).2 (by simpa using b) (by simpa using a) c
def ip(N:List Str)(vs:List V):St:=vs.map some++List.replicate (N.length-vs.length) none
def pF(CX:ym)(P:Program)(w:World)(K:F0)(mg:Str->Option Value)(base:Heap)(N:List Str)(qual:Str)(scope:Scope)(f:Addr)(b:Value)(A:Around)(outer:List Env)(s:Shared)(H:Hp)(E:XK):Cx where
 prog:=P
 w:=w
 K:=K
 mg:=mg
 base:=base
 A:=A.deeper (envOfC qual scope s.heap.objs.size f b)
 N:=N
 s₀:=s
 H₀:=H
 env:=envOfC qual scope s.heap.objs.size f b
 outer:=outer
 stack:=envOfC qual scope s.heap.objs.size f b::outer
 ex:=[]
 calm:=true
 fn:=λ_=>true
 pn:=[]
 xe:=λe s'=>wpAny (model P w) (A.deeper (envOfC qual scope s.heap.objs.size f b)) («leaving» (envOfC qual scope s.heap.objs.size f b) e) (λ_ a=>CX outer H s E e a) (λc a=>CX outer H s E c a) s'
theorem v8{sc:Scope}{n:Nat}{x:Str}(h:sc.names.lookup x=some .cell):∃c,(cellsFrom n sc.names []).lookup x=some c:=by
 have q:=Wv sc.names n [] (.inl h);exact Vg.mp q
theorem A4{CX:ym}{P:Program}{w:World}{K:F0}{mg:Str->Option Value}{base:Heap}{N ps:List Str}{qual:Str}{scope:Scope}{f:Addr}{o:Value}{A:Around}{outer:List Env}{s t:Shared}{H:Hp}{E:XK}{us:List Value}{vs:List V}
 (S:FnScope N ps scope) (hd:A.handled=none) (e0:Env0 P w K mg base A outer s H) (J:vs.length=ps.length) (r:Vals vs us)
 (x:InCallC s s.heap.objs.size (bindL (envOfC qual scope s.heap.objs.size f o).kindOf (ps.zip us) λ_=>none) (cellsFrom (s.heap.objs.size+1) scope.names []) (bindC (envOfC qual scope s.heap.objs.size f o).kindOf (ps.zip us) λ_=>none) t):
 Inv (pF CX P w K mg base N qual scope f o A outer s H E) [] (ip N vs) H t:=by
 have F:ps.length<=N.length:=by have:=congrArg List.length S.pre;rw[List.length_take]at this;omega
 obtain⟨m,I,rfl,C⟩:=x.done;have g:∀b:Addr,b∉(pF CX P w K mg base N qual scope f o A outer s H E).ex:=λb z=>absurd (show b∈([]:List Addr) from z) (by simp)
 refine⟨⟨e0.mod,S.kind,rfl,rfl,TM _,λy z c m d=>?_,λy j=>?_,λy c _ h=>?_,λ_=>hd,Around.frames_deeper e0.frames,.inr ⟨rfl,rfl⟩,λb z=>absurd z (g b),e0.bs,e0.bsz,λb _ _=>g b,λb z=>absurd z (g b),e0.funs,e0.frf⟩,
  rfl,e0.bare,Un.kept C,⟨_,x.toInCall.ns,λi y v m d L=>?_⟩,λy c h=>⟨_,x.cell y c h⟩,e0.hok.fresh (TM _),λy c h=>?_,λp hp=>absurd (show p∈([]:L0) from hp) (by simp),e0.hok.kept C,?_⟩
 ·exact name_of_addr x.apart (US m) (US d)
 · have j:scope.names.lookup y=some .cell\/scope.names.lookup y=some .free:=j;rcases j with j|j
   ·exact v8 j
   ·exact absurd rfl (S.nofree _ (US j))
 ·exact UK (x.above y c (US h))
 · have hi:i<vs.length:=by
    unfold ip at d;by_cases hi:i<vs.length
    ·exact hi
    ·rw[Uw (by simpa using hi)]at d;rw[VO]at d;split at d<;>cases d
   have G:vs[i]?=some v:=by
    unfold ip at d;rw[List.getElem?_append_left (by simpa using hi),List.getElem?_map]at d;cases e:vs[i]? with
    |none=>rw[e]at d;cases d
    |some a=>rw[e]at d;cases d;rfl
   obtain⟨u,B,D⟩:=r.get G
   have hp:ps[i]?=some y:=by
    rw[<-S.pre,List.getElem?_take_of_lt (by omega)];exact m
   have l:ps.Nodup:=by rw[<-S.pre];exact S.nd.sublist (List.take_sublist _ _)
   refine⟨u,D,?_⟩;rcases S.par y (Ux hp) with k|k
   ·exact .inl ⟨k,rN l hp B k⟩
   ·obtain⟨c,e⟩:=v8 (n:=s.heap.objs.size+1) k;refine .inr ⟨.inl k,c,e,?_⟩;have q:=x.cell y c e;rw[rP l hp B (by show scope.names.lookup y≠_;rw[k];decide)]at q;exact q
 ·exact e0.hok.fresh (UK (x.above y c (US h)))
 ·unfold ip;show _=N.length;rw[List.length_append,List.length_map,List.length_replicate];omega
theorem fn_of{CX:ym}{P:Program}{w:World}{K:F0}{mg:Str->Option Value}{base:Heap}{k:Nat}{f:Addr}{name qual:Str}{c:Arguments}{body:List Stmt}{scope:Scope}{G kV m pm a ct oc:Value}{an M:Option Addr}
 {z:Array (Option Value)} {N ps:List Str} {sp:Sp} (lk:K.lookup f=some ⟨oc,M,.func (PySem.W.fnOf name qual c body scope G kV m pm an a ct),z⟩) (D:PySem.W.codeIn K a qual=true) (S:FnScope N ps scope)
 (len:∀vs H Q E,sp vs H Q E->vs.length=ps.length)
 (h:∀(A:Around) (outer:List Env) (s:Shared) (H:Hp) (vs:List V) (Q:VK) (E:XK),Room k (A.deeper (envOfC qual scope s.heap.objs.size f a))->sp vs H Q E->
   ∃t,Gb (pF CX P w K mg base N qual scope f a A outer s H E) body t/\t {nx:=λ_ H'=>Q .non H',rt:=Q} (ip N vs) H):
 FnOk P w K mg base CX (k+1) f (PySem.W.fnOf name qual c body scope G kV m pm an a ct) ps sp:=by
 refine⟨len,λA outer s H args us vs Q E C e0 Y r j=>?_⟩;have U:=len _ _ _ _ j;have L:K.In s.heap:=e0.mod.kin.keeps λb o e=>(e0.bs b o e).1;have B:s.heap.NoLimit:=e0.mod.nolimit.keeps λb o e=>(e0.bs b o e).1
 have g:∀y∈ps.zip us,scope.names.lookup y.1=some .local\/(scope.names.lookup y.1=some .cell/\((cellsFrom (s.heap.objs.size+1) scope.names []).lookup y.1).isSome=true):=λ⟨n,v⟩ O=>by
  rcases S.par n (List.of_mem_zip O).1 with q|q
  ·exact .inl q
  ·exact .inr ⟨q,Wv _ _ _ (.inl q)⟩
 refine codeAny_call_function C.depth (L _ _ lk) rfl S.co S.gen rfl (PySem.W.codeRec_of L D) (Y _ _ _ _ ?_);refine wpAny_newFunctionEnv_cells S.kind g λenv X F x=>?_;subst X;refine⟨B.keeps x.toInCall.keep,codeAny_func ?_⟩;obtain⟨t,R,T⟩:=h A outer s H vs Q E (C.deeper _) j;have I:Inv (pF CX P w K mg base N qual scope f a A outer s H E) [] (ip N vs) H F:=A4 S C.hd e0 U r x;refine Ve (R [] F (ip N vs) H _ I T) (λZ s' i=>?_) λe s' i=>i
 have l:∀{d:St} {H':Hp} {v:V} {u:Value},Inv (pF CX P w K mg base N qual scope f a A outer s H E) [] d H' s'->RelV v u->Q v H'->CE outer P w H s Q u s':=
  λ{d H' v u} J p q=>⟨v,H',J.os,J.bare,J.base,J.hok,p,q⟩
 cases Z with
 |ret u=>
   obtain⟨v,d,H',J,p,q⟩:=i;exact l J p q
 |next=>
   obtain⟨d,H',J,q⟩:=i;exact l (v:=V.non) (u:=Value.none) J rfl q
 |brk=>
   obtain⟨_,_,_,q⟩:=i;exact False.elim q
 |cont=>
   obtain⟨_,_,_,q⟩:=i;exact False.elim q
section
variable{X:Cx}{x:Str}{p pos:Pos}{e:Expr}{es:List Expr}{t:TA}{id T:String}{r:List V->Hp->VK->Prop}
def GA(r:List V->Hp->VK->Prop)(t:TA):TE:=λZ H Q=>t Z H λvs H1=>r vs H1 Q
theorem aP(n:fe X (.builtin id) r)(l:Gl X x)(k:X.mg x=none)(i:bootBuiltins x=some (.builtin id))(o:PA X (e::es) t)(j:x ≠ "__name__" := by decide)(c:(x==("__debug__" : Str))=false:=by decide)
 (m:starEach (e::es) X.env=(false,eval e X.env)::starEach es X.env:=by rfl) (b:(backTo pos (starEach es X.env)).any (·.1)=false:=by rfl):PE X (.Call (.Name x p) (e::es) [] pos) (GA r t):=by
 intro a s Z H Q I h;refine UZ (jJ I l k i ?_ j c);exact PyProof.Rows.callWith_builtin1 (bE (o pos a s Z H _ I h) λus d ⟨vs,H1,q,f,g⟩=>n a d Z H1 vs us Q q f g) m b
theorem lC(n:fe X (.type T) r)(l:Gl X x)(k:X.mg x=none)(i:bootBuiltins x=some (.type T))(o:PA X (e::es) t)(j:x ≠ "__name__" := by decide)(c:(x==("__debug__" : Str))=false:=by decide)
 (m:starEach (e::es) X.env=(false,eval e X.env)::starEach es X.env:=by rfl) (b:(backTo pos (starEach es X.env)).any (·.1)=false:=by rfl):PE X (.Call (.Name x p) (e::es) [] pos) (GA r t):=by
 intro a s Z H Q I h;refine UZ (jJ I l k i ?_ j c);exact UW (bE (o pos a s Z H _ I h) λus d ⟨vs,H1,q,f,g⟩=>n a d Z H1 vs us Q q f g) m b
end
section
variable{W:Type}[DecidableEq W]
def cQ(kvs:List (W×V))(k:W):Option V:=(kvs.find? λa=>decide (a.1=k)).map (·.2)
def fj(kvs:List (W×V))(k:W)(v:V):List (W×V):=
 if (kvs.any λa=>decide (a.1=k))=true then kvs.map (λa=>if a.1=k then (a.1,v) else a) else kvs++[(k,v)]
def eM(kvs:List (W×V))(k:W):List (W×V):=kvs.filter λa=>decide (a.1≠k)
theorem BJ{k:W}:cQ ([]:List (W×V)) k=none:=rfl
theorem j4{p:W×V}{r:List (W×V)}{k:W}(e:p.1=k):cQ (p::r) k=some p.2:=by simp[cQ,UL,e]
theorem j6{p:W×V}{r:List (W×V)}{k:W}(e:¬ p.1=k):cQ (p::r) k=cQ r k:=by simp[cQ,UL,e]
theorem uu(k:W):∀kvs:List (W×V),(kvs.any λa=>decide (a.1=k))=(cQ kvs k).isSome
 |[]=>rfl
 | p::r=>by
   rw[Vu];by_cases e:p.1=k
   ·simp only[j4 e,UO e,Bool.true_or,Wb]
   ·rw[j6 e,Uo e,Bool.false_or];exact uu k r
theorem mf(kvs:List (W×V))(k:W)(v:V):(fj kvs k v).length<=kvs.length+1:=by
 unfold fj;split
 ·rw[Tv];omega
 ·rw[TU,TD,List.length_nil];omega
theorem RelO.isSome_eq{o:Option V}{u:Option Value}(r:RelO o u):o.isSome=u.isSome:=by
 cases o with
 | none=>cases u with
   |none=>rfl
   |some _=>exact(show False from r).elim
 | some _=>cases u with
   |none=>exact(show False from r).elim
   |some _=>rfl
theorem RelO.getD{o:Option V}{u:Option Value}{d:V}{d':Value}(r:RelO o u)(rd:RelV d d'):RelV (o.getD d) (u.getD d'):=by
 cases o with
 | none=>cases u with
   |none=>exact rd
   |some _=>exact(show False from r).elim
 | some _=>cases u with
   |none=>exact(show False from r).elim
   |some _=>exact r
theorem KV.val{kvs:List (W×V)}{vs:List (W×Value)}(r:KV kvs vs)(k:W):RelO (cQ kvs k) (valueAt vs k):=by
 unfold KV at r
 induction r with
 |nil=>exact True.intro
 |@cons p q ps a h t f=>
   obtain⟨d,g⟩:=h;by_cases e:p.1=k
   · have c:q.1=k:=d.symm.trans e;have b:valueAt (q::a) k=some q.2:=by simp[valueAt,UL,c]
     rw[j4 e,b];exact g
   · have c:¬ q.1=k:=λz=>e (d.trans z);have b:valueAt (q::a) k=valueAt a k:=by simp[valueAt,UL,c]
     rw[j6 e,b];exact f
theorem KV.any{kvs:List (W×V)}{vs:List (W×Value)}(r:KV kvs vs)(k:W):(kvs.any λa=>decide (a.1=k))=vs.any λa=>decide (a.1=k):=by
 unfold KV at r
 induction r with
 |nil=>rfl
 |cons h t b=>rw[Vu,Vu,b,h.1]
theorem KV.repl{kvs:List (W×V)}{vs:List (W×Value)}(r:KV kvs vs)(k:W){y:V}{u:Value}(c:RelV y u):
 KV (kvs.map λa=>if a.1=k then (a.1,y) else a) (vs.map λa=>if a.1=k then (a.1,u) else a):=by
 unfold KV at r ⊢
 induction r with
 |nil=>exact .nil
 |@cons p q ps g h t d=>
   rw[Tr,Tr];refine .cons ?_ d;obtain⟨b,f⟩:=h;by_cases e:p.1=k
   ·rw[Tq e,Tq (b.symm.trans e)];exact⟨b,c⟩
   ·rw[on e,on (λz=>e (b.trans z))];exact⟨b,f⟩
theorem KV.put{kvs:List (W×V)}{vs:List (W×Value)}(r:KV kvs vs)(k:W){y:V}{u:Value}(a:RelV y u):KV (fj kvs k y) (stored vs k u):=by
 unfold fj stored;rw[r.any k];by_cases e:(vs.any λb=>decide (b.1=k))=true
 ·rw[Tq e,Tq e];exact r.repl k a
 ·rw[on e,on e];exact Paired.snoc r ⟨rfl,a⟩
theorem KV.drop{kvs:List (W×V)}{vs:List (W×Value)}(r:KV kvs vs)(k:W):KV (eM kvs k) (without vs k):=by
 unfold KV at r ⊢;unfold eM without
 induction r with
 |nil=>exact .nil
 |@cons p q ps i h t d=>
   obtain⟨c,f⟩:=h;rw[UH,UH];by_cases e:p.1=k
   · have a:¬ decide (p.1≠k)=true:=by simp[e]
     have b:¬ decide (q.1≠k)=true:=by simp[c.symm.trans e]
     rw[on a,on b];exact d
   · have g:¬ q.1=k:=λz=>e (c.trans z);have a:decide (p.1≠k)=true:=by simp[e]
     have b:decide (q.1≠k)=true:=by simp[g]
     rw[Tq a,Tq b];exact .cons ⟨c,f⟩ d
theorem KV.length{kvs:List (W×V)}{vs:List (W×Value)}(r:KV kvs vs):kvs.length=vs.length:=Vd r
theorem pD(kvs:List (W×V))(k:W):(eM kvs k).length<=kvs.length:=List.length_filter_le _ _
end
theorem ky{P:Program}{w:World}{k:aQ}{u:Value}(r:RelV (kV k) u):(aC P w).is k u=true:=by
 cases k with
 |inl i=>obtain⟨t,e⟩:=(show ∃t,u=Value.int i t from r);subst e;exact uV P w i t
 |inr x=>obtain⟨t,e⟩:=(show ∃t,u=Value.str x t from r);subst e;exact uU P w x t
theorem qZ{P:Program}{w:World}:∀{a:List aQ} {us:List Value},Vals (a.map kV) us->ItemsAre (aC P w) a us
 |[],_,r=>by rw[Uz]at r;cases r;exact .nil
 | k::a,_,r=>by
   rw[Tr]at r;cases r with
   |cons h t=>exact .cons (ky h) (qZ t)
abbrev KT(H:Hp):List (List aQ×V)->List (List aQ×Addr×Value)->Prop:=Paired λp q=>p.1=q.1/\H q.2.1=some (.tup (p.1.map kV))/\RelV p.2 q.2.2
theorem KT.val{H:Hp}{kvs:List (List aQ×V)}{xs:List (List aQ×Addr×Value)}(r:KT H kvs xs)(k:List aQ):RelO (cQ kvs k) ((atKey xs k).map (·.2)):=by
 induction r with
 |nil=>exact True.intro
 |@cons p q ps a h t f=>
   obtain⟨d,_,g⟩:=h;by_cases e:p.1=k
   · have c:q.1=k:=d.symm.trans e;have b:atKey (q::a) k=some q.2:=by simp[atKey,UL,c]
     rw[j4 e,b];exact g
   · have c:¬ q.1=k:=λz=>e (d.trans z);have b:atKey (q::a) k=atKey a k:=by simp[atKey,UL,c]
     rw[j6 e,b];exact f
theorem KT.repl{H:Hp}{kvs:List (List aQ×V)}{xs:List (List aQ×Addr×Value)}(r:KT H kvs xs)(k:List aQ){y:V}{u:Value}(d:RelV y u):
 KT H (kvs.map λb=>if b.1=k then (b.1,y) else b) (xs.map (putAt k u)):=by
 induction r with
 |nil=>exact .nil
 |@cons p q ps i h t f=>
   rw[List.map_cons,List.map_cons];refine .cons ?_ f;obtain⟨a,c,g⟩:=h;unfold putAt;by_cases e:p.1=k
   ·rw[Tq e,Tq (a.symm.trans e)];exact⟨a,c,d⟩
   ·rw[on e,on (λz=>e (a.trans z))];exact⟨a,c,g⟩
theorem KT.put{H:Hp}{kvs:List (List aQ×V)}{xs:List (List aQ×Addr×Value)}(r:KT H kvs xs)(k:List aQ){b:Addr}{y:V}{u:Value}(d:H b=some (.tup (k.map kV)))(a:RelV y u):
 KT H (fj kvs k y) (storedH xs k b u):=by
 have e:(kvs.any λc=>decide (c.1=k))=(atKey xs k).isSome:=by
  rw[uu,(r.val k).isSome_eq,Wi]
 unfold fj storedH;rw[e];by_cases q:(atKey xs k).isSome=true
 ·rw[Tq q,Tq q];exact r.repl k a
 ·rw[on q,on q];exact Paired.snoc r ⟨rfl,d,a⟩
theorem KT.keeps{H H':Hp}{kvs:List (List aQ×V)}{xs:List (List aQ×Addr×Value)}(r:KT H kvs xs)(c:∀b a,H b=some (.tup a)->H' b=some (.tup a)):KT H' kvs xs:=
 Paired.mapP r λ_ _ z=>⟨z.1,c _ _ z.2.1,z.2.2⟩
section
variable{P:Program}{w:World}{H:Hp}{h:Heap}{a:Addr}
theorem Jd{u:HO}(ok:HOk P w H h)(e:Rd H a u):ObjOk P w H h a u:=e.ok ok
theorem kN{kvs:List (aQ×V)}(ok:HOk P w H h)(e:Rd H a (.dK kvs)):kvs.length<=sizeLine/\(a==sysModules)=false/\∃vs,KV kvs vs/\h.DictOf (aC P w) a vs:=
 show ObjOk P w H h a (.dK kvs) from Jd ok e
theorem Ft{kvs:List (aQ×V)}(ok:HOk P w H h)(e:H a=some (.dK kvs)):kvs.length<=sizeLine/\(a==sysModules)=false/\∃vs,KV kvs vs/\h.DictOf (aC P w) a vs:=kN ok (.inl e)
theorem fP{b:List aQ}(ok:HOk P w H h)(e:H a=some (.tup (b.map kV))):(tupleKind (aC P w)).is h b a:=by
 obtain⟨_,its,r,o,f,d,n,c⟩:=(show ObjOk P w H h a (.tup (b.map kV)) from ok a _ e);exact⟨o,its.toArray,n,f,d,c,by simpa using qZ r⟩
theorem mw{kvs:List (List aQ×V)}(ok:HOk P w H h)(e:Rd H a (.dT kvs)):kvs.length<=sizeLine/\(a==sysModules)=false/\
 ∃xs,KT H kvs xs/\h.DictOfH (tupleKind (aC P w)) a xs:=by
 obtain⟨z,y,xs,r,o,n,ep,k,j,i,g,f⟩:=(show ObjOk P w H h a (.dT kvs) from Jd ok e);refine⟨z,y,xs,r,o,n,ep,k,j,i,g,λx b=>?_,f⟩
 have all:∀{l:List (List aQ×V)} {m:List (List aQ×Addr×Value)},KT H l m->∀x∈m,(tupleKind (aC P w)).is h x.1 x.2.1:=by
  intro l m q
  induction q with
  |nil=>intro x b;exact nomatch b
  |@cons p q ps s c t d=>
    intro x b;rcases Tz.mp b with e|b
    ·subst e;exact fP ok (by rw[<-c.1];exact c.2.1)
    ·exact d x b
 exact all r x b
theorem Fn{kvs:List (List aQ×V)}(ok:HOk P w H h)(e:H a=some (.dT kvs)):kvs.length<=sizeLine/\(a==sysModules)=false/\
 ∃xs,KT H kvs xs/\h.DictOfH (tupleKind (aC P w)) a xs:=mw ok (.inl e)
end
def DGet(H:Hp)(a:Addr)(y:V)(r:Option V):Prop:=
 (∃kvs k,Rd H a (.dK kvs)/\y=kV k/\r=cQ kvs k)\/∃kvs k b,Rd H a (.dT kvs)/\y=.ref b/\H b=some (.tup (k.map kV))/\r=cQ kvs k
def DPut(H:Hp)(a:Addr)(y v:V)(H':Hp):Prop:=
 (∃kvs k,H a=some (.dK kvs)/\y=kV k/\kvs.length<sizeLine/\H'=upd H a (.dK (fj kvs k v)))\/
 ∃kvs k b,H a=some (.dT kvs)/\y=.ref b/\H b=some (.tup (k.map kV))/\kvs.length<sizeLine/\H'=upd H a (.dT (fj kvs k v))
theorem DGet.k{H:Hp}{a:Addr}{kvs:List (aQ×V)}{k:aQ}(e:H a=some (.dK kvs)):DGet H a (kV k) (cQ kvs k):=.inl ⟨kvs,k,.inl e,rfl,rfl⟩
theorem DPut.k{H:Hp}{a:Addr}{kvs:List (aQ×V)}{k:aQ}{v:V}(e:H a=some (.dK kvs))(b:kvs.length<sizeLine):DPut H a (kV k) v (upd H a (.dK (fj kvs k v))):=.inl ⟨kvs,k,e,rfl,b,rfl⟩
theorem DPut.t{H:Hp}{a b:Addr}{kvs:List (List aQ×V)}{k:List aQ}{v:V}(e:H a=some (.dT kvs))(d:H b=some (.tup (k.map kV)))(c:kvs.length<sizeLine):
 DPut H a (.ref b) v (upd H a (.dT (fj kvs k v))):=.inr ⟨kvs,k,b,e,rfl,d,c,rfl⟩
section
variable{X:Cx}{pins:L0}{Z:St}{H:Hp}{s:Shared}{a:Addr}{y v:V}{u r:Value}{o:Option V}{A:Around}{E:L1}
theorem Inv.big(I:Inv X pins Z H s):sysModules<s.heap.objs.size:=by
 have h:mainGlobals<s.heap.objs.size:=(I.mod.glob.keeps I.bk).lt;exact Nat.lt_trans (by decide) h
theorem Bi{Q:L1}(q:A.units+1<cLine)(I:Inv X pins Z H s)(g:DGet H a y (some v))(n:RelV y u)(h:∀f s',Inv X pins Z H s'->RelV v f->Q f s'):
 wpAny (model X.prog X.w) A (getItem (.ref a) u) Q E s:=by
 rcases g with ⟨kvs,k,e,m,l⟩|⟨kvs,k,b,e,m,r,l⟩
 ·subst m;obtain⟨z,hd,vs,d,dd⟩:=kN I.hok e;obtain⟨f,i,c⟩:=RelO.some_of (v:=v) (o:=valueAt vs k) (by rw[l];exact d.val k);exact wpAny_getItem_of (ky n) dd.mapOf i (h f _ (I.tok _) c)
 ·subst m;cases(show u=Value.ref b from n);obtain⟨z,hd,xs,d,dd⟩:=mw I.hok e;obtain⟨f,i,c⟩:=RelO.some_of (v:=v) (o:=(atKey xs k).map (·.2)) (by rw[l];exact d.val k);obtain⟨p,hp,j⟩:=TQ.mp i;refine wpAny_getItem_heap (U0 q) (fP I.hok r) dd hp ?_;rw[j];exact h f _ (I.tok _) c
theorem S8{Q:L1}(i:A.units+1<cLine)(I:Inv X pins Z H s)(g:DGet H a y o)(f:RelV y u)(h:∀s',Inv X pins Z H s'->Q (.bool o.isSome) s'):
 wpAny (model X.prog X.w) A (compareOp .In u (.ref a)) Q E s:=by
 rcases g with ⟨kvs,k,e,d,l⟩|⟨kvs,k,b,e,d,j,l⟩
 ·subst d;obtain⟨z,hd,vs,c,dd⟩:=kN I.hok e;refine wpAny_in_of (ky f) hd dd.mapOf ?_;rw[<-(c.val k).isSome_eq,<-l];exact h _ (I.tok _)
 ·subst d;cases(show u=Value.ref b from f);obtain⟨z,hd,xs,c,dd⟩:=mw I.hok e;refine wpAny_in_heap (U0 i) (fP I.hok j) hd dd ?_;have q:=(c.val k).isSome_eq;rw[Wi]at q;rw[<-q,<-l];exact h _ (I.tok _)
theorem Ig{Q:L1}(i:A.units+1<cLine)(I:Inv X pins Z H s)(g:DGet H a y o)(f:RelV y u)(h:∀s',Inv X pins Z H s'->Q (.bool (!o.isSome)) s'):
 wpAny (model X.prog X.w) A (compareOp .NotIn u (.ref a)) Q E s:=by
 rcases g with ⟨kvs,k,e,d,l⟩|⟨kvs,k,b,e,d,j,l⟩
 ·subst d;obtain⟨z,hd,vs,c,dd⟩:=kN I.hok e;refine wpAny_notIn_of (ky f) hd dd.mapOf ?_;rw[<-(c.val k).isSome_eq,<-l];exact h _ (I.tok _)
 ·subst d;cases(show u=Value.ref b from f);obtain⟨z,hd,xs,c,dd⟩:=mw I.hok e;refine wpAny_notIn_heap (U0 i) (fP I.hok j) hd dd ?_;have q:=(c.val k).isSome_eq;rw[Wi]at q;rw[<-q,<-l];exact h _ (I.tok _)
theorem kQ{h':Heap}{t':Nat}{ob:HO}(I:Inv X pins Z H s)(c:Sc (H a))(d:Heap.SameBut a s.heap h')(f:∃q,h'.get? a=some q)(new:ObjOk X.prog X.w (upd H a ob) h' a ob):
 Inv X pins Z (upd H a ob) {s with heap:=h',toks:=t'}:=
 I.write (x:=a) (e:=a) c (.inl rfl) (λb q g z=>(d.2 b g).trans z) f new
theorem Fu{P:Program}{w:World}{H':Hp}{h':Heap}{kvs:List (aQ×V)}{vs:List (aQ×Value)}(z:kvs.length<=sizeLine)(hd:(a==sysModules)=false)(b:KV kvs vs)(dd:h'.DictOf (aC P w) a vs):
 ObjOk P w H' h' a (.dK kvs):=⟨z,hd,vs,b,dd⟩
theorem Bh{H':Hp}{Q:Unit->Shared->Prop}(C:A.units+1<cLine)(I:Inv X pins Z H s)(g:DPut H a y v H')(p:RelV y u)(t:RelV v r)(h:∀s',Inv X pins Z H' s'->Q () s'):
 wpAny (model X.prog X.w) A (setItem (.ref a) u r) Q E s:=by
 rcases g with ⟨kvs,k,e,n,l,o⟩|⟨kvs,k,b,e,n,B,l,o⟩
 · subst n o;obtain⟨z,hd,vs,d,dd⟩:=Ft I.hok e;have hz:vs.length<=sizeLine:=by rw[<-d.length];exact z
   have m:(fj kvs k v).length<=sizeLine:=by have:=mf kvs k v;omega
   refine wpAny_setItem_pairs (hsz:=hz) (ky p) dd λh' f j=>h _ ?_;have D:∃q,h'.get? a=some q:=let ⟨q,_,_,i,_⟩:=f;⟨q,i⟩
   exact kQ I (by rw[e];exact True.intro) j D (Fu m hd (d.put k t) f)
 · subst n o;cases(show u=Value.ref b from p);obtain⟨z,hd,xs,d,dd⟩:=Fn I.hok e;have hz:xs.length<=sizeLine:=by rw[<-Vd d];exact z
   have m:(fj kvs k v).length<=sizeLine:=by have:=mf kvs k v;omega
   refine wpAny_setItem_heap (hsz:=hz) (U0 C) (fP I.hok B) dd λh' f j=>h _ ?_;obtain⟨q,L,ep,i,K,J,G,_,F⟩:=f;refine kQ I (by rw[e];exact True.intro) j ⟨q,i⟩ ⟨m,hd,_,(d.put k B t).keeps λc M x=>?_,q,L,ep,i,K,J,G,F⟩;rw[ay (DS x e (λz=>nomatch z))];exact x
end
section
variable{X:Cx}{pins:L0}{Z:St}{H:Hp}{s:Shared}{a:Addr}{kvs:List (aQ×V)}{k:aQ}{u:Value}{A:Around}{E:L1}
theorem Q8{v:V}{more:List Value}{Q:L1}(I:Inv X pins Z H s)(e:H a=some (.dK kvs))(f:RelV (kV k) u)(l:cQ kvs k=some v)(j:more=[]\/∃x,more=[x])
 (h:∀c s',Inv X pins Z (upd H a (.dK (eM kvs k))) s'->RelV v c->Q c s'):wpAny (model X.prog X.w) A (call (.builtin "dict.pop") (.ref a::u::more)) Q E s:=by
 obtain⟨z,hd,vs,b,dd⟩:=Ft I.hok e;obtain⟨c,m,g⟩:=RelO.some_of (v:=v) (o:=valueAt vs k) (by rw[<-l];exact b.val k)
 have hp:(keyPart u).isSome=true:=by
  cases k with
  |inl i=>obtain⟨t,q⟩:=(show ∃t,u=Value.int i t from f);subst q;rfl
  |inr x=>obtain⟨t,q⟩:=(show ∃t,u=Value.str x t from f);subst q;rfl
 have y:argsOk "dict.pop" ⟨.ref a::u::more,[]⟩:=by
  rcases j with q|⟨x,q⟩
  ·subst q;exact PySem.F.args_dict_pop_2 _ _
  ·subst q;exact Wq _ _ _
 refine VC U6 dd.typeIs Ww y (meets_dict_pop_there (aC X.prog X.w) a (ky f) more j hp)
  ⟨vs,c,dd,by rw[<-b.length];exact z,m,λh' d n=>h c _ ?_ g⟩
 have r:∃q,h'.get? a=some q:=let ⟨q,_,_,p,_⟩:=d;⟨q,p⟩
 exact kQ I (by rw[e];exact True.intro) n r (Fu (Uk (pD kvs k) z) hd (b.drop k) d)
theorem ND{r:Value}{Q:L1}(I:Inv X pins Z H s)(e:H a=some (.dK kvs))(b:RelV (kV k) u)(l:cQ kvs k=none)(h:∀s',Inv X pins Z H s'->Q r s'):
 wpAny (model X.prog X.w) A (call (.builtin "dict.pop") [.ref a,u,r]) Q E s:=by
 obtain⟨z,hd,vs,c,dd⟩:=Ft I.hok e;have d:valueAt vs k=none:=RelO.none_of (by rw[<-l];exact c.val k)
 have hp:(keyPart u).isSome=true:=by
  cases k with
  |inl i=>obtain⟨t,q⟩:=(show ∃t,u=Value.int i t from b);subst q;rfl
  |inr x=>obtain⟨t,q⟩:=(show ∃t,u=Value.str x t from b);subst q;rfl
 exact VC U6 dd.typeIs Ww (Wq _ _ _) (meets_dict_pop_default (aC X.prog X.w) a (ky b) hd hp r) ⟨vs,dd,d,h _ (I.tok _)⟩
end
def Sb(i:Expr):Prop:=∀ov a,subscripted i false ov a=operate [ov,a] (getItem ov a)
theorem GB{prog:Program}{w:World}{A:Around}{E:L1}{s:Shared}{env:Env}{b a:Expr}{pos:Pos}{T id:String}{Q:L1}
 (n:typeLookup (.type T) "__getitem__" = pure (some (.builtin id))) (m:Sb a)
 (h:wpAny (model prog w) A (eval b env) (λo f=>wpAny (model prog w) A (eval a env) (λi c=>c.TypeIs o T/\wpAny (model prog w) A (getItem o i) Q E c) E f) E s):
 wpAny (model prog w) A (eval (.Subscript b a pos) env) Q E s:=by
 refine Subscript_ (wpAny_mono h (λo f k=>wpAny_mono k (λi c d=>?_) λ_ _ x=>x) λ_ _ x=>x);obtain⟨l,d⟩:=d;unfold subscriptTail;refine wpAny_bind ?_;rw[getitemInPython_of_ne l.not_modules];refine wpAny_bind (wpAny_specialOf l n ?_)
 have g:wpAny (model prog w) A (subscripted a false o i) (λr e=>wpAny (model prog w) A (letTemporaryGo b o r >>= λ_=>pure r) Q E e) E c:=by
  rw[m o i];exact wpAny_operating (Ve d (λr e j=>Ts (wpAny_letTemporaryGo (TF j))) λ_ _ x=>x)
 first
  |exact TF (Ts g)
  |exact Ts (TF (Ts g))
  |exact Ts g
theorem vv{X:Cx}{c:L0}{Z:St}{H:Hp}{s:Shared}{a:Addr}{y:V}{o:Option V}(I:Inv X c Z H s)(g:DGet H a y o):s.TypeIs (.ref a) "dict" := by
 rcases g with ⟨kvs,k,e,_,_⟩|⟨kvs,k,b,e,_,_,_⟩
 ·obtain⟨_,_,vs,_,dd⟩:=kN I.hok e;exact dd.typeIs
 ·obtain⟨_,_,xs,_,dd⟩:=mw I.hok e;exact dd.typeIs
def IQ(c ty:TE):TE:=λZ H Q=>c Z H λx H1=>ty Z H1 λy b=>∃a v,x=.ref a/\DGet b a y (some v)/\Q v b
def OK(ty c:TE):TE:=λZ H Q=>ty Z H λy H1=>c Z H1 λx b=>∃a o,x=.ref a/\DGet b a y o/\Q (.bl o.isSome) b
def yq(ty c:TE):TE:=λZ H Q=>ty Z H λy H1=>c Z H1 λx b=>∃a o,x=.ref a/\DGet b a y o/\Q (.bl (!o.isSome)) b
def Jb(d ty c:TE):TS:=λD Z H=>c Z H λv H1=>d Z H1 λx f=>ty Z f λy e=>∃a b,x=.ref a/\DPut e a y v b/\D.nx Z b
section
variable{X:Cx}{o i e value:Expr}{pos pos' tpos:Pos}{td ty tv:TE}
theorem Hc(m:X.A.units+1<cLine)(p:PE X o td)(hi:PE X i ty)(n:Sb i):PE X (.Subscript o i pos) (IQ td ty):=by
 intro b s Z H Q I h;refine GB PySem.F.slot_dict_getitem.lookup n (bE (p b s Z H _ I h) λu e ⟨x,H1,r,j,l⟩=>bE (hi b e Z H1 _ r l) λB s2 ⟨y,t,d,f,a,v,ex,g,k⟩=>?_);subst ex;obtain rfl:u=Value.ref a:=j;exact⟨vv d g,Bi m d g f λw z q c=>⟨v,t,q,c,k⟩⟩
theorem wS(k:X.A.units+1<cLine)(hi:PE X i ty)(l:PE X o td):PC X .In i o (OK ty td):=by
 intro b s Z H Q I h;refine bE (hi b s Z H _ I h) λt c ⟨y,H1,p,d,j⟩=>bE (l b c Z H1 _ p j) λu s2 ⟨x,q,n,e,a,ov,ex,g,f⟩=>?_;subst ex;obtain rfl:u=Value.ref a:=e;exact S8 k n g d λr m=>⟨.bl ov.isSome,q,m,rfl,f⟩
theorem qJ(k:X.A.units+1<cLine)(hi:PE X i ty)(l:PE X o td):PC X .NotIn i o (yq ty td):=by
 intro b s Z H Q I h;refine bE (hi b s Z H _ I h) λt c ⟨y,H1,p,d,j⟩=>bE (l b c Z H1 _ p j) λu s2 ⟨x,q,n,e,a,ov,ex,g,f⟩=>?_;subst ex;obtain rfl:u=Value.ref a:=e;exact Ig k n g d λr m=>⟨.bl (!ov.isSome),q,m,rfl,f⟩
theorem ji(n:X.A.units+1<cLine)(q:PE X o td)(hi:PE X i ty)(m:PE X value tv)(p:swapsWith value (some (.Subscript o i pos')) pos.line X.env=pure false):
 PS X (.Assign [.Subscript o i pos'] value pos) (Jb td ty tv):=by
 intro b s Z H D I h;refine wpAny_Assign_Subscript (bE (m b s Z H _ I h) λr c ⟨v,H1,B,f,l⟩=>bE (q b c Z H1 _ B l) λu s2 ⟨x,E,z,e,k⟩=>bE (hi b s2 Z E _ z k) λJ G ⟨y,K,w,d,a,C,ex,g,j⟩=>?_) p;subst ex;obtain rfl:u=Value.ref a:=e;exact Bh n w g d f λF t=>⟨Z,C,t,j⟩
end
theorem Fv{P:Program}{w:World}{H:Hp}(h:Heap)(a:sysModules<h.objs.size):ObjOk P w H (h.push {cls:=.type "dict",data:=.dict #[]}) h.objs.size (.dK []):=
 ⟨UN _,Ui.mpr (Va (T8 a)),[],.nil,Heap.DictOf.new h⟩
theorem Fo{P:Program}{w:World}{H:Hp}(h:Heap)(a:sysModules<h.objs.size):ObjOk P w H (h.push {cls:=.type "dict",data:=.dict #[]}) h.objs.size (.dT []):=
 ⟨UN _,Ui.mpr (Va (T8 a)),[],.nil,_,#[],0,TZ _ rfl,⟨rfl,rfl,rfl⟩,rfl,rfl,Uu⟩
def B5:TE:=λ_ H Q=>∀p,H p=none->Q (.ref p) (upd H p (.dK []))
def B0:TE:=λ_ H Q=>∀p,H p=none->Q (.ref p) (upd H p (.dT []))
section
variable{X:Cx}{pos:Pos}
theorem Dr:PE X (.Dict [] [] pos) B5:=λb s Z H Q I h=>
 wpAny_Dict_empty ⟨.ref s.heap.objs.size,_,I.laid (a:=s.heap.objs.size) (o:=.dK []) (t':=s.toks) (λ_ _ q=>Tx _ q) (TM _) (Fv s.heap I.big),rfl,h _ (I.hok.fresh (TM _))⟩
theorem fH:PE X (.Dict [] [] pos) B0:=λb s Z H Q I h=>
 wpAny_Dict_empty ⟨.ref s.heap.objs.size,_,I.laid (a:=s.heap.objs.size) (o:=.dT []) (t':=s.toks) (λ_ _ q=>Tx _ q) (TM _) (Fo s.heap I.big),rfl,h _ (I.hok.fresh (TM _))⟩
end
structure M1 (X:Cx) (o:Expr) (m:Str) (apos:Pos) (e:Expr) (cpos:Pos):Prop where
 base:attributeBase o m X.env (eval o X.env)=eval o X.env
 few:((backTo cpos (starEach [e] X.env)).all (λx=>!x.1)&&(backToKw cpos (keywordEach [] X.env)).all (λx=>x.1.isSome)
  && decide (([e]:List Expr).length+([]:List Keyword).length+(if ([]:List Keyword).isEmpty then 0 else 1)<30))=true
 line:(apos.endLine==cpos.line)=true
 trees:backTo cpos (starEach [e] X.env)=[(false,eval e X.env)]
structure M2 (X:Cx) (o:Expr) (m:Str) (apos:Pos) (e f:Expr) (cpos:Pos):Prop where
 base:attributeBase o m X.env (eval o X.env)=eval o X.env
 few:((backTo cpos (starEach [e,f] X.env)).all (λx=>!x.1)&&(backToKw cpos (keywordEach [] X.env)).all (λx=>x.1.isSome)
  && decide (([e,f]:List Expr).length+([]:List Keyword).length+(if ([]:List Keyword).isEmpty then 0 else 1)<30))=true
 line:(apos.endLine==cpos.line)=true
 trees:backTo cpos (starEach [e,f] X.env)=[(false,eval e X.env),(false,eval f X.env)]
def Ku(H:Hp)(a:Addr):Prop:=(∃kvs,Rd H a (.dK kvs))\/∃kvs,Rd H a (.dT kvs)
theorem lL{X:Cx}{c:L0}{Z:St}{H:Hp}{s:Shared}{a:Addr}(I:Inv X c Z H s)(d:Ku H a):
 s.TypeIs (.ref a) "dict" /\ (∀b,Value.ref a=.ref b->∃ob,s.heap.get? b=some ob/\ob.dict=none)/\(a==sysModules)=false:=by
 rcases d with ⟨kvs,e⟩|⟨kvs,e⟩
 ·obtain⟨_,hd,vs,_,dd⟩:=kN I.hok e;refine⟨dd.typeIs,λb q=>?_,hd⟩;cases q;obtain⟨ob,_,_,g,f,_⟩:=dd;exact⟨ob,g,f.2.1⟩
 ·obtain⟨_,hd,xs,_,dd⟩:=mw I.hok e;refine⟨dd.typeIs,λb q=>?_,hd⟩;cases q;obtain⟨ob,_,_,g,f,_⟩:=dd;exact⟨ob,g,f.2.1⟩
section
variable{X:Cx}{pins:L0}{Z:St}{H:Hp}{s:Shared}{a:Addr}{y d:V}{u r:Value}{o:Option V}{A:Around}{E:L1}
theorem NF{Q:L1}(j:A.units+1<cLine)(I:Inv X pins Z H s)(g:DGet H a y o)(i:RelV y u)(h:∀f s',Inv X pins Z H s'->RelV (o.getD .non) f->Q f s'):
 wpAny (model X.prog X.w) A (call (.builtin "dict.get") [.ref a,u]) Q E s:=by
 rcases g with ⟨kvs,k,e,d,l⟩|⟨kvs,k,b,e,d,m,l⟩
 ·subst d;obtain⟨z,hd,vs,c,dd⟩:=kN I.hok e;refine VC UM dd.typeIs Vq (Wr _ _) (meets_dict_get (aC X.prog X.w) a (ky i) hd) ⟨_,dd.mapOf,h _ _ (I.tok _) ?_⟩;rw[l];exact(c.val k).getD rfl
 ·subst d;cases(show u=Value.ref b from i);obtain⟨z,hd,xs,c,dd⟩:=mw I.hok e;refine VC UM dd.typeIs Vq (Wr _ _) (meetsH_dict_get (tupleKind (aC X.prog X.w)) a b hd) ⟨U0 j,k,xs,fP I.hok m,dd,h _ _ (I.tok _) ?_⟩;rw[l];exact(c.val k).getD rfl
theorem NE{Q:L1}(m:A.units+1<cLine)(I:Inv X pins Z H s)(g:DGet H a y o)(j:RelV y u)(rd:RelV d r)(h:∀i s',Inv X pins Z H s'->RelV (o.getD d) i->Q i s'):
 wpAny (model X.prog X.w) A (call (.builtin "dict.get") [.ref a,u,r]) Q E s:=by
 rcases g with ⟨kvs,k,e,f,l⟩|⟨kvs,k,b,e,f,n,l⟩
 ·subst f;obtain⟨z,hd,vs,c,dd⟩:=kN I.hok e;refine VC UM dd.typeIs Vq (Ws _ _ _) (meets_dict_get_default (aC X.prog X.w) a (ky j) hd r) ⟨_,dd.mapOf,h _ _ (I.tok _) ?_⟩;rw[l];exact(c.val k).getD rd
 ·subst f;cases(show u=Value.ref b from j);obtain⟨z,hd,xs,c,dd⟩:=mw I.hok e;refine VC UM dd.typeIs Vq (Ws _ _ _) (meetsH_dict_get_default (tupleKind (aC X.prog X.w)) a b hd r) ⟨U0 m,k,xs,fP I.hok n,dd,h _ _ (I.tok _) ?_⟩;rw[l];exact(c.val k).getD rd
end
def B7(c ty:TE):TE:=λZ H Q=>c Z H λx H1=>∃a,x=.ref a/\Ku H1 a/\ty Z H1 λy b=>∃o,DGet b a y o/\Q (o.getD .non) b
def B6(d ty c:TE):TE:=λZ H Q=>d Z H λx H1=>∃a,x=.ref a/\Ku H1 a/\ty Z H1 λy e=>c Z e λz b=>∃o,DGet b a y o/\Q (o.getD z) b
def BZ(d ty c:TE):TE:=λZ H Q=>d Z H λx H1=>∃a,x=.ref a/\Ku H1 a/\ty Z H1 λy e=>c Z e λz b=>∃kvs k,b a=some (.dK kvs)/\y=kV k/\
 (∀v,cQ kvs k=some v->Q v (upd b a (.dK (eM kvs k))))/\(cQ kvs k=none->Q z b)
section
variable{X:Cx}{o e f:Expr}{apos cpos:Pos}{td ty tx:TE}
theorem og(r:X.A.units+1<cLine)(t:PE X o td)(v:PE X e ty)(m:M1 X o "get" apos e cpos):PE X (.Call (.Attribute o "get" apos) [e] [] cpos) (B7 td ty):=by
 intro b s Z H Q I h;refine Vz m.base m.few m.line Ua UM WH (bE (t b s Z H _ I h) λu k ⟨x,H1,f,n,a,ex,d,q⟩=>?_);subst ex;obtain rfl:u=Value.ref a:=n;obtain⟨j,i,_⟩:=lL f d;refine⟨j,i,?_⟩;rw[m.trees];refine UA rfl (UI (Us (bE (v b k Z H1 _ f q) λE s2 ⟨y,B,z,l,ov,g,p⟩=>UQ ?_)));exact NF r z g l λC D w c=>⟨_,B,w,c,p⟩
theorem Ds(w:X.A.units+1<cLine)(B:PE X o td)(D:PE X e ty)(C:PE X f tx)(m:M2 X o "get" apos e f cpos):PE X (.Call (.Attribute o "get" apos) [e,f] [] cpos) (B6 td ty tx):=by
 intro b s Z H Q I h;refine Vz m.base m.few m.line Ua UM WH (bE (B b s Z H _ I h) λu l ⟨x,H1,i,q,a,ex,d,v⟩=>?_);subst ex;obtain rfl:u=Value.ref a:=q;obtain⟨k,j,_⟩:=lL i d;refine⟨k,j,?_⟩;rw[m.trees]
 refine UA rfl (UI (Us (bE (D b l Z H1 _ i v) λO s2 ⟨y,K,G,p,t⟩=>
  Us (bE (C b s2 Z K _ G t) λP N ⟨z,J,F,n,ov,g,r⟩=>UQ ?_))))
 exact NE w F g p n λL M E c=>⟨_,J,E,c,r⟩
theorem uM(G:PE X o td)(K:PE X e ty)(J:PE X f tx)(m:M2 X o "pop" apos e f cpos):PE X (.Call (.Attribute o "pop" apos) [e,f] [] cpos) (BZ td ty tx):=by
 intro b s Z H Q I h;refine Vz m.base m.few m.line Ua U6 VW (bE (G b s Z H _ I h) λu w ⟨x,H1,p,B,a,ex,d,F⟩=>?_);subst ex;obtain rfl:u=Value.ref a:=B;obtain⟨r,q,_⟩:=lL p d;refine⟨r,q,?_⟩;rw[m.trees]
 refine UA rfl (UI (Us (bE (K b w Z H1 _ p F) λT s2 ⟨y,P,N,i,E⟩=>
  Us (bE (J b s2 Z P _ N E) λL S ⟨z,O,n,A,kvs,k,j,M,D,C⟩=>UQ ?_))))
 subst M;cases l:cQ kvs k with
 |some v=>exact Q8 n j i l (.inr ⟨L,rfl⟩) λR t g c=>⟨v,_,g,c,D v l⟩
 |none=>exact ND n j i l λt g=>⟨z,O,g,A,C l⟩
end
end L2
namespace HT
open PySem PyProof.Rows
def ku:List Int->List Int->Bool
 |[],[]=>false
 |[],_::_=>true
 |_::_,[]=>false
 |x::xs,y::a=>if x=y then ku xs a else decide (x<y)
theorem oQ(x y:Int)(xs a:List Int):ku (x::xs) (y::a)=if x=y then ku xs a else decide (x<y):=rfl
theorem Dg(A:Around)(s:Shared)(a:Int)(t:Tok)(c:Int)(u:Tok)(prog:Program)(w:World)(E:L1)(Q:L1)(h:Q (.bool (decide (a<c))) s):
 wpAny (model prog w) A (richCompare .Lt (.int a t) (.int c u)) Q E s:=
 (PyProof.Rows.lt_int h:wpAny (model prog w) A (compareOp .Lt (.int a t) (.int c u)) Q E s)
section
variable{prog:Program}{w:World}{A:Around}{E:L1}{s:Shared}
def uD(n d:Nat):Option Int->Nat
 |none=>d
 |some v=>if v<0 then (v+(n:Int)).toNat else min v.toNat n
theorem CL(n d:Nat):uD n d none=d:=rfl
end
end HT
namespace L2
open PySem PySem.Spec PyProof.Rows
abbrev TO:=St->Hp->(Option Int->Hp->Prop)->Prop
def PO(X:Cx)(e:Option Expr)(t:TO):Prop:=
 ∀(a:L0) (s:Shared) (Z:St) (H:Hp) (Q:Option Int->Hp->Prop),Inv X a Z H s->t Z H Q->
  wpAny (model X.prog X.w) X.A (evalPart e X.env) (λu s'=>∃o H',Inv X a Z H' s'/\IsPart u o/\Q o H') X.xe s
def yn:TO:=λ_ H Q=>Q none H
def IM(t:TE):TO:=λZ H Q=>t Z H λx H1=>∃i,x=.int i/\Q (some i) H1
theorem xA{ns:List Int}:∀{us:List Value},Vals (ns.map V.int) us->IntsAre us ns:=by
 induction ns with
 |nil=>intro us r;rw[Uz]at r;cases r;exact .nil
 |cons n ns c=>
   intro us r;rw[Tr]at r;cases r with
   |cons b a=>
     obtain⟨t,e⟩:=b;subst e;exact .cons n t (c a)
section
variable{X:Cx}{e:Expr}{te:TE}{lo hi:Option Expr}{tl th:TO}{pos p2:Pos}
theorem G7:PO X none yn:=by
 intro a s Z H Q I h;rw[evalPart_none];exact TF ⟨none,H,I,.none,h⟩
theorem G6(h:PE X e te):PO X (some e) (IM te):=by
 intro a s Z H Q I d;rw[evalPart_some];refine bE (h a s Z H _ I d) λu g ⟨x,H1,f,b,c⟩=>?_;obtain⟨i,rfl,q⟩:=c;obtain⟨t,rfl⟩:=b;exact⟨some i,H1,f,.int i t,q⟩
def Ti(X:Cx)(r:V->Option Int->Option Int->Hp->VK->Prop):Prop:=
 ∀(a:L0) (s:Shared) (Z:St) (H:Hp) (x:V) (v c b:Value) (lo hi:Option Int) (d:Addr) (Q:VK),Inv X a Z H s->RelV x v->s.heap.IsSliceOf d c b .none->IsPart c lo->IsPart b hi->r x lo hi H Q->
  ∃T id,typeLookup (.type T) "__getitem__" = pure (some (.builtin id))/\s.TypeIs v T/\wpAny (model X.prog X.w) X.A (getItem v (.ref d)) (EP X a Z Q) X.xe s
def tSl(r:V->Option Int->Option Int->Hp->VK->Prop)(te:TE)(tl th:TO):TE:=λZ H Q=>te Z H λx H1=>tl Z H1 λl b=>th Z b λu a=>r x l u a Q
theorem Dq{r:V->Option Int->Option Int->Hp->VK->Prop}(y:Ti X r)(C:PE X e te)(z:PO X lo tl)(p:PO X hi th):PE X (.Subscript e (.Slice lo hi none p2) pos) (tSl r te tl th):=by
 intro a s Z H Q I h;refine Subscript_ (bE (C a s Z H _ I h) λv i ⟨x,H1,J,j,n⟩=>?_);refine wpAny_Slice (bE (z a i Z H1 _ J n) λf s2 ⟨l,K,G,pl,m⟩=>bE (p a s2 Z K _ G m) λd c ⟨u,g,F,o,k⟩=>?_);rw[evalPart_none];refine wpAny_pure ?_;have E:Inv X a Z g {c with heap:=c.heap.push {cls:=.type "slice",data:=.fields #[f,d,.none]}}:=F.kept (t':=c.toks) λb ob q=>Heap.get?_push_of_some _ q;obtain⟨T,id,D,t,B⟩:=y a {c with heap:=c.heap.push {cls:=.type "slice",data:=.fields #[f,d,.none]}} Z g x v f d l u c.heap.objs.size Q E j (Heap.IsSliceOf.new ..) pl o k;show wpAny (model X.prog X.w) X.A (subscriptTail e (.Slice lo hi none p2) v (.ref c.heap.objs.size)) (EP X a Z Q) X.xe {c with heap:=c.heap.push {cls:=.type "slice",data:=.fields #[f,d,.none]}};exact tail_any (ops:=[.ref c.heap.objs.size,v]) t D B (by with_unfolding_all rfl)
def Bj(xs:List V)(lo hi:Option Int):List V:=(xs.drop (HT.uD xs.length 0 lo)).take (HT.uD xs.length xs.length hi-HT.uD xs.length 0 lo)
theorem vE(xs:List V)(lo hi:Option Int):(Bj xs lo hi).length<=xs.length:=by
 unfold Bj;rw[List.length_take,List.length_drop];omega
end
def qc(n:Nat)(i:Int):Option Nat:=if 0<=i then (if i<n then some i.toNat else none) else if -(n:Int)<=i then some (i+n).toNat else none
def lp{W:Type}(xs:List W)(i:Int):Option W:=(qc xs.length i).bind λj=>xs[j]?
theorem zf{n:Nat}{i:Int}{j:Nat}(h:qc n i=some j):seqIndex? i n=some j/\j<n/\-(n:Int)<=i/\i<n:=by
 unfold qc at h;by_cases h0:0<=i
 · rw[Tq h0]at h;by_cases a:i<n
   ·rw[Tq a]at h;have e:i.toNat=j:=T2 h;exact⟨by rw[seqIndex_of h0 a,e],by omega,by omega,a⟩
   ·rw[on a]at h;cases h
 · rw[on h0]at h;by_cases a:-(n:Int)<=i
   ·rw[Tq a]at h;have e:(i+n).toNat=j:=T2 h;exact⟨by rw[seqIndex_neg (by omega) a,e],by omega,a,by omega⟩
   ·rw[on a]at h;cases h
theorem z8{W:Type}{xs:List W}{i:Int}{v:W}(h:lp xs i=some v):∃j,seqIndex? i xs.length=some j/\xs[j]?=some v/\j<xs.length/\-(xs.length:Int)<=i/\i<xs.length:=by
 unfold lp at h;cases e:qc xs.length i with
 |none=>rw[e]at h;cases h
 |some j=>
   rw[e]at h;obtain⟨d,c,b,a⟩:=zf e;exact⟨j,d,h,c,b,a⟩
theorem wn{W:Type}(xs:List W)(v:W):lp (xs++[v]) (-1)=some v:=by
 have a:(xs++[v]).length=xs.length+1:=by simp
 have e:qc (xs++[v]).length (-1)=some xs.length:=by
  unfold qc;rw[a,if_neg (by decide),if_pos (by omega)];congr 1;omega
 unfold lp;rw[e];show(xs++[v])[xs.length]?=some v;simp
def Iw(b:Expr):Prop:=∀o i,subscripted b false o i=operate [o,i] (getItem o i)
def Se(X:Cx)(r:R2):Prop:=
 ∀(c a:Expr) (b:L0) (s:Shared) (Z:St) (H:Hp) (x y:V) (v u:Value) (Q:VK),Inv X b Z H s->RelV x v->RelV y u->r x y H Q->
  subscripted a false v u=operate [v,u] (getItem v u)->wpAny (model X.prog X.w) X.A (subscriptTail c a v u) (EP X b Z Q) X.xe s
def MtR(X:Cx)(id:String)(r:V->List V->Hp->VK->Prop):Prop:=
 ∀(a:L0) (s:Shared) (Z:St) (H:Hp) (x:V) (xs:List V) (v:Value) (us:List Value) (Q:VK),Inv X a Z H s->RelV x v->Vals xs us->r x xs H Q->
  wpAny (model X.prog X.w) X.A (call (.builtin id) (v::us)) (EP X a Z Q) X.xe s
section
variable{X:Cx}{a b:Expr}{ta tb:TE}{pos:Pos}
theorem da{r:R2}(g:Se X r)(j:PE X a ta)(i:PE X b tb)(f:Iw b):PE X (.Subscript a b pos) (Ao r ta tb):=by
 intro c s Z H Q I h;exact Subscript_ (Oe j i I h λv u s2 x y l k e d q=>g a b c s2 Z l x y v u Q k e d q (f _ _))
def GZ(K:F0):R2:=λx y H Q=>∃p xs i v,x=.ref p/\y=.int i/\SqL K H p xs/\lp xs i=some v/\Q v H
def LA(K:F0):R2:=λx y H Q=>∃p xs i v,x=.ref p/\y=.int i/\SqT K H p xs/\lp xs i=some v/\Q v H
theorem HL:Se X (GZ X.K):=by
 intro d e a s Z H x y v u Q I n m h k;obtain⟨p,xs,i,z,rfl,rfl,o,B,q⟩:=h;cases n;obtain⟨t,rfl⟩:=m;obtain⟨its,r,pl,hz⟩:=I.list o;obtain⟨j,c,E,G,D,C⟩:=z8 B;obtain⟨w,l,f⟩:=r.get E;have A:=r.length;have F:=sM;have b:EP X a Z Q w s:=⟨z,H,I,f,q⟩;by_cases h0:0<=i
 · have g:i.toNat=j:=by
    rw[seqIndex_of h0 C]at c;exact T2 c
   exact item_listR pl.isList h0 (by omega) (by rw[g];simpa using l) b k
 · have g:(i+(its.toArray.size:Int)).toNat=j:=by
    rw[seqIndex_neg (by omega) D]at c;rw[TN,<-A];exact T2 c
   exact subscriptTail_builtinR (x:=w) pl.isList.typeIs slot_list_getitem.lookup
    (wpAny_getItem_list_neg (Q:=λr s'=>r=w/\EP X a Z Q r s') pl.isList (by omega) (by rw[TN]<;>omega) (by omega) (by rw[g];simpa using l) ⟨rfl,b⟩) k
theorem Nk:Se X (LA X.K):=by
 intro b c a s Z H x y v u Q I g f h k;obtain⟨p,xs,i,z,rfl,rfl,l,n,q⟩:=h;cases g;obtain⟨t,rfl⟩:=f;obtain⟨its,r,pl,hz⟩:=I.tuple l;obtain⟨j,A,o,F,E,D⟩:=z8 n;obtain⟨w,B,d⟩:=r.get o;have m:=r.length;have C:=sM;have e:EP X a Z Q w s:=⟨z,H,I,d,q⟩
 exact subscriptTail_builtinR (x:=w) pl.typeIs slot_tuple_getitem.lookup
  (getItem_tuple (j:=j) (Q:=λr s'=>r=w/\EP X a Z Q r s') pl (by omega) (by omega) (by rw[TN,<-m];exact A) (by simpa using B) ⟨rfl,e⟩) k
theorem xo(its:List Value)(n j:Nat)(u:Value):Obj.mapSeq (·.setIfInBounds j u) {cls:=.type "list",data:=.seq its.toArray n}={cls:=.type "list",data:=.seq (its.set j u).toArray n}:=by
 simp[Obj.mapSeq]
theorem Inv.lst{a:L0}{Z:St}{H:Hp}{s:Shared}{p:Addr}{xs:List V}(I:Inv X a Z H s)(h:H p=some (.lst xs)):
 ∃(its:List Value) (n:Nat),Vals xs its/\s.heap.get? p=some {cls:=.type "list",data:=.seq its.toArray n}/\xs.length<=sizeLine:=by
 obtain⟨z,its,n,r,e⟩:=I.hok p _ h;exact⟨its,n,r,e,z⟩
theorem Inv.lstUpd{a:L0}{Z:St}{H:Hp}{s:Shared}{p:Addr}{xs c:List V}{its its':List Value}{n d:Nat}{f:Obj->Obj}(I:Inv X a Z H s)(h:H p=some (.lst xs))
 (i:s.heap.get? p=some {cls:=.type "list",data:=.seq its.toArray n}) (g:f {cls:=.type "list",data:=.seq its.toArray n}={cls:=.type "list",data:=.seq its'.toArray d}) (r:Vals c its') (hz:c.length<=sizeLine) (t:Nat):
 Inv X a Z (upd H p (.lst c)) {s with heap:=s.heap.update p f,toks:=t}:=by
 have e:(s.heap.update p f).get? p=some {cls:=.type "list",data:=.seq its'.toArray d}:=by
  rw[Ug f i (by rw[g]<;>rfl),g]
 refine I.write (x:=p) (e:=p) (by rw[h];trivial) (.inl rfl) (λb u j q=>(Ub _ _ (Va j)).trans q) ⟨_,e⟩ ?_;exact⟨hz,its',d,r,e⟩
def Je:V->V->V->Hp->(Hp->Prop)->Prop:=λo i v H Q=>∃p xs k j,o=.ref p/\i=.int k/\H p=some (.lst xs)/\qc xs.length k=some j/\Q (upd H p (.lst (xs.set j v)))
theorem uA:Sa X Je:=by
 intro a s Z H o i v ov z u Q I w x m h;obtain⟨p,xs,k,j,rfl,rfl,hp,y,q⟩:=h;cases w;obtain⟨t,rfl⟩:=x;obtain⟨its,n,r,c,hz⟩:=I.lst hp;obtain⟨b,B,g,f⟩:=zf y;have d:=r.length;have A:=sM
 have l:Inv X a Z (upd H p (.lst (xs.set j v))) {s with heap:=s.heap.update p (Obj.mapSeq (·.setIfInBounds j u))}:=
  I.lstUpd hp c (xo its n j u) (r.set m j) (by rw[T5];exact hz) s.toks
 by_cases h0:0<=k
 · have e:k.toNat=j:=by
    rw[seqIndex_of h0 f]at b;exact T2 b
   exact PySem.W.ki_setAt c h0 (by omega) (by rw[TN,<-d];exact f) (by rw[e];exact⟨_,l,q⟩)
 · have e:(k+(its.toArray.size:Int)).toNat=j:=by
    rw[seqIndex_neg (by omega) g]at b;rw[TN,<-d];exact T2 b
   exact PySem.W.ki_setBack c (by omega) (by rw[TN,<-d];exact g) (by omega) (by rw[e];exact⟨_,l,q⟩)
theorem rY(lo hi:Option Int)(n:Nat):(sliceBounds lo hi none n).1=((HT.uD n 0 lo:Nat):Int)/\(sliceBounds lo hi none n).2.1=((HT.uD n n hi:Nat):Int)/\(sliceBounds lo hi none n).2.2=1:=by
 refine⟨?_,?_,rfl⟩
 · cases lo with
   |none=>simp[sliceBounds,HT.uD]
   |some i=>
     simp only[sliceBounds,HT.uD,Option.getD_none,show(1:Int)>0 by decide,WS];by_cases h:i<0
     ·simp only[h,WS]<;>omega
     ·simp only[h,Wt]<;>omega
 · cases hi with
   |none=>simp[sliceBounds,HT.uD]
   |some i=>
     simp only[sliceBounds,HT.uD,Option.getD_none,show(1:Int)>0 by decide,WS];by_cases h:i<0
     ·simp only[h,WS]<;>omega
     ·simp only[h,Wt]<;>omega
theorem qi(its:List Value)(lo hi:Option Int):slicePick its.toArray lo hi none=((its.drop (HT.uD its.length 0 lo)).take (HT.uD its.length its.length hi-HT.uD its.length 0 lo)).toArray:=by
 obtain⟨c,b,a⟩:=rY lo hi its.toArray.size;unfold slicePick;rw[c,b,a];simp only[sliceRange_one,pick_run,List.size_toArray]<;>rfl
def Lz(K:F0):V->Option Int->Option Int->Hp->VK->Prop:=λx lo hi H Q=>∃a xs,x=.ref a/\SqL K H a xs/\∀p,H p=none->Q (.ref p) (upd H p (.lst (Bj xs lo hi)))
theorem GP:Ti X (Lz X.K):=by
 intro d s Z H x v l k lo hi m Q I f j pl g h;obtain⟨a,xs,rfl,i,q⟩:=h;cases f;obtain⟨its,r,e,hz⟩:=I.list i;have c:=r.length;refine⟨"list",_,slot_list_getitem.lookup,e.isList.typeIs,?_⟩;refine wpAny_getItem_list_slice e.isList j pl g .none (by simp) ?_ (by rw[TN]<;>omega);rw[qi,<-c];refine⟨.ref s.heap.objs.size,_,I.laid (t':=s.toks) (o:=.lst (Bj xs lo hi)) (λb ob q=>Tx _ q) (TM _) ?_,rfl,q _ (I.hok.fresh (TM _))⟩;exact⟨Uk (vE xs lo hi) hz,_,0,(r.drop (HT.uD xs.length 0 lo)).take (HT.uD xs.length xs.length hi-HT.uD xs.length 0 lo),TZ _ rfl⟩
theorem uf:fe X (.builtin "len") (λxs H Q=>∃p b,xs=[.ref p]/\(SqL X.K H p b\/SqT X.K H p b)/\Q (.int b.length) H):=by
 intro e s Z H xs us Q I r h;obtain⟨p,b,rfl,c,q⟩:=h;obtain⟨u,rfl,f⟩:=BI r;cases f;have g:=sM;rcases c with c|c
 ·obtain⟨its,d,pl,hz⟩:=I.list c;have a:=d.length;exact Calls.call_len_list pl.isList (by simp only[TN]<;>omega) ⟨.int b.length,H,I.tok _,⟨s.toks+1,by rw[TN,a]⟩,q⟩
 ·obtain⟨its,d,pl,hz⟩:=I.tuple c;have a:=d.length;exact len_tuple pl (by simp only[TN]<;>omega) ⟨.int b.length,H,I.tok _,⟨s.toks+1,by rw[TN,a]⟩,q⟩
theorem ue:fe X (.type "list") (λxs H Q=>∃p a,xs=[.ref p]/\(SqL X.K H p a\/SqT X.K H p a)/\∀l,H l=none->Q (.ref l) (upd H l (.lst a))):=by
 intro f s Z H xs us Q I r h;obtain⟨p,a,rfl,g,q⟩:=h;obtain⟨u,rfl,t⟩:=BI r;cases t
 have j:∀(its:List Value),Vals a its->a.length<=sizeLine->∀(h':Heap) (d:Nat),(∀b o',s.heap.get? b=some o'->h'.get? b=some o')->
  h'.get? s.heap.objs.size=some {cls:=.type "list",dict:=none,data:=.seq its.toArray d,slots:=#[]}->EP X f Z Q (.ref s.heap.objs.size) {s with heap:=h'}:=λits c hz h' d kp e=>
  ⟨.ref s.heap.objs.size,_,I.laid (t':=s.toks) kp (TM _) (show ObjOk X.prog X.w _ h' _ (.lst a) from⟨hz,its,d,c,e⟩),rfl,q _ (I.hok.fresh (TM _))⟩
 rcases g with g|g
 ·obtain⟨its,c,pl,hz⟩:=I.list g;have i:=c.length;obtain⟨o,k,m,n,hd⟩:=pl.isList;exact call_list_seq p (.inl rfl) k m hd (λh' d kp e=>j its c hz h' d kp e) (by simp only[TN]<;>omega)
 ·obtain⟨its,c,pl,hz⟩:=I.tuple g;have i:=c.length;obtain⟨o,k,m,n,hd⟩:=pl;exact call_list_seq p (.inr rfl) k m hd (λh' d kp e=>j its c hz h' d kp e) (by simp only[TN]<;>omega)
theorem qp:fe X (.type "tuple") (λxs H Q=>∃p c,xs=[.ref p]/\((SqL X.K H p c/\∀l,H l=none->Q (.ref l) (upd H l (.tup c)))\/(SqT X.K H p c/\Q (.ref p) H))):=by
 intro a s Z H xs us Q I r h;obtain⟨p,c,rfl,h⟩:=h;obtain⟨u,rfl,j⟩:=BI r;cases j;rcases h with ⟨f,q⟩|⟨f,q⟩
 · obtain⟨its,d,pl,hz⟩:=I.list f;have g:=d.length;refine call_tuple_list pl.isList (λh' kp=>?_) (by simp only[TN]<;>omega);have i:Inv X a Z H {s with heap:=h'}:=I.kept (t':=s.toks) kp
   have k:Inv X a Z (upd H h'.objs.size (.tup c)) {s with heap:=h'.push {cls:=.type "tuple",data:=.seq its.toArray}}:=
    i.laid (t':=s.toks) (λb o e=>Tx _ e) (TM _) (show ObjOk X.prog X.w _ _ _ (.tup c) from⟨hz,its,d,IsTup.new _ _⟩)
   exact⟨.ref h'.objs.size,_,k,rfl,q _ (i.hok.fresh (TM _))⟩
 ·obtain⟨its,d,pl,hz⟩:=I.tuple f;exact call_tuple_same pl ⟨.ref p,H,I,rfl,q⟩
def tyV(K:F0)(T:String)(x:V)(H:Hp):Prop:=match x with
 |.str _=>T = "str"
 |.int _=>T = "int"
 | .ref p=>(T = "list" /\ ∃xs,SqL K H p xs)\/(T = "tuple" /\ ∃o,K.lookup p=some o/\o.cls=.type "tuple" /\ o.dict=none)\/
    (T = "dict" /\ ((∃kvs,H p=some (.dK kvs))\/∃kvs,H p=some (.dT kvs)))\/(T = "set" /\ ∃S n,H p=some (.set S n))
 |_=>False
theorem Kw{d:L0}{Z:St}{H:Hp}{s:Shared}{T:String}{x:V}{v:Value}(I:Inv X d Z H s)(r:RelV x v)(ty:tyV X.K T x H):
 s.TypeIs v T/\∀a,v=.ref a->∃ob,s.heap.get? a=some ob/\ob.dict=none:=by
 cases x with
 |str z=>
   obtain⟨t,rfl⟩:=r;cases(show T = "str" from ty);exact⟨typeIs_str s z t,λ_ e=>nomatch e⟩
 |int i=>
   obtain⟨t,rfl⟩:=r;cases(show T = "int" from ty);exact⟨typeIs_int s i t,λ_ e=>nomatch e⟩
 |ref p=>
   cases r;rcases ty with ⟨rfl,xs,g⟩|⟨rfl,o,b,h,hd⟩|⟨rfl,b⟩|⟨rfl,S,n,b⟩
   ·obtain⟨its,_,pl,_⟩:=I.list g;refine⟨pl.isList.typeIs,λa e=>?_⟩;cases e;obtain⟨o,n,e,c,hd,_⟩:=pl;exact⟨o,e,hd⟩
   ·refine⟨⟨o,I.kIn p o b,h⟩,λa e=>?_⟩;cases e;exact⟨o,I.kIn _ o b,hd⟩
   · have z:∃o,s.heap.get? p=some o/\o.ExactDict:=by
      rcases b with ⟨kvs,b⟩|⟨kvs,b⟩
      ·obtain⟨_,_,_,_,o,_,_,e,ex,_⟩:=I.hok p _ b;exact⟨o,e,ex⟩
      ·obtain⟨_,_,_,_,o,_,_,e,ex,_⟩:=I.hok p _ b;exact⟨o,e,ex⟩
     obtain⟨o,e,ex⟩:=z;refine⟨⟨o,e,ex.1⟩,λa f=>?_⟩;cases f;exact⟨o,e,ex.2.1⟩
   ·obtain⟨o,_,_,_,e,ex,_⟩:=I.hok p _ b;refine⟨⟨o,e,ex.1⟩,λa f=>?_⟩;cases f;exact⟨o,e,ex.2.1⟩
 |_=>exact False.elim ty
def OL(K:F0)(T:String)(r:V->List V->Hp->VK->Prop)(to:TE)(t:TA):TE:=λZ H Q=>to Z H λx H1=>tyV K T x H1/\t Z H1 λxs a=>r x xs a Q
variable{o e:Expr}{es:List Expr}{to:TE}{t:TA}{name:Str}{apos cpos:Pos}{T id:String}{r:V->List V->Hp->VK->Prop}
theorem lY(q:PlainAttrs T)(slot:Slot T name id)(g:typeOf (.builtin id)=pure (.type "method_descriptor"))(y:MtR X id r)(w:PE X o to)(z:PA X (e::es) t)
 (d:attributeBase o name X.env (eval o X.env)=eval o X.env:=by rfl)
 (f:((backTo cpos (starEach (e::es) X.env)).all (λx=>!x.1)&&(backToKw cpos (keywordEach [] X.env)).all (λx=>x.1.isSome)
   && decide ((e::es).length+([]:List Keyword).length+(if ([]:List Keyword).isEmpty then 0 else 1)<30))=true:=by rfl)
 (c:(apos.endLine==cpos.line)=true:=by rfl) (u:starEach (e::es) X.env=(false,eval e X.env)::starEach es X.env:=by rfl) (b:(backTo cpos (starEach es X.env)).any (·.1)=false:=by rfl):
 PE X (.Call (.Attribute o name apos) (e::es) [] cpos) (OL X.K T r to t):=by
 intro a s Z H Q I h;refine wpAny_Call_method_late d f c rfl (bE (w a s Z H _ I h) λv l ⟨x,H1,k,i,ty,p⟩=>?_);obtain⟨B,A⟩:=Kw k i ty;refine⟨T,id,q,slot,g,B,A,?_⟩;have j:=z cpos a l Z H1 _ k p;rw[u]at j ⊢;refine UA (by show(false||(backTo cpos (starEach es X.env)).any (·.1))=false;rw[b]<;>rfl) (UI ?_);exact bE j λus s2 ⟨vs,D,C,m,n⟩=>y a s2 Z D x vs v us Q C i m n
end
def MtM(X:Cx)(id:String)(r:V->List V->Hp->VK->Prop):Prop:=
 ∀(a:L0) (s:Shared) (Z:St) (H:Hp) (x:V) (xs:List V) (v:Value) (us:List Value) (Q:VK),Inv X a Z H s->RelV x v->Vals xs us->r x xs H Q->
  wpAny (model X.prog X.w) X.A (call (.builtin id) (v::us)) (EP X a Z Q) X.xe s
theorem Vals.one:∀{x:V} {us:List Value},Vals [x] us->∃u,us=[u]/\RelV x u
 |_,_,.cons r .nil=>⟨_,rfl,r⟩
theorem Vals.eraseIdx:∀{xs:List V} {us:List Value} (i:Nat),Vals xs us->Vals (xs.eraseIdx i) (us.eraseIdx i)
 |_,_,_,.nil=>.nil
 |_,_,0,.cons _ t=>t
 |_,_,i+1,.cons r t=>.cons r (Vals.eraseIdx i t)
theorem Vals.rep{xs:List V}{us:List Value}(h:Vals xs us):∀k:Nat,Vals (List.replicate k xs).flatten (List.replicate k us).flatten
 |0=>.nil
 | k+1=>by
   rw[Ul,Ul,UD,UD];exact Vals.append h (Vals.rep h k)
theorem qT{W:Type}:∀(l:List W) (i:Nat),(l.eraseIdx i).length<=l.length
 |[],_=>TM _
 |_::_,0=>Nat.le_succ _
 |_::r,i+1=>Nat.succ_le_succ (qT r i)
theorem rj(its:List Value):∀(k:Nat) (acc:List Value),
 List.foldl (λb a=>b++a) acc.toArray (List.replicate k its.toArray)=(acc++(List.replicate k its).flatten).toArray
 |0,acc=>by simp
 | k+1,acc=>by
   have e:acc.toArray++its.toArray=(acc++its).toArray:=by simp
   have c:(acc++its)++(List.replicate k its).flatten=acc++(List.replicate (k+1) its).flatten:=by
    rw[Ul,UD,UE]
   rw[<-c,<-rj its k (acc++its),<-e,Ul,V4]
section
variable{X:Cx}{pins:L0}{Z:St}{H:Hp}{s:Shared}{l b:Addr}{xs ys zs:List V}
theorem Inv.lset{its its':List Value}{n:Nat}{f:Array Value->Array Value}{t':Nat}(I:Inv X pins Z H s)(g:H l=some (.lst xs))
 (e:s.heap.get? l=some {cls:=.type "list",data:=.seq its.toArray n}) (c:f its.toArray=its'.toArray) (a:Vals ys its') (hz:ys.length<=sizeLine):
 Inv X pins Z (upd H l (.lst ys)) {s with heap:=s.heap.update l (Obj.mapSeq f),toks:=t'}:=by
 have q:=PySem.IsL.update e f;rw[c]at q;refine I.write (x:=l) (e:=l) (by rw[g];exact trivial) (.inl rfl) (λh u d b=>(Ub s.heap (Obj.mapSeq f) (Va d)).trans b) ⟨_,q⟩ ?_;exact⟨hz,its',_,a,q⟩
theorem Inv.lnew{its:List Value}{t':Nat}(I:Inv X pins Z H s)(a:Vals ys its)(hz:ys.length<=sizeLine):
 Inv X pins Z (upd H s.heap.objs.size (.lst ys)) {s with heap:=s.heap.push {cls:=.type "list",data:=.seq its.toArray},toks:=t'}:=
 I.laid (λ_ _ q=>Tx _ q) (TM _) ⟨hz,its,0,a,TZ _ rfl⟩
theorem Inv.fresh(I:Inv X pins Z H s):H s.heap.objs.size=none:=I.hok.fresh (TM _)
theorem Inv.lstM(I:Inv X pins Z H s)(a:H l=some (.lst xs)):xs.length<=sizeLine/\∃(its:List Value) (n:Nat),Vals xs its/\xs.length=its.length/\s.heap.get? l=some {cls:=.type "list",data:=.seq its.toArray n}:=by
 obtain⟨z,its,n,r,e⟩:=I.hok l _ a;exact⟨z,its,n,r,r.length,e⟩
theorem DO{n:Nat}(h:n<=sizeLine):Builtin.List.listTooLong n=false:=by
 unfold Builtin.List.listTooLong;exact decide_eq_false (by omega)
end
section
variable{X:Cx}
def yT:V->List V->Hp->VK->Prop:=λx vs H Q=>∃l xs y,x=.ref l/\vs=[y]/\H l=some (.lst xs)/\xs.length<sizeLine/\Q .non (upd H l (.lst (xs++[y])))
theorem jm:MtM X "list.append" yT:=by
 intro a s Z H x vs v us Q I c d h;obtain⟨l,xs,y,rfl,rfl,b,hz,q⟩:=h;cases c;obtain⟨u,rfl,f⟩:=d.one;obtain⟨z,its,n,r,g,e⟩:=I.lstM b;refine call_meets F.slot_list_append ⟨_,e,rfl⟩ F.entry_list_append (F.args_list_append_2 _ _) (PySem.list_append l its.toArray n u (by rw[TN];omega)) ⟨e,?_⟩;refine⟨.non,_,I.lset (its':=its++[u]) b e (by simp) (r.append (.cons f .nil)) ?_,rfl,q⟩;rw[TU,Vw];omega
def Di:R2:=λx y H Q=>∃l b xs a,x=.ref l/\y=.ref b/\H l=some (.lst xs)/\H b=some (.lst a)/\xs.length+a.length<=sizeLine/\∀p,H p=none->Q (.ref p) (upd H p (.lst (xs++a)))
theorem DF:mR X (binaryOp .Add) Di:=by
 intro c s Z H x y v u Q I f d h;obtain⟨l,b,xs,p,rfl,rfl,j,k,hz,q⟩:=h;cases f;cases d;obtain⟨z,its,n,r,A,e⟩:=I.lstM j;obtain⟨t,a,w,g,i,o⟩:=I.lstM k;refine PySem.P.add_list e o ?_ (by rw[TN,TN];omega);have m:its.toArray++a.toArray=(its++a).toArray:=by simp
 rw[m];exact⟨.ref _,_,I.lnew (t':=s.toks) (r.append g) (by rw[TU];omega),rfl,q _ I.fresh⟩
def Pi:R2:=λx y H Q=>∃l k xs,x=.ref l/\y=.int k/\H l=some (.lst xs)/\-(2 ^ 63)<=k/\k<2 ^ 63/\xs.length*k.toNat<=sizeLine/\
 ∀p,H p=none->Q (.ref p) (upd H p (.lst (List.replicate k.toNat xs).flatten))
theorem HG{W:Type}(xs:List W)(k:Nat):(List.replicate k xs).flatten.length=k*xs.length:=by
 induction k with
 |zero=>simp
 |succ k a=>rw[Ul,UD,TU,a,Nat.succ_mul,Nat.add_comm]
theorem LZ:mR X (binaryOp .Mult) Pi:=by
 intro o s Z H x y v u Q I w p h;obtain⟨l,k,xs,rfl,rfl,B,D,C,hz,q⟩:=h;cases w;obtain⟨t,rfl⟩:=p;obtain⟨z,its,n,r,A,e⟩:=I.lstM B;have d:its.toArray.size*k.toNat<=sizeLine:=by rw[TN,<-A];exact hz
 have g:¬ its.toArray.size*k.toNat>(2 ^ 63-1) / 8:=by
  have:(sizeLine:Nat)<=(2 ^ 63-1) / 8:=by decide
  omega
 have f:¬ (!Builtin.List.listFitsIndex k)=true:=by
  rw[fitsIndex_both D C];exact TK
 have b:¬ Builtin.List.listTooLong (its.toArray.size*k.toNat)=true:=by
  rw[DO d];exact TK
 have c:List.foldl (λj i=>j++i) #[] (List.replicate (if its.toArray.isEmpty=true then 0 else k.toNat) its.toArray)=(List.replicate k.toNat its).flatten.toArray:=by
  have E:∀m:Nat,List.foldl (λj i=>j++i) #[] (List.replicate m its.toArray)=(List.replicate m its).flatten.toArray:=λm=>by
   have:=rj its m []
   rw[List.nil_append]at this;exact this
  rw[E];cases its with
  |nil=>simp
  |cons a G=>rw[on (by simp)]
 refine wpAny_binaryOp_repeat_ref (T := "list") (U := "int") (by decide) ⟨_,e,rfl⟩ (λs'=>typeIs_int s' k t) noFill_list_mul F.fills_int_mul F.slot_int_rmul repeat_list F.slot_int_index.lookup
  (call_meets F.slot_int_rmul (typeIs_int s k t) F.entry_int_rmul (F.args_int_rmul_2 _ _) (int___rmul___int_list k t l its.toArray n)
    ⟨e,rfl,⟨_,e,rfl⟩,call_meets F.slot_list_mul ⟨_,e,rfl⟩ F.entry_list_mul (F.args_list_mul_2 _ _) (AutoListH.list___mul___list_int_3 l its.toArray n k t f g b) ⟨e,?_⟩⟩)
 rw[c];exact⟨.ref _,_,I.lnew (t':=s.toks) (r.rep k.toNat) (by rw[HG,Nat.mul_comm];exact hz),rfl,q _ I.fresh⟩
end
end L2
namespace Att
open PySem PySem.W PySem.Calls PyProof.Rows
theorem mY{P:Params}{h:Heap}:∀(ns:List Int) (vs:List Value),WellAll P h vs (ns.map WData.int)->IntsAre vs ns:=by
 intro ns
 induction ns with
 |nil=>
   intro vs w;rw[Uz]at w;cases w;exact .nil
 |cons n ns c=>
   intro vs w;rw[Tr]at w;cases w with
   |cons a b=>
     cases a;exact .cons _ _ (c _ b)
theorem Aw{l:OpenLaw}{n:Nat}(u:l.most=some n){P:Params}{h:Heap}{args:List WData}{b:List Value}
 (c:l.row.toRowW.claim.pre args=true) (j:WellAll P h b args):
 ∃a vs ns,b=[Value.ref a]/\args=[WData.list (ns.map WData.int)]/\h.get? a=some {cls:=.type "list",data:=.seq vs.toArray}/\IntsAre vs ns/\ns.length<=n:=by
 have k:WShape.hasAll [] args [.list .int]=true:=(pre_splitW c).1;have m:l.pre.holds [] {args:=args}=true:=(pre_splitW c).2;obtain⟨d,r,rfl,x,w⟩:=hasAllW_cons k;obtain rfl:=hasAllW_nil w;obtain⟨xs,rfl,v⟩:=hasW_list x;obtain⟨ns,rfl⟩:=items_int v
 have e:ns.length<=n:=by
  unfold OpenLaw.pre at m
  have i:(WTm.not (.lt (.lit (.int (n:Int))) (.len (.arg 0)))).holds [] {args:=[.list (ns.map .int)]}=true:=by
   have i:=(holds_andW m).1;rw[u]at i;exact i
  have g:=condW_of i (w_not (w_lt w_lit (w_len_list (w_arg rfl))));rw[Tv]at g;refine Nat.le_of_not_lt λq=>?_;have s:(n:Int)<((ns.length:Nat):Int):=by omega
  first
   |(rw[UO s]at g;exact absurd g (by decide))
   |(simp at g;omega)
 cases j with
 |cons p o=>
   cases o;cases p with
   |list t f=>exact⟨_,_,ns,rfl,rfl,t,mY ns _ f,e⟩
theorem AE(l:OpenLaw)(args:List WData):l.row.toRowW.claim.post args (.bool true) args=true:=
 postW_of (r:=l.row.toRowW) (X:=(true==true))
  (show WShape.has [] (.bool true) .bool=true by first | rfl | decide | simp[WShape.has,WShape.arms,WShape.armsAll])
  (show(WTm.eq .res (.lit (.bool true))).value [] {args:=args,res:=some (.bool true),after:=args}=some (.bool (true==true)) from w_eq_bool (w_res rfl) w_lit) rfl
theorem wm{l:OpenLaw}{n:Nat}{q:Program}{loose:List Str}{XP:(Str->Option Value)->Heap->Prop}{z:World->Heap->Prop}{d:DefRec}
 (D:l.most=some n) (t:d.params.defaults=[])
 (call:∀(w:World) (s₀ b:Shared) (mg m:Str->Option Value) (j:Addr) (o:Obj) (pm k e:Value) (a:Addr) (vs:List Value) (ns:List Int),
   Ground q loose [] XP w s₀ mg m b.heap->z w b.heap->
   b.heap.get? j=some o->o.data=.func (docDef d.name d.params d.body d.scope pm k e)->b.heap.CodeRec k d.name->mg d.name=some (.ref j)->
   b.heap.get? a=some {cls:=.type "list",data:=.seq vs.toArray}->IntsAre vs ns->ns.length<=n->b.gens=#[]->
   codeAny (model l.prog w) callerA (.call (.ref j) ⟨[.ref a],[]⟩) (λr s'=>r=.ok (.ret (.bool true))/\OldK b.heap s'.heap/\s'.os=b.os/\AllBare s'.gens) b):
 WalkO q loose XP z l.row.toRowW d [] (λf vs=>PySem.call f vs):=by
 intro w s₀ b mg m G Y j o pm k e L kV C hd u y s H args v M g x A p F;obtain rfl:L=.none:=Dflts.none y t;obtain rfl:kV=.none:=Dflts.noKw y;obtain⟨a,vs,ns,rfl,rfl,h,c,i⟩:=Aw D g p;refine enter_call (VR (call w s₀ b mg m j o pm k e a vs ns G Y C (fd_plain hd) u s h c i H) λr s' B=>?_);obtain⟨rfl,K,J,I⟩:=B;exact⟨.inl ⟨.bool true,.bool true,[],rfl,λ_=>rfl,.bool true,AE l _,λ_=>⟨List.Pairwise.nil,λ_ E=>(nomatch E)⟩⟩,K,J,I⟩
end Att
namespace L2
open PySem PySem.Spec PyProof.Rows
theorem qy:∀{vs:List Value} {ns:List Int},IntsAre vs ns->Vals (ns.map V.int) vs
 |_,_,.nil=>.nil
 |_,_,.cons n t h=>.cons ⟨t,rfl⟩ (qy h)
abbrev Tbs:=List (Addr×Pos×Str)
def Tbs.at(T:Tbs)(b:Addr):List (Pos×Str):=(T.filter λp=>p.1==b).map (·.2)
def Tbs.ok(T:Tbs):Prop:=∀y∈T,∀z∈T,y.2.1.line=z.2.1.line->y.2.1.col=z.2.1.col->y.2.2=z.2.2
theorem Tbs.mem{T:Tbs}{b:Addr}{y:Pos×Str}:y∈T.at b↔(b,y)∈T:=by
 unfold Tbs.at;simp only[List.mem_map,List.mem_filter,beq_iff_eq];constructor
 ·rintro⟨⟨c,x⟩,⟨e,d⟩,a⟩;dsimp only at d a;subst d a;exact e
 ·intro h;exact⟨(b,y),⟨h,rfl⟩,rfl⟩
def Gc(T:Tbs)(H:Hp):Prop:=(∀p∈T,H p.1=some (.tbl (T.at p.1)))/\∀b,H b=none\/(∃o xs,H b=some (.frz o (.lst xs)))\/H b=some (.tbl (T.at b))
theorem EW{P:Program}{w:World}{K:F0}{mg mb:Str->Option Value}{CX:ym}{k:Nat}{fa a:Addr}{fd:FuncData}{x:Str}{sp:Sp}{f:Shared}{vs:List Value}{ns:List Int}{T:Tbs}
 (KX:K.In f.heap) (X:f.heap.Ns mainGlobals mg) (i:f.heap.Ns builtinsNs mb) (hbb:∀x:Str,x ≠ "__name__" -> mb x=bootBuiltins x) (Y:f.heap.NoLimit) (hg:f.gens=#[])
 (hbm:∃bm ob,mg "__builtins__" = some (.ref bm)/\bm≠builtinsNs/\f.heap.get? bm=some ob/\ob.cls=.type "module" /\ ob.dict=some builtinsNs/\ob.data=.plain)
 (hT:∀p∈T,∃c,PySem.W.CodeHd f.heap c p.1/\f.heap.get? p.1=some (PySem.W.tabObj #[])) (hTK:∀p∈T,K.lookup p.1=none) (hTo:T.ok)
 (M:f.heap.get? a=some {cls:=.type "list",data:=.seq vs.toArray}) (hi:IntsAre vs ns) (hl:ns.length<=sizeLine) (hr:Room k callerA)
 (F:∀base:Heap,K.In base->base.Ns mainGlobals mg->(∀c P,PySem.W.CodeHd f.heap c P->PySem.W.CodeHd base c P)->FnOk P w K mg base CX k fa fd [x] sp) (I:∀(s:Shared) (u:Value),BindsTo s fd ⟨[u],[]⟩ [(x,u)])
 (hsp:∀H:Hp,Gc T H->SqL K H a (ns.map V.int)->sp [.ref a] H (λv _=>v=.bl true) λ_ _ _=>False)
 (hCX:∀H e s',CX [] H f (λ_ _ _=>False) e s'->False):
 codeAny (model P w) callerA (.call (.ref fa) ⟨[.ref a],[]⟩) (λr s'=>r=.ok (.ret (.bool true))/\OldK f.heap s'.heap/\s'.os=f.os/\AllBare s'.gens) f:=by
 have rv:=qy hi;have U:=hi.length
 -- from an N heap in which S but the C and the tables may be O
 have core:∀H:Hp,Gc T H->SqL K H a (ns.map V.int)->HOk P w H f.heap->(∀b,H b≠none->b=a\/∃p∈T,p.1=b)->(H a≠none->K.lookup a=none)->
  codeAny (model P w) callerA (.call (.ref fa) ⟨[.ref a],[]⟩) (λr s'=>r=.ok (.ret (.bool true))/\OldK f.heap s'.heap/\s'.os=f.os/\AllBare s'.gens) f:=by
  intro H hO hS hok hA hK;have g:∀{b:Addr} {o:Obj},f.heap.get? b=some o->H b=none->(o0 f.heap H).get? b=some o:=λe n=>E9 e n
  have noB:∀{b:Addr} {o:Obj},f.heap.get? b=some o->o≠{cls:=.type "list",data:=.seq vs.toArray}->o≠PySem.W.tabObj #[]->H b=none:=λ{b o} e d1 d2=>by
   cases q:H b with
   |none=>rfl
   |some u=>
     rcases hA b (by rw[q];simp) with j | ⟨p,hp,j⟩
     ·subst j;rw[M]at e;exact absurd (T2 e).symm d1
     ·subst j;obtain⟨_,_,e2⟩:=hT p hp;rw[e2]at e;exact absurd (T2 e).symm d2
  have noA:∀{b:Addr} {o:Obj} {es:Array DictEntry} {ep:Nat},f.heap.get? b=some o->o.data=.dict es ep->H b=none:=λ{b o es ep} e d=>
   noB e (λz=>by rw[z]at d;cases d) (λz=>by rw[z]at d;cases d)
  have D:∀{b:Addr} {m:Str->Option Value},f.heap.Ns b m->(o0 f.heap H).Ns b m:=λ{b m} ⟨o,es,ep,e,d,r⟩=>⟨o,es,ep,g e (noA e d),d,r⟩
  have hKb:K.In (o0 f.heap H):=λb o e=>g (KX b o e) (by
   cases q:H b with
   |none=>rfl
   |some u=>
     rcases hA b (by rw[q];simp) with j | ⟨p,hp,j⟩
     ·subst j;rw[hK (by rw[q];simp)]at e;cases e
     · subst j
       rw[hTK p hp]at e;cases e)
  have Z:∃bm ob,mg "__builtins__" = some (.ref bm)/\bm≠builtinsNs/\(o0 f.heap H).get? bm=some ob/\ob.cls=.type "module" /\ ob.dict=some builtinsNs/\ob.data=.plain:=by
   obtain⟨bm,ob,h1,h2,h3,h4,h5,h6⟩:=hbm;exact⟨bm,ob,h1,h2,g h3 (noB h3 (λz=>by rw[z]at h6;cases h6) λz=>by rw[z]at h6;cases h6),h4,h5,h6⟩
  have hcd:∀c P,PySem.W.CodeHd f.heap c P->PySem.W.CodeHd (o0 f.heap H) c P:=λc P h=>by
   obtain⟨o,vs',file,tf,J,tg,QU,Q,tt,e,A,r⟩:=h;exact⟨o,vs',file,tf,J,tg,QU,Q,tt,g e (noB e (λz=>by rw[z]at A;simp at A) λz=>by rw[z]at A;simp at A),A,r⟩
  have hM:Mod K mg (o0 f.heap H):=⟨hKb,D X,⟨mb,D i,hbb⟩,(let ⟨mc,h1,h2⟩:=Y;⟨mc,D h1,h2⟩),Z⟩;have e0:Env0 P w K mg (o0 f.heap H) callerA [] f H:=⟨rfl,hM,λb o e=>Hi e,Nat.le_of_eq (A7 _ _),trivial,λb i=>absurd (show b∈([]:List Addr) from i) (by simp),hok,.of_eq hg⟩;refine VR ((F _ hKb (D X) hcd).run callerA [] f H ⟨[.ref a],[]⟩ [.ref a] [.ref a] _ _ hr e0 (I f (.ref a)) (.cons rfl .nil) (hsp H hO hS)) λr s' h=>?_;cases r with
  |error e=>exact(hCX H e s' h).elim
  |ok fl=>
    cases fl with
    |next=>exact False.elim h
    |brk=>exact False.elim h
    |cont=>exact False.elim h
    |ret u=>
      obtain⟨v,H',os,bare,un,E,r',q⟩:=h;have q':v=.bl true:=q;subst q';obtain rfl:u=Value.bool true:=r';refine⟨rfl,⟨λb o e=>?_,λb o e=>un.there b o e (by simp)⟩,os,bare⟩;cases q:H b with
      |none=>exact .inl (un.keep b o e q (by intro z;exact absurd (show b∈([]:List Addr) from z) (by simp)) (by simp))
      |some u=>
        rcases hO.2 b with z|⟨ob,xs,z⟩|z
        ·rw[q]at z;cases z
        ·have z2:=un.frzs b ob _ z;obtain⟨e1,_⟩:=hok b _ z;obtain⟨e2,_⟩:=E b _ z2;rw[e]at e1;cases e1;exact .inl e2
        · have z2:=(un.tbls b _ z).1;obtain⟨_,ps,e2,_⟩:=E b _ z2
          have hb':∃p∈T,p.1=b:=by
           rcases hA b (by rw[q];simp) with j | j
           ·subst j;obtain⟨_,ps',l,_⟩:=hok b _ z;rw[M]at l;cases l
           ·exact j
          obtain⟨p,hp,j⟩:=hb';obtain⟨c,A,l⟩:=hT p hp;rw[j]at l A;rw[e]at l;cases l;refine .inr (.inl ⟨(A.tab (ps:=#[]) e).isCodeTable,rfl,#[],ps,rfl,?_⟩);rw[e2];simp
 have t:∀(H:Hp) (b:Addr),(∃p∈T,p.1=b)->ObjOk P w H f.heap b (.tbl (T.at b)):=λH b ⟨p,hp,e⟩=>by
  obtain⟨c,A,l⟩:=hT p hp;rw[e]at l;exact⟨λy hy z hz h1 h2=>hTo _ (Tbs.mem.mp hy) _ (Tbs.mem.mp hz) h1 h2,#[],l,trivial,λy hy=>.inl rfl⟩
 have G:∀p∈T,p.1≠a:=λp hp z=>by
  obtain⟨c,A,l⟩:=hT p hp;rw[z,M]at l;cases l
 cases hk:K.lookup a with
 |some o=>
   -- the C is one of the L own R
   have e:=KX a o hk;rw[M]at e;cases e;have hTa:¬ ∃p∈T,p.1=a:=λ⟨p,hp,z⟩=>G p hp z;have dec:∀b,Decidable (∃p∈T,p.1=b):=λb=>Classical.propDecidable _;refine core (λb=>if ∃p∈T,p.1=b then some (.tbl (T.at b)) else none) ⟨λp hp=>Tq ⟨p,hp,rfl⟩,λb=>?_⟩ (.inr ⟨_,vs.toArray,_,hk,rfl,rfl,rfl,by rw[TN,U];exact hl,by simpa using rv⟩) (λb u z=>?_) (λb z=>?_) λz=>absurd (on hTa) z
   · by_cases h:∃p∈T,p.1=b
     ·exact .inr (.inr (Tq h))
     ·exact .inl (on h)
   · by_cases h:∃p∈T,p.1=b
     ·have B:=(Tq h).symm.trans z;cases B;exact t _ b h
     ·have B:=(on h).symm.trans z;cases B
   · by_cases h:∃p∈T,p.1=b
     ·exact .inr h
     ·exact absurd (on h) z
 |none=>
   have dec:∀b,Decidable (∃p∈T,p.1=b):=λb=>Classical.propDecidable _;have hTa:∀{b},(∃p∈T,p.1=b)->b≠a:=λ⟨p,hp,z⟩ e=>G p hp (z.trans e);refine core (λb=>if b=a then some (.frz {cls:=.type "list",data:=.seq vs.toArray} (.lst (ns.map V.int))) else if ∃p∈T,p.1=b then some (.tbl (T.at b)) else none) ⟨λp hp=>(on (G p hp)).trans (Tq ⟨p,hp,rfl⟩),λb=>?_⟩ (.inl (.inr ⟨{cls:=.type "list",data:=.seq vs.toArray},Tq rfl⟩)) (λb u z=>?_) (λb z=>?_) λ_=>hk
   · by_cases i:b=a
     ·exact .inr (.inl ⟨_,_,Tq i⟩)
     · by_cases h:∃p∈T,p.1=b
       ·exact .inr (.inr ((on i).trans (Tq h)))
       ·exact .inl ((on i).trans (on h))
   · by_cases i:b=a
     ·have B:=(Tq i).symm.trans z;cases B;subst i;exact⟨M,by rw[Tv];exact hl,vs,_,rv,M⟩
     · by_cases h:∃p∈T,p.1=b
       ·have B:=((on i).trans (Tq h)).symm.trans z;cases B;exact t _ b h
       ·have B:=((on i).trans (on h)).symm.trans z;cases B
   · by_cases i:b=a
     ·exact .inl i
     · by_cases h:∃p∈T,p.1=b
       ·exact .inr h
       ·exact absurd ((on i).trans (on h)) z
abbrev Tns:=List (Str×Pos×Str)
structure TabsOf (mg:Str->Option Value) (h:Heap) (N:Tns) (T:Tbs):Prop where
 all:∀n∈N,∃P,(P,n.2)∈T/\∃a o fd c,mg n.1=some (.ref a)/\h.get? a=some o/\o.data=.func fd/\fd.code=.ref c/\PySem.W.CodeHd h c P
theorem qz{p:Program}{loose:List Str}{b:ExcName->Option Value}{mg s:Str->Option Value}{h:Heap}(l:PyProof.Rows.Top p loose b mg s h):∀(N:Tns),(∀n∈N,n.1∈(PyProof.Rows.recsOf p).map (·.name))->
 ∃T:Tbs,TabsOf mg h N T/\(∀q∈T,∃c,PySem.W.CodeHd h c q.1/\h.get? q.1=some (PySem.W.tabObj #[]))/\∀q∈T,∃n∈N,n.2=q.2
 |[],_=>⟨[],⟨λ_ h=>nomatch h⟩,λ_ h=>(nomatch h),λ_ h=>(nomatch h)⟩
 | n::N,j=>by
   obtain⟨T,w,v,u⟩:=qz l N λm f=>j m (Tt _ f);obtain⟨d,hd,e⟩:=T9.mp (j n Tu);obtain⟨a,o,fd,c,P,e1,B,A,y,x,k⟩:=l.tab d hd;have i:=PySem.W.CodeHd.of x k;refine⟨(P,n.2)::T,⟨λm f=>?_⟩,λq g=>?_,λq g=>?_⟩
   · rcases Tz.mp f with z|z
     ·subst z;exact⟨P,Tu,a,o,fd,c,by rw[<-e];exact e1,B,A,y,i⟩
     ·obtain⟨C,t,r⟩:=w.all m z;exact⟨C,Tt _ t,r⟩
   · rcases Tz.mp g with z|z
     ·subst z;exact⟨c,i,k.2⟩
     ·exact v q z
   · rcases Tz.mp g with z|z
     ·subst z;exact⟨n,Tu,rfl⟩
     ·obtain⟨m,f,e⟩:=u q z;exact⟨m,Tt _ f,e⟩
def Tns.ok(N:Tns):Prop:=∀y∈N,∀z∈N,y.2.1.line=z.2.1.line->y.2.1.col=z.2.1.col->y.2.2=z.2.2
def DR(K:F0):Bool:=K.all λp=>match p.2.cls,p.2.data with
 |.none,.fields vs=>!vs.isEmpty
 |_,_=>true
theorem oI{W:Type}:∀{K:List (Nat×W)} {b:Nat} {o:W},K.lookup b=some o->(b,o)∈K
 | (c,x)::r,b,o,h=>by
   rw[Ud]at h;by_cases z:b=c
   ·subst z;rw[UX]at h;cases h;exact Tu
   ·rw[beq_false_of_ne z]at h;exact Tt _ (oI h)
theorem qk{K:F0}{h:Heap}{b:Addr}(X:K.In h)(c:DR K=true)(e:h.get? b=some (PySem.W.tabObj #[])):K.lookup b=none:=by
 cases q:K.lookup b with
 |none=>rfl
 |some o=>
   have a:=X b o q;rw[e]at a;cases a
   have:=UY.mp c (b,PySem.W.tabObj #[]) (oI q)
   cases this
theorem Gn{l:PySem.W.OpenLaw}{n k:Nat}{q:Program}{loose:List Str}{XP:(Str->Option Value)->Heap->Prop}{Z:World->Heap->Prop}{d:DefRec}{K:Params->F0}{CX:World->ym}{sp:World->Tbs->Sp}{x:Str}(N:Tns)
 (hn:l.most=some n) (E:n<=sizeLine) (M:d.params.defaults=[]) (hr:Room k callerA)
 (hY:∀(w:World) (h:Heap),Z w h->(K w.params).In h) (hK:∀w:World,N≠[]->DR (K w.params)=true) (hN:∀n∈N,n.1∈(PyProof.Rows.recsOf q).map (·.name)) (Q:Tns.ok N)
 (F:∀(w:World) (mg:Str->Option Value) (C:Addr) (h:Heap) (T:Tbs),(K w.params).In h->h.Ns mainGlobals mg->mg d.name=some (.ref C)->TabsOf mg h N T->
   ∃fd:FuncData,(∀(s:Shared) (u:Value),BindsTo s fd ⟨[u],[]⟩ [(x,u)])/\
    ∀base:Heap,(K w.params).In base->base.Ns mainGlobals mg->(∀c P,PySem.W.CodeHd h c P->PySem.W.CodeHd base c P)->FnOk l.prog w (K w.params) mg base (CX w) k C fd [x] (sp w T))
 (D:∀(w:World) (T:Tbs) (H:Hp) (a:Addr) (ns:List Int),ns.length<=n->Gc T H->SqL (K w.params) H a (ns.map V.int)->sp w T [.ref a] H (λv _=>v=.bl true) λ_ _ _=>False)
 (R:∀(w:World) (H:Hp) (s:Shared) (e:Value) (s':Shared),CX w [] H s (λ_ _ _=>False) e s'->False):
 PySem.W.WalkO q loose XP Z l.row.toRowW d [] (λf vs=>PySem.call f vs):=by
 refine Att.wm hn M λw s₀ t mg mb C o pm cd doc a vs ns G Y ho hd hcd I A j i hg=>?_;have U:=hY w _ Y;obtain⟨T,O,B,r⟩:=qz G.T N hN;obtain⟨fd,hb,hF⟩:=F w mg C _ T U G.T.g I O;refine EW (T:=T) U G.T.g G.T.b G.T.builtins G.T.nolimit hg G.T.bmain B (λp hp=>?_) (λy hy z hz h1 h2=>?_) A j (Uk i E) hr hF hb (λH hO hS=>D w T H a ns i hO hS) λH e s'=>R w H t e s'
 ·obtain⟨c,_,e⟩:=B p hp;obtain⟨m,X,_⟩:=r p hp;exact qk U (hK w (λz=>by rw[z]at X;cases X)) e
 ·obtain⟨m1,L,e1⟩:=r y hy;obtain⟨m2,J,S⟩:=r z hz;rw[<-e1,<-S];exact Q m1 L m2 J (by rw[e1];exact h1 |>.trans (by rw[S])) (by rw[e1];exact h2 |>.trans (by rw[S]))
def bo(s:Stmt)(j:Nat):Stmt:=match s with
 |.ClassDef _ _ _ body _ _ _ _ _ _ _=>body.getD j (.Pass ⟨0,0,0,0⟩)
 |_=> .Pass ⟨0,0,0,0⟩
def kP(s:Stmt):Arguments:=match s with
 |.FunctionDef _ a _ _ _ _ _ _ _ _=>a
 |_=>{posonlyargs:=[],args:=[],vararg:=none,kwonlyargs:=[],kw_defaults:=[],kwarg:=none,defaults:=[]}
def eC(s:Stmt):List Stmt:=match s with
 |.FunctionDef _ _ b _ _ _ _ _ _ _=>b
 |_=>[]
def am(s:Stmt):Scope:=match s with
 |.FunctionDef _ _ _ _ _ _ sc _ _ _=>sc
 |_=>{kind:=.function,names:=[],isGenerator:=false,isCoroutine:=false}
abbrev To:ym:=λ_ _ _ _ _ _=>False
abbrev E0:XK:=λ_ _ _=>False
structure Fun (K:F0) (x qual:Str) (st:Stmt) (f:Addr) (fd:FuncData):Prop where
 ex:∃(oc:Value) (od:Option Addr) (kV doc pm:Value) (an:Option Addr) (cdv ct:Value) (osl:Array (Option Value)),
  fd=PySem.W.fnOf x qual (kP st) (eC st) (am st) .none kV doc pm an cdv ct/\K.lookup f=some ⟨oc,od,.func fd,osl⟩/\PySem.W.codeIn K cdv qual=true
 kp:PySem.W.keepIn K (.ref f)=true
section
variable{P:Program}{w:World}{K:F0}{mg:Str->Option Value}{base:Heap}
theorem Fun.binds{x qual:Str}{st:Stmt}{f:Addr}{fd:FuncData}{ps:List Str}(F:Fun K x qual st f fd)
 (h:∀(kV a pm:Value) (an:Option Addr) (b ct:Value) (us:List Value),us.length=ps.length->bindArgs (PySem.W.fnOf x qual (kP st) (eC st) (am st) .none kV a pm an b ct) ⟨us,[]⟩=pure (ps.zip us)):Binds K fd ps []:=by
 obtain⟨oc,e,kV,a,pm,an,b,ct,c,rfl,lk,d⟩:=F.ex;exact .all (h kV a pm an b ct)
theorem Np{x qual:Str}{st:Stmt}{f:Addr}{oc:Value}{e an:Option Addr}{d:Array (Option Value)}{kV b pm a ct:Value}(l:K.lookup f=some ⟨oc,e,.func (PySem.W.fnOf x qual (kP st) (eC st) (am st) .none kV b pm an a ct),d⟩)
 (c:PySem.W.codeIn K a qual=true) (k:PySem.W.keepIn K (.ref f)=true):Fun K x qual st f (PySem.W.fnOf x qual (kP st) (eC st) (am st) .none kV b pm an a ct):=⟨⟨oc,e,kV,b,pm,an,a,ct,d,rfl,l,c⟩,k⟩
end
theorem iw{A:Around}{k:Nat}(a:Room k A):A.units+1<cLine:=U5 (Nat.add_le_add_left (by decide:1<=64) _) a.units
theorem Av{n:Nat}(h:n<=1000):n<sizeLine:=U5 h (by decide)
section
variable{X:Cx}
theorem pv(i:Nat){x:Str}{pos:Pos}(c:X.N[i]?=some x:=by rfl)(b:Te X.env.scope x:=by first | exact Or.inl rfl | exact Or.inr (Or.inl rfl) | exact Or.inr (Or.inr rfl))(hd:(x == ("__debug__" : Str))=false:=by decide)
 (a:(x==("__classdict__" : Str))=false:=by decide):PE X (.Name x pos) (cR i):=LJ c b hd a
end
def Same(H H':Hp):Prop:=∀b o,H b=some o->H' b=some o
theorem Same.refl(H:Hp):Same H H:=λ_ _ h=>h
theorem Same.trans{H H1 d:Hp}(a:Same H H1)(b:Same H1 d):Same H d:=λc o h=>b c o (a c o h)
theorem Same.free{H H':Hp}(e:Same H H'){l:Addr}(h:H' l=Option.none):H l=Option.none:=by
 cases q:H l with
 |none=>rfl
 |some o=>
   rw[e l o q]at h;cases h
def cM(env:Env):List (Str×NameKind)->List (Str×Addr)->List (Str×Addr)
 |[],acc=>acc
 |(n,k)::r,acc=>if (k==NameKind.free)=true then cM env r ((n,(env.cells.lookup n).getD 0)::acc) else cM env r acc
theorem ic{env:Env}{y:Str}{c:Addr}:∀{l:List (Str×NameKind)} {acc:List (Str×Addr)},(∀z∈l,z.2=.free->∃c,env.cells.lookup z.1=some c)->(cM env l acc).lookup y=some c->
 acc.lookup y=some c\/env.cells.lookup y=some c
 |[],acc,_,h=>.inl h
 | (n,k)::r,acc,a,h=>by
   unfold cM at h;split at h
   · rename_i d;rcases ic (λz hz=>a z (Tt _ hz)) h with e|e
     · by_cases q:(y==n)=true
       · have f:y=n:=by simpa using q
         subst f;obtain⟨g,b⟩:=a (y,k) List.mem_cons_self (by simpa using d);dsimp only at b;rw[List.lookup_cons,beq_self_eq_true,b]at e;exact .inr (b.trans e)
       ·rw[Bool.not_eq_true]at q;rw[Ud,q]at e;exact .inl e
     ·exact .inr e
   ·exact ic (λz hz=>a z (Tt _ hz)) h
theorem ie{env:Env}{y:Str}:∀{l:List (Str×NameKind)} {acc:List (Str×Addr)},((y,NameKind.free)∈l\/∃c,acc.lookup y=some c)->∃c,(cM env l acc).lookup y=some c
 | [],acc,h=>by
   rcases h with h|h
   ·cases h
   ·exact h
 | (n,k)::r,acc,h=>by
   unfold cM;split
   · rename_i a;refine ie ?_;by_cases q:(y==n)=true
     ·exact .inr ⟨_,by rw[Ud,q]⟩
     · rw[Bool.not_eq_true]at q;rcases h with h|⟨c,h⟩
       · rcases Tz.mp h with e|e
         ·cases e;rw[UX]at q;cases q
         ·exact .inl e
       ·exact .inr ⟨c,by rw[Ud,q];exact h⟩
   · rename_i a;refine ie ?_;rcases h with h|h
     · rcases Tz.mp h with e|e
       ·cases e;exact absurd (by rfl) a
       ·exact .inl e
     ·exact .inr h
theorem iK{scope:Scope}{env:Env}{y:Str}{k:NameKind}(h:(relabel scope env).names.lookup y=some k):∃k',(y,k')∈scope.names/\(k'=k\/(k'= .free/\k=.cell)):=by
 obtain⟨⟨n,k0⟩,a,e⟩:=List.mem_map.mp (PySem.mem_of_lookup h);dsimp only at e;split at e
 ·rename_i b;simp only[VD,VY]at b;cases e;exact⟨k0,a,.inr ⟨b.1.1,rfl⟩⟩
 ·cases e;exact⟨_,a,.inl rfl⟩
structure CompSc (osc sc:Scope) (x:Str) (cs:List Str):Prop where
 kind:sc.kind=.function
 cell:∀y∈sc.names,y.2≠ .cell
 loc:∀y∈sc.names,y.2=.local->sc.names.lookup y.1=some .local
 var:sc.names.lookup x=some .local
 cap:∀y∈cs,(osc.names.lookup y=some .cell\/osc.names.lookup y=some .free)/\sc.names.lookup y=some .free
 free:∀y∈sc.names,y.2=.free->osc.names.lookup y.1=some .cell\/osc.names.lookup y.1=some .free
 nd:(x::cs).Nodup
def lR(X:Cx)(scope:Scope)(b:List (Str×Addr))(C:Addr)(N:List Str)(a:List Addr)(s₀:Shared)(H₀:Hp):Cx where
 prog:=X.prog
 w:=X.w
 K:=X.K
 mg:=X.mg
 base:=X.base
 A:=X.A
 N:=N
 s₀:=s₀
 H₀:=H₀
 env:=compEnvC scope b C X.env
 outer:=X.stack
 stack:=X.stack
 ex:=a
 fn:=λ_=>false
 calm:=X.calm
 pn:=[]
 xe:=λ_ _=>False
def iE(Z:St)(ix:List Nat):St:=ix.map λj=>(Z[j]?).join
section
variable{X:Cx}{pins:L0}{Z:St}{H:Hp}{s:Shared}{scope:Scope}{x:Str}{cs:List Str}{ix:List Nat}{fp:List Addr}
theorem v4(I:Inv X pins Z H s)(a:CompSc X.env.scope scope x cs):∀y∈scope.names,y.2=.free->∃c,X.env.cells.lookup y.1=some c:=λy b d=>I.ok.has _ (a.free y b d)
theorem E6{g:Heap}{t₁:Nat}{U:Str->Option Value}(I:Inv X pins Z H s)(n:CompSc X.env.scope scope x cs)(D:ix.map (λi=>X.N[i]?)=cs.map some)(K:∀b∈fp,p7 X pins H b)
 (P:∀b∈fp,b<s.heap.objs.size) (hn:g.Ns s.heap.objs.size U) (J:∀b o,s.heap.get? b=some o->g.get? b=some o):
 Inv (lR X scope (cM X.env scope.names []) s.heap.objs.size (x::cs) fp s H) [] (none::iE Z ix) H {s with heap:=g,toks:=t₁}:=by
 have T:=v4 I n
 have d:∀y c,(cM X.env scope.names []).lookup y=some c->X.env.cells.lookup y=some c:=λy c e=>by
  rcases ic T e with z|z
  ·cases z
  ·exact z
 have t:ix.length=cs.length:=by
  have:=congrArg List.length D
  rwa [Tv,Tv]at this
 refine⟨⟨I.ok.mod,n.kind,I.ok.glob,I.ok.blt,TM _,λy z c R E=>I.ok.inj y z c (d y c R) (d z c E),λy hy=>?_,λy c h=>(nomatch h),I.ok.hd,I.ok.frames,.inl rfl,λb A=>⟨T8 (P b A),λy c e=>(K b A).2.2.2.2.1 y c (d y c e)⟩,
  I.bs,Uk I.ok.bsz I.sz,λb o e A=>?_,λb A Q=>?_,I.stack,I.stkFree⟩,rfl,I.bare,Un.kept J,⟨U,hn,λi y v R E h3=>?_⟩,λy c e=>?_,I.hok.fresh (TM _),λy c e=>I.freeC y c (d y c e),λp hp=>absurd (show p∈([]:L0) from hp) (by simp),I.hok.kept J,?_⟩
 · have M:(relabel scope X.env).names.lookup y=some .cell\/(relabel scope X.env).names.lookup y=some .free:=hy
   have:(y,NameKind.free)∈scope.names:=by
    rcases M with q|q
    · obtain⟨k',B,e|⟨e,_⟩⟩:=iK q
      ·subst e;exact absurd rfl (n.cell _ B)
      ·subst e;exact B
    · obtain⟨k',B,e|⟨_,e⟩⟩:=iK q
      ·subst e;exact B
      ·cases e
   exact ie (.inl this)
 · rcases(K b A).2.2.2.1 with z|z
   ·exact I.ok.noex b o e z
   ·exact absurd (T1 (TH e) (Uk I.ok.bsz z)) (Uy _)
 · rcases Tz.mp (I.stkSub b Q) with z|z
   ·exact(K b A).2.1 z
   ·exact(K b A).2.2.1 z
 · -- a C name
   cases i with
   |zero=>
     have:(none::iE Z ix:St)[0]?=some none:=rfl
     rw[this]at E;cases E
   |succ j=>
     have F:cs[j]?=some y:=R;have f:(iE Z ix)[j]?=some (some v):=E;unfold iE at f;rw[List.getElem?_map]at f;cases S:ix[j]? with
     |none=>rw[S]at f;cases f
     |some k=>
       rw[S]at f;have L:(Z[k]?).join=some v:=T2 f
       have h5:Z[k]?=some (some v):=by
        cases e:Z[k]? with
        |none=>rw[e]at L;cases L
        |some w=>rw[e]at L;exact congrArg some L
       have h6:X.N[k]?=some y:=by
        have q:=congrArg (λl=>l[j]?) D;simp only[Ue,S,F,Vt]at q;exact T2 q
       obtain⟨c1,Y⟩:=n.cap y (Ux F);obtain⟨m,hn',hl⟩:=I.loc;obtain⟨u,r,l⟩:=hl k y v h6 h5 (c1.elim (λz=>.inr (.inl z)) λz=>.inr (.inr z));refine⟨u,r,?_⟩;rcases l with ⟨l,_⟩|⟨_,c,ec,hc⟩
       ·have V:X.env.scope.names.lookup y=some .local:=l;rcases c1 with z|z<;>(rw[z]at V;cases V)
       · obtain⟨c',G⟩:=ie (env:=X.env) (y:=y) (l:=scope.names) (acc:=[]) (.inl (US Y));have W:=d y c' G;rw[ec]at W;cases W;refine .inr ⟨?_,c,G,?_⟩
         · rcases h3 with z|z|z
           · have z':(relabel scope X.env).names.lookup y=some .local:=z;obtain ⟨k',B,e | ⟨_,e⟩⟩:=iK z'
             · subst e
               have:=n.loc _ B rfl
               dsimp only at this;rw[Y]at this;cases this
             ·cases e
           ·exact .inl z
           ·exact .inr z
         ·obtain⟨o,O,hd⟩:=hc;exact⟨o,J c o O,hd⟩
 ·obtain⟨v,o,O,hd⟩:=I.cell y c (d y c e);exact⟨v,o,J c o O,hd⟩
 ·show(none::iE Z ix:St).length=(x::cs).length;rw[TD,TD,iE,Tv,t]
end
def R9(X:Cx)(b:List Expr)(t:TT):Prop:=
 ∀(a:L0) (s:Shared) (Z:St) (H:Hp) (Q:Bool->Hp->Prop),Inv X a Z H s->t Z H Q->
  wpAny (model X.prog X.w) X.A (forIn b true λc r=>if r=true then do let ok <-isTrue c X.env (eval c X.env);pure (ForInStep.yield ok) else pure (ForInStep.yield r)) (TP X a Z Q) X.xe s
def OG:TT:=λ_ H Q=>Q true H
theorem kh{X:Cx}:R9 X [] OG:=λ_ _ _ H _ I h=>wpAny_tests_nil ⟨H,I,h⟩
theorem yU{X:Cx}{c:Expr}{t:TT}(h:PT X c t):R9 X [c] t:=λa s Z H Q I b=>wpAny_tests_one (h a s Z H Q I b)
section
variable{prog:Program}{w:World}{A:Around}{R:Result->Shared->Prop}{s:Shared}
theorem vZ{o a iter:Expr}{k:List Expr}{scope:Scope}{pos:Pos}{B acc:Value}{env:Env}(I:Nat->Shared->Prop)
 (p:∀n s,I n s->wpAny (model prog w) A (pyNext B) (λr b=>match r with
   |none=>R (.ok .next) b
   |some v=>wpAny (model prog w) A (letOwnedTupleGo a B v) (λ_ b=>wpAny (model prog w) A (assign a env v) (λ_ g=>
      wpAny (model prog w) A (forIn k true λc r=>if r=true then do let ok <-isTrue c env (eval c env);pure (ForInStep.yield ok) else pure (ForInStep.yield r)) (λok d=>
       if ok=true then wpAny (model prog w) A (eval o env) (λx f=>
        wpAny (model prog w) A (call (.builtin "list.append") [acc,x]) (λ_ e=>∃m,m<n/\I m e) (λ_ _=>False) f) (λ_ _=>False) d
       else ∃m,m<n/\I m d) (λ_ _=>False) g) (λ_ _=>False) b) (λ_ _=>False) b) (λ_ _=>False) s)
 (n:Nat) (h:I n s):codeAny (model prog w) A (.compLoop (.ListComp o [⟨a,iter,k,0⟩] scope pos) 0 B acc env) R s:=by
 refine codeAny_loop rfl I (λn s D=>?_) n h;have up:∀{W:Type} {t:Sem W} {Q:W->Shared->Prop} {E:L1} {s:Shared},wpAny (model prog w) A t Q (λ_ _=>False) s->wpAny (model prog w) A t Q E s:=λh=>Ve h (λ_ _ z=>z) λ_ _ z=>z.elim;show wpAny _ A ((compTurn (.ListComp o [⟨a,iter,k,0⟩] scope pos) 0 B acc env).onRaise _) _ _ s;refine wpAny_noted (up ?_);rw[compTurn_list];refine Ts (wpAny_standAt (Ts (bE (p n s D) λr b j=>?_)));cases r with
 |none=>exact TF j
 |some v=>
   refine Ts (bE j λ_ C l=>Ts (bE l λ_ g y=>Ts (bE y λok d i=>?_)));cases ok with
   |false=>exact TF ⟨rfl,i⟩
   |true=>exact Ts (Ts (bE i λx f u=>Ts (bE u λ_ e q=>TF (TF ⟨rfl,q⟩))))
end
def Ge(J:It)(τ:V->St)(h:TT)(te:TE)(p:Addr)(H1:Hp)(Q:VK):Prop:=
 ∃W:Nat->Nat->List V->Hp->Prop,(∃m,W 0 m [] (upd H1 p (.lst [])))/\∀i m a c,W i m a c->c p=some (.lst a)/\a.length<sizeLine/\
  ((J.stop i c/\Q (.ref p) c)\/(J.go i c/\∀v g,J.yld i c v g->h (τ v) g λb f=>if b=true then te (τ v) f λy e=>e p=some (.lst a)/\∃d,d<m/\W (i+1) d (a++[y]) (upd e p (.lst (a++[y])))
    else ∃d,d<m/\W (i+1) d a f))
def nF(a:TI)(ix:List Nat)(b:TT)(te:TE):TE:=λZ H Q=>a Z H λJ H1=>∀p,H1 p=none->Ge J (λv=>some v::iE Z ix) b te p H1 Q
section
variable{X:Cx}{pins:L0}{Z:St}{H:Hp}{s:Shared}{scope:Scope}{x:Str}{px pos:Pos}{cs:List Str}{ix:List Nat}{fp:List Addr}{elt iter:Expr}{ifs:List Expr}{ti:TT}{te:TE}
theorem xM{J:It}{it:Addr}{Q:Nat->Heap->Prop}{Qe:VK}{RR:Value->Addr->Result->Shared->Prop}{E:L1}(O:X.calm=true)(I2:Inv X pins Z H s)(f:CompSc X.env.scope scope x cs)(hix:ix.map (λi=>X.N[i]?)=cs.map some)
 (T:Turn X.prog X.w X.K (.Name x px) J fp it Q) (st0:Q 0 s.heap) (t:∀b∈fp,p7 X pins H b)
 (hti:∀C fp s₀ H₀,R9 (lR X scope (cM X.env scope.names []) C (x::cs) fp s₀ H₀) ifs ti) (hte:∀C fp s₀ H₀,PE (lR X scope (cM X.env scope.names []) C (x::cs) fp s₀ H₀) elt te)
 (hW:∀p,H p=none->Ge J (λv=>some v::iE Z ix) ti te p H Qe)
 (hRR:∀p C H' s',Inv X pins Z H' s'->p7 X pins H' C->(∃m,s'.heap.Ns C m)->Qe (.ref p) H'->RR (.ref p) C (.ok .next) s'):
 wpAny (model X.prog X.w) X.A (newList []) (λacc S=>wpAny (model X.prog X.w) X.A (newFunctionEnv scope X.env.globals (cM X.env scope.names []) [] X.env.qual none .none (some X.env)) (λG R=>
  codeAny (model X.prog X.w) X.A (.compStart (.ListComp elt [⟨.Name x px,iter,ifs,0⟩] scope pos) 0 (.ref it) acc { G with scope:=relabel scope X.env }) (RR acc G.locals) R) E S) E s:=by
 refine wpAny_newObj_type (wpAny_newFunctionEnv f.cell (by intro y hy;simp at hy) (λg j h=>?_) f.kind);dsimp only at j h ⊢;have hD:H s.heap.objs.size=none:=I2.hok.fresh (Nat.le_refl _)
 have I3:Inv X pins Z (upd H s.heap.objs.size (.lst [])) {s with heap:=s.heap.push {cls:=.type "list",dict:=none,data:=.seq ([]:List Value).toArray}}:=
  I2.laid (t':=s.toks) (λb u e=>Tx _ e) (TM _) ⟨UN _,[],0,.nil,TZ _ rfl⟩
 obtain⟨W,⟨m0,w0⟩,P⟩:=hW _ hD
 have F:∀b∈fp,b<s.heap.objs.size:=λb a=>by
  obtain⟨o,e,_⟩:=T.obj 0 _ st0 b a;exact TH e
 have hlt:∀b∈fp,b<(s.heap.push {cls:=.type "list",dict:=none,data:=.seq ([]:List Value).toArray}).objs.size:=λb a=>by
  rw[VB];exact Wj (F b a)
 have hf3:∀b∈fp,p7 X pins (upd H s.heap.objs.size (.lst [])) b:=λb a=>⟨by rw[ay (T8 (F b a))];exact(t b a).1,(t b a).2⟩
 have kept:∀b o,(s.heap.push {cls:=.type "list",dict:=none,data:=.seq ([]:List Value).toArray}).get? b=some o->g.get? b=some o:=λb o e=>
  h.extBut b o (T8 (TH e)) (Tx _ e)
 have M:∀b o,s.heap.get? b=some o->g.get? b=some o:=λb o e=>kept b o (Tx _ e);have I4:=E6 (t₁:=s.toks+([]:List (Str×Value)).length) I3 f hix hf3 hlt j kept;have st4:Q 0 g:=T.keep 0 _ _ st0 λb _ o e=>M b o e
 have D:codeAny (model X.prog X.w) X.A (.compLoop (.ListComp elt [⟨.Name x px,iter,ifs,0⟩] scope pos) 0 (.ref it) (.ref s.heap.objs.size) (compEnvC scope (cM X.env scope.names []) (s.heap.push {cls:=.type "list",dict:=none,data:=.seq ([]:List Value).toArray}).objs.size X.env))
  (RR (.ref s.heap.objs.size) (s.heap.push {cls:=.type "list",dict:=none,data:=.seq ([]:List Value).toArray}).objs.size) {s with heap:=g,toks:=s.toks+([]:List (Str×Value)).length}:=by
  generalize k:lR X scope (cM X.env scope.names []) (s.heap.push {cls:=.type "list",dict:=none,data:=.seq ([]:List Value).toArray}).objs.size (x::cs) fp {s with heap:=s.heap.push {cls:=.type "list",dict:=none,data:=.seq ([]:List Value).toArray}} (upd H s.heap.objs.size (.lst []))=Y at I4;have hti':R9 Y ifs ti:=by rw[<-k];exact hti _ _ _ _
  have hte':PE Y elt te:=by rw[<-k];exact hte _ _ _ _
  have hcY:Y.calm=true:=by rw[<-k];exact O
  have hg:PG Y (.Name x px) (fc 0):=by
   rw [<-k];exact fk f.nd rfl (.inl (lookup_relabel_local f.var)) (.inr (lookup_relabel_local f.var))
  have f4:∀{H':Hp},(∀b∈fp,H' b=none)->∀b∈fp,p7 Y [] H' b:=λ{H'} hn b a=>by
   rw[<-k];refine⟨hn b a,T8 (hlt b a),λz=>?_,.inl a,λy c e z=>?_,λp hp=>absurd (show p∈([]:L0) from hp) (by simp)⟩
   · rcases Tz.mp (I3.stkSub b z) with q|q
     ·exact(t b a).2.1 q
     ·exact(t b a).2.2.1 q
   · rcases ic (v4 I2 f) e with q|q
     ·cases q
     ·exact(t b a).2.2.2.2.1 y c q z
  have fin:∀{B:Option V} {H':Hp} {s':Shared},Inv Y [] (B::iE Z ix) H' s'->Qe (.ref s.heap.objs.size) H'->RR (.ref s.heap.objs.size) (s.heap.push {cls:=.type "list",dict:=none,data:=.seq ([]:List Value).toArray}).objs.size (.ok .next) s':=λ{B H' s'} J q=>by
   rw[<-k]at J;have Ix:Inv X pins Z H' s':=I3.call' (ch:=fp) J.os J.base J.hok J.bare λb a=>⟨(t b a).2.2.2.1,(t b a).2.1,(t b a).2.2.2.2.1,(t b a).2.2.2.2.2⟩;refine hRR _ _ H' s' Ix (I3.fpOk (TM _) J.free) ?_ q;obtain⟨m,hm,_⟩:=J.loc;exact⟨m,hm⟩
  have eY:compEnvC scope (cM X.env scope.names []) (s.heap.push {cls:=.type "list",dict:=none,data:=.seq ([]:List Value).toArray}).objs.size X.env=Y.env:=by rw[<-k];rfl
  have eP:X.prog=Y.prog:=by rw[<-k];rfl
  have eW:X.w=Y.w:=by rw[<-k];rfl
  have eK:X.K=Y.K:=by rw[<-k];rfl
  have eA:X.A=Y.A:=by rw[<-k];rfl
  have eX:Y.xe=λ_ _=>False:=by rw[<-k];rfl
  rw[eP,eW,eK]at T;rw[eY,eP,eW,eA];refine vZ (λn s'=>∃i I B H',Inv Y [] (B::iE Z ix) H' s'/\Q i s'.heap/\(∀b∈fp,H' b=none)/\W i n I H') ?_ m0 ⟨0,[],none,_,I4,st4,λb a=>(hf3 b a).1,w0⟩;rintro n s' ⟨i,I,B,H',I',st',fr',w'⟩;obtain⟨hp,hlen,U⟩:=P i n I H' w';rcases U with ⟨stop,q⟩|⟨go,step⟩
  ·refine bE (T.done Y rfl rfl rfl hcY i [] s' (B::iE Z ix) H' (λ_ _=>False) I' (f4 fr') st' stop) λr s1 ⟨hr,I1⟩=>?_;subst hr;exact fin I1 q
  · refine bE (T.item Y rfl rfl rfl hcY i [] s' (B::iE Z ix) H' (λ_ _=>False) I' (f4 fr') st' go) λr s1 ⟨u,hr,h4⟩=>?_;subst hr;refine bE h4 λ_ s2 ⟨v,H2,J2,r2,y2,L,fr2⟩=>?_;have J2p:=J2.pinned (f4 fr2) (T.obj _ _ L)
    have again:∀{l:St} {H7:Hp} {s7:Shared},Inv Y ([]++n8 fp s2.heap) l H7 s7->Q (i+1) s7.heap/\∀b∈fp,H7 b=none:=λ{l H7 s7} I7=>by
     refine⟨T.keep _ _ _ L λb a o e=>(I7.pin (b,o) (Tw _ (Tw _ (gU a e)))).1,λb a=>?_⟩;obtain⟨o,e,d⟩:=T.obj _ _ L b a;exact(I7.pin (b,o) (Tw _ (Tw _ (gU a e)))).2.1
    have hga:=hg _ s2 (B::iE Z ix) H2 v u (λl H'=>l=some v::iE Z ix/\H'=H2) J2p r2 ⟨rfl,rfl⟩;rw[eX]at hga;refine bE hga λ_ s3 ⟨σ3,H3,J3,e3,e3'⟩=>?_;subst e3 e3';have htt:=hti' _ s3 _ H3 _ J3 (step v H3 y2);rw[eX]at htt;refine bE htt λb s4 ⟨H4,J4,q4⟩=>?_;cases b with
    |false=>
      rw[on TK]at q4 ⊢;obtain⟨m',hm,w4⟩:=q4;exact⟨m',hm,i+1,I,some v,H4,J4.unpinned,(again J4).1,(again J4).2,w4⟩
    |true=>
      rw[Tq rfl]at q4 ⊢;have hee:=hte' _ s4 _ H4 _ J4 q4;rw[eX]at hee;refine bE hee λy s5 ⟨yv,H5,J5,r5,hp5,m',hm,w5⟩=>?_;have hap:=jm (X:=Y) _ s5 _ H5 (.ref s.heap.objs.size) [yv] (.ref s.heap.objs.size) [y] (λ_ H6=>H6=upd H5 s.heap.objs.size (.lst (I++[yv]))) J5 rfl (.cons r5 .nil) ⟨_,I,yv,rfl,rfl,hp5,hlen,rfl⟩;rw[eX]at hap;refine bE hap λ_ s6 ⟨_,H6,J6,_,e6⟩=>?_;subst e6;exact⟨m',hm,i+1,I++[yv],some v,_,J6.unpinned,(again J6).1,(again J6).2,w5⟩
 exact codeAny_compStart_list D (T.self _ 0 _ _ _ st4 D)
theorem gR{n:TI}(c:X.calm=true)(hi:PI X (.Name x px) iter n)(a:CompSc X.env.scope scope x cs)(k:ix.map (λi=>X.N[i]?)=cs.map some)
 (f:∀C fp s₀ H₀,R9 (lR X scope (cM X.env scope.names []) C (x::cs) fp s₀ H₀) ifs ti) (g:∀C fp s₀ H₀,PE (lR X scope (cM X.env scope.names []) C (x::cs) fp s₀ H₀) elt te)
 (l:closureFor scope X.env=pure (cM X.env scope.names []):=by rfl) (t:∀x,foldedSetIterable iter X.env x=pure x:=by intro _;rfl):
 PE X (.ListComp elt [⟨.Name x px,iter,ifs,0⟩] scope pos) (nF n ix ti te):=by
 intro pins s Z H Q I h;rw[eval_ListComp];refine wpAny_comprehension_free (use:=none) rfl t l a.kind a.loc (bE (hi pins s Z H _ I h) λv S D=>bE D λr s2 B=>?_);obtain⟨U,fp,R,J,V,e,O,T,d,K,z⟩:=B;subst e;refine xM (RR:=λacc C=>compPost (model X.prog X.w) X.A X.xe none (EP X pins Z Q) acc C) c O a k T d K f g z ?_;rintro p C H' s' P ⟨M,L,_,G,F,E⟩ ⟨m,u⟩ q;exact⟨m,u,λh' j=>⟨.ref p,H',P.turned (t':=s'.toks) (λb o y e=>j.extBut b o y e) M L G F E,rfl,q⟩⟩
end
mutual
def Den(K:F0)(H:Hp):PyData->V->Prop
 |.none,v=>v=.non
 |.bool b,v=>v=.bl b
 |.int i,v=>v=.int i
 |.str x,v=>v=.str x
 |.list ds,v=>∃a xs,v=.ref a/\SqL K H a xs/\Dens K H ds xs
 |.tuple ds,v=>∃a xs,v=.ref a/\SqT K H a xs/\Dens K H ds xs
 |.dict _,_=>False
def Dens(K:F0)(H:Hp):List PyData->List V->Prop
 |[],xs=>xs=[]
 |d::ds,xs=>∃x r,xs=x::r/\Den K H d x/\Dens K H ds r
end
section
variable{X:Cx}{pins:L0}{Z:St}{H:Hp}{s:Shared}
mutual
theorem den_reads(I:Inv X pins Z H s):∀(d:PyData) {v:V} {u:Value},Den X.K H d v->RelV v u->∃m,Reads s.heap u d m
 | .none,v,u,h,r=>by
   rw[Den]at h;subst h;have c:u=Value.none:=r;subst c;exact⟨_,.none⟩
 | .bool b,v,u,h,r=>by
   rw[Den]at h;subst h;have c:u=Value.bool b:=r;subst c;exact⟨_,.bool b⟩
 | .int i,v,u,h,r=>by
   rw[Den]at h;subst h;obtain⟨t,c⟩:=(show ∃t,u=Value.int i t from r);subst c;exact⟨_,.int i t⟩
 | .str x,v,u,h,r=>by
   rw[Den]at h;subst h;obtain⟨t,c⟩:=(show ∃t,u=Value.str x t from r);subst c;exact⟨_,.str x t⟩
 | .list ds,v,u,h,r=>by
   rw[Den]at h;obtain⟨a,xs,rfl,j,hd⟩:=h;have c:u=Value.ref a:=r;subst c;obtain⟨its,f,p,hz⟩:=I.list j;obtain⟨m,g⟩:=dens_reads I ds hd f;obtain⟨o,k,l,n,e⟩:=p.isList;exact⟨_,.list k l e (by simpa using g)⟩
 | .tuple ds,v,u,h,r=>by
   rw[Den]at h;obtain⟨a,xs,rfl,j,hd⟩:=h;have c:u=Value.ref a:=r;subst c;obtain⟨its,f,p,hz⟩:=I.tuple j;obtain⟨m,g⟩:=dens_reads I ds hd f;obtain⟨o,k,l,n,e⟩:=p;exact⟨_,.tuple k l e (by simpa using g)⟩
 | .dict _,v,u,h,r=>by
   rw[Den]at h;exact h.elim
theorem dens_reads(I:Inv X pins Z H s):∀(ds:List PyData) {xs:List V} {us:List Value},Dens X.K H ds xs->Vals xs us->∃a,ReadsAll s.heap us ds a
 | [],xs,us,h,r=>by
   rw[Dens]at h;subst h;cases r;exact⟨_,.nil⟩
 | d::ds,xs,us,h,r=>by
   rw[Dens]at h;obtain⟨x,t,rfl,g,i⟩:=h;cases r with
   |cons f e=>
     obtain⟨a,c⟩:=den_reads I d g f;obtain⟨bs,b⟩:=dens_reads I ds i e;exact⟨_,.cons c b⟩
end
end
theorem rJ{K:F0}{H:Hp}:∀ns:List Int,Dens K H (ns.map PyData.int) (ns.map V.int)
 |[]=>by rw[Uz,Uz,Dens]
 | n::r=>by
   rw[Tr,Tr,Dens];exact⟨_,_,rfl,by rw[Den],rJ r⟩
theorem vA{K:F0}{H:Hp}{a:Addr}{ns:List Int}(h:SqL K H a (ns.map V.int)):Den K H (.list (ns.map PyData.int)) (.ref a):=by
 rw[Den];exact⟨a,_,rfl,h,rJ ns⟩
theorem Fh(ns M:List Int):PyData.eqv (.list (ns.map PyData.int)) (.list (M.map PyData.int))=decide (ns=M):=by
 rw[<-SeqAt.same_eq_eqv _ _ (by simp only[SeqAt.noMix];exact PySem.W.noMix_ints ns M)];simp only[same];exact PySem.W.same_ints ns M
section
variable{X:Cx}
def Dh(K:F0)(neg:Bool):R2:=λx y H Q=>∃d e,Den K H d x/\Den K H e y/\SeqAt.shaped d=true/\SeqAt.shaped e=true/\Q (.bl (if neg then !PyData.eqv d e else PyData.eqv d e)) H
theorem L7(k:X.A.units+64<cLine):mR X (compareOp .Eq) (Dh X.K false):=by
 intro a s Z H x y v u Q I g f h;obtain⟨d,e,hd,l,c,b,q⟩:=h;obtain⟨m,j⟩:=den_reads I d hd g;obtain⟨bs,i⟩:=den_reads I e l f;exact eq_dataH j i c b k ⟨.bl _,H,I,rfl,q⟩
theorem L5(k:X.A.units+64<cLine):mR X (compareOp .NotEq) (Dh X.K true):=by
 intro a s Z H x y v u Q I g f h;obtain⟨d,e,hd,l,c,b,q⟩:=h;obtain⟨m,j⟩:=den_reads I d hd g;obtain⟨bs,i⟩:=den_reads I e l f;exact ne_dataH j i c b k ⟨.bl _,H,I,rfl,q⟩
theorem L6(j:X.A.units+65<cLine):mR X (compareOp .In) (λx y H Q=>∃d xs,Den X.K H d x/\Den X.K H (.list xs) y/\SeqAt.shaped d=true/\SeqAt.shaped (.list xs)=true/\(∀z∈xs,SeqAt.noMix z d=true)/\Q (.bl (decide (countIn d xs≠0))) H):=by
 intro a s Z H x y v u Q I f e h;obtain⟨d,xs,hd,k,c,b,nm,q⟩:=h;obtain⟨l,i⟩:=den_reads I d hd f;obtain⟨bs,g⟩:=den_reads I _ k e;exact in_list_dataH g i b c j nm ⟨.bl _,H,I,rfl,q⟩
end
def QM(g:Bool):String:=cond g "max.loop" "min.loop"
def Ot(g:Bool):String:=cond g "max" "min"
def SB(g:Bool):CmpOp:=cond g .Gt .Lt
theorem Nc:∀g,plainId (QM g)=true|false=>PySem.F.plain_min_loop|true=>PySem.F.plain_max_loop
theorem SW:∀g,entryFor table (QM g)=some (cond g Builtin.«max.loop» Builtin.«min.loop»)|false=>PySem.F.entry_min_loop|true=>PySem.F.entry_max_loop
theorem xmE:∀g,entryFor table (Ot g)=some (cond g Builtin.«max» Builtin.«min»)|false=>PySem.F.entry_min|true=>PySem.F.entry_max
theorem xmP:∀g,builtinKind (Ot g)=none/\plainId (Ot g)=true|false=>⟨PySem.F.kind_min,PySem.F.plain_min⟩|true=>⟨PySem.F.kind_max,PySem.F.plain_max⟩
theorem Iq(a d:Value):∀g,argsOk (Ot g) ⟨[a],[(Str.ofString "default",d)]⟩|false=>by unfold argsOk;kernel_rfl|true=>by unfold argsOk;kernel_rfl
theorem Sr:(toString "min" ++ toString ".loop" : String)=QM false:=by decide
theorem Sq:(toString "max" ++ toString ".loop" : String)=QM true:=by decide
section
variable{prog:Program}{w:World}{A:Around}{R:Result->Shared->Prop}{I:Addr}{fp wr:List Addr}{n:Nat}{P:Nat->Value->Prop}{St:Nat->Heap->Prop}
theorem Fy(g:Bool)(W:Walks prog w A.in1 I fp wr n P St)(T:List (Str×Value))(x:Nat->Nat->Bool)(S:Addr)(L:S∉fp)(G:Shared->Prop)
 (N:∀(s:Shared) h' l,G s->(∀b o,b∉wr->b≠S->s.heap.get? b=some o->h'.get? b=some o)->G {s with heap:=h',toks:=l})
 (F:∀i j J H (s:Shared) (Q:L1) (E:L1),G s->P i J->P j H->Q (.bool (x i j)) s->wpAny (model prog w) A.in1 (richCompare (SB g) J H) Q E s):∀(k j:Nat) (s:Shared) (h:Value) (c:Nat),
 n-(j+1)=k->j+1<=n->G s->St (j+1) s.heap->P (argBest x j) h->s.heap.get? S=some {cls:=.type "list",dict:=none,data:=.seq #[h,h] c,slots:=#[]}->
 (∀v h' l,P (argBest x (n-1)) v->(∀b o,b∉wr->b≠S->s.heap.get? b=some o->h'.get? b=some o)->R (.ok (.ret v)) {s with heap:=h',toks:=l})->
 codeAny (model prog w) A (.builtin (QM g) ⟨[.ref I,.none,.ref S],T⟩) R s:=by
 have K:S∉wr:=λz=>L (W.sub _ z);cases g
 all_goals
  intro k
  induction k with
  |zero=>
    intro j s h c e1 V g st C B p;refine U9 (SW _) ?_;rw[UJ (Nc _) _];refine Ts (m:=seqItems? (.ref S)) (wpAny_seqItems B rfl ?_);refine Ts (m:=tryCatch (pyNext (.ref I)) _) (VS (W.done s _ _ ((show j+1=n by omega)▸st) λh' l kp=>?_));refine Ts (m:=updateSeq S (λ_=>#[])) ?_;refine WD (kp S _ K B) rfl (Ts (V2 (TF ?_)));exact p h _ l (by rw[show n-1=j by omega];exact C) λb o f q e=>(Ub _ _ (Va q)).trans (kp b o f e)
  |succ k M=>
    intro j s h c e1 V g st C B p;have lt:j+1<n:=by omega
    refine U9 (SW _) ?_;rw[UJ (Nc _) _];refine Ts (m:=seqItems? (.ref S)) (wpAny_seqItems B rfl ?_);refine Ts (m:=tryCatch (pyNext (.ref I)) _) (VS (W.item (j+1) s _ _ lt st λv h' l pv y kp=>?_));have t:=kp S _ K B;have g':G {s with heap:=h',toks:=l}:=N s h' l g λb o f _ e=>kp b o f e;refine Ts (m:=tryCatch (holding [v,v] (richCompare _ v h >>= _)) _) (VS (Vf (Ts (F (j+1) (argBest x j) v h _ _ _ g' pv C ?_))));refine Ts (Vf (Vb (Ts (V2 (TF ?_)))));cases O:x (j+1) (argBest x j) with
    |true=>
      rw[Tq rfl];refine Ts ?_;refine WD t rfl (Ts (V2 ?_))
      first | rw[Sr] | rw[Sq]
      refine TF ⟨Vh (Nc _) _,M (j+1) _ v _ (by omega) lt (N _ _ l g' λb o f q e=>(Ub _ _ (Va q)).trans e) (W.frame _ _ _ y λb U o e=>?_) (by simp only[argBest,O,WS];exact pv) (Ug _ t rfl) λD u a r d=>?_⟩
      ·exact(Ub _ _ (λz:S=b=>L (by rw[z];exact U))).trans e
      ·exact p D u a r λb o f q e=>d b o f q ((Ub _ _ (Va q)).trans (kp b o f e))
    |false=>
      rw[on TK];refine Ts (V2 ?_)
      first | rw[Sr] | rw[Sq]
      exact TF ⟨Vh (Nc _) _,M (j+1) _ h c (by omega) lt g' y (by simp only[argBest,O,Vr,Wt];exact C) t λD u a r d=>p D u a r λb o f q e=>d b o f q (kp b o f e)⟩
end
section
variable{prog:Program}{w:World}{A:Around}{E:L1}{s:Shared}
theorem wk(g:Bool){x d:Value}{Q:L1}
 (h:wpAny (model prog w) A.in1 (pyIter x) (λN a=>∃I u f n P St y,∃G:Shared->Prop,N=.ref I/\Walks prog w A.in1 I u f n P St/\St 0 a.heap/\(∀b∈u,b<a.heap.objs.size)/\
   G a/\(∀(s:Shared) h' c,G s->(∀b o,b∉f->b≠a.heap.objs.size->s.heap.get? b=some o->h'.get? b=some o)->G {s with heap:=h',toks:=c})/\
   (∀i j L K (s:Shared) (Q:L1) (E:L1),G s->P i L->P j K->Q (.bool (y i j)) s->wpAny (model prog w) A.in1 (richCompare (SB g) L K) Q E s)/\
   (n=0->∀h' c,(∀b o,b∉f->a.heap.get? b=some o->h'.get? b=some o)->Q d {a with heap:=h',toks:=c})/\
   (0<n->∀v h' c,P (argBest y (n-1)) v->(∀b o,b∉f->a.heap.get? b=some o->h'.get? b=some o)->Q v {a with heap:=h',toks:=c})) E s):
 wpAny (model prog w) A (call (.builtin (Ot g)) [x] [(Str.ofString "default",d)]) Q E s:=by
 cases g
 all_goals
  refine kmk_tree (xmP _).1 (xmP _).2 (xmE _) (Iq _ _ _) ?_;refine Ts (m:=Builtin.Builtins.bindParams _ ["key","default"] 0 ⟨[],[(Str.ofString "default",d)]⟩) (wpAny_of_eq (show _=pure [none,some d] from rfl) ?_);refine Ts (TF (Ts (Ve h (λN a t=>?_) λ_ _ e=>e)));obtain⟨I,u,f,n,P,St,y,G,rfl,W,st,lts,Y,O,J,T,S⟩:=t;refine Ts (Wk ?_);have D:a.heap.objs.size∉u:=λz=>Uy _ (lts _ z);have U:a.heap.objs.size∉f:=λz=>D (W.sub _ z)
  first | rw[Sr] | rw[Sq]
  have p:=W.frame _ _ (a.heap.push {cls:=.type "list",dict:=none,data:=.seq ([]:List Value).toArray}) st λb _ o e=>Tx _ e;have M:(a.heap.push {cls:=.type "list",dict:=none,data:=.seq ([]:List Value).toArray}).get? a.heap.objs.size=some {cls:=.type "list",dict:=none,data:=.seq ([]:List Value).toArray}:=TZ _ rfl;refine TF ⟨Vh (Nc _) _,U9 (SW _) ?_⟩;rw[UJ (Nc _) _];refine Ts (m:=seqItems? (.ref a.heap.objs.size)) (wpAny_seqItems M rfl ?_);by_cases F:n=0
  ·refine Ts (m:=tryCatch (pyNext (.ref I)) _) (VS (W.done _ _ _ (F▸p) λh' c kp=>?_));refine Ts (m:=rule _) (wpAny_rule (TF ?_));exact T F h' c λb o k e=>kp b o k (Tx _ e)
  · have lt:0<n:=Nat.pos_of_ne_zero F;refine Ts (m:=tryCatch (pyNext (.ref I)) _) (VS (W.item 0 _ _ _ lt p λv h' c pv B kp=>?_));have q:=kp _ _ U M;refine Ts (m:=updateSeq a.heap.objs.size (λ_=>#[v,v])) ?_;refine WD q rfl ?_
    first | rw[Sr] | rw[Sq]
    refine TF ⟨Vh (Nc _) _,Fy _ W _ y _ D G O J _ 0 _ v _ rfl lt (O a _ _ Y λb o k X e=>(Ub _ _ (Va X)).trans (kp b o k (Tx _ e))) (W.frame _ _ _ B λb V o e=>?_) pv (Ug _ q rfl) λR H l C r=>?_⟩
    ·exact(Ub _ _ (λz:a.heap.objs.size=b=>D (by rw[z];exact V))).trans e
    ·exact S lt R H l C λb o k e=>r b o k (T8 (TH e)) ((Ub _ _ (Nat.ne_of_gt (TH e))).trans (kp b o k (Tx _ e)))
end
def jg(X:Cx)(f:Value)(d:List Str)(r:List V->List V->Hp->VK->Prop):Prop:=
 ∀(a:L0) (s:Shared) (Z:St) (H:Hp) (xs b:List V) (us c:List Value) (Q:VK),Inv X a Z H s->Vals xs us->Vals b c->r xs b H Q->
  wpAny (model X.prog X.w) X.A (call f us (d.zip c)) (EP X a Z Q) X.xe s
def B8(r:List V->List V->Hp->VK->Prop)(t b:TA):TE:=λZ H Q=>t Z H λvs H1=>b Z H1 λa c=>r vs a c Q
section
variable{X:Cx}{x:Str}{p pos:Pos}{e:Expr}{es:List Expr}{kws:List Keyword}{t tk:TA}{id:String}{ks:List Str}{r:List V->List V->Hp->VK->Prop}
theorem lD(A:jg X (.builtin id) ks r)(y:Gl X x)(v:X.mg x=none)(q:bootBuiltins x=some (.builtin id))(B:PA X (e::es) t)(w:PK X kws tk)
 (d:(backToKw pos (keywordEach kws X.env)).filterMap (·.1)=ks:=by rfl) (u:x ≠ "__name__" := by decide) (g:(x==("__debug__" : Str))=false:=by decide)
 (z:backTo pos (starEach (e::es) X.env)=(false,eval e X.env)::backTo pos (starEach es X.env):=by rfl) (c:(backTo pos (starEach (e::es) X.env)).any (·.1)=false:=by rfl)
 (b:(backToKw pos (keywordEach kws X.env)).all (·.1.isSome)=true:=by rfl) (f:(backToKw pos (keywordEach kws X.env)).any (·.1.isNone)=false:=by rfl):
 PE X (.Call (.Name x p) (e::es) kws pos) (B8 r t tk):=by
 intro a s Z H Q I h;refine UZ (jJ I y v q ?_ u g);refine PyProof.Rows.callWith_kw (bE (B pos a s Z H _ I h) λus k ⟨vs,H1,D,m,o⟩=>bE (w pos a k Z H1 _ D o) λj s2 ⟨i,E,C,l,n⟩=>?_) z c b f;rw[d];exact A a s2 Z E vs i us j Q C m l n
end
theorem eD:∀{ns:List Int} {us:List Value} {i:Nat} {u:Value},Vals (ns.map V.int) us->us[i]?=some u->∃t,u=.int (ns.getD i 0) t
 | [],us,i,u,r,e=>by
   cases r;cases e
 | n::ns,us,i,u,r,e=>by
   rw[Tr]at r;cases r with
   |cons b a=>
     cases i with
     |zero=>
       cases e;exact b
     |succ i=>
       show ∃t,u=.int (ns.getD i 0) t;exact eD (ns:=ns) (i:=i) a (by simpa using e)
theorem NU{P:Program}{w:World}{A:Around}{R:Nat->Value->Prop}(v:Nat->Int)(h:∀i u,R i u->∃t,u=.int (v i) t):∀g,CmpOf P w A (SB g) R (cond g (λi j=>decide (v i>v j)) λi j=>decide (v i<v j))|false=>CmpOf.ints_lt v h|true=>CmpOf.ints_gt v h
theorem Ik(v:Nat->Int)(k:Nat):∀g,argBest (cond g (λi j=>decide (v i>v j)) λi j=>decide (v i<v j)) k<=k/\∀j,j<=k->cond g (v j<=v (argBest (cond g (λi j=>decide (v i>v j)) λi j=>decide (v i<v j)) k)) (v (argBest (cond g (λi j=>decide (v i>v j)) λi j=>decide (v i<v j)) k)<=v j)|false=>argBest_lt v k|true=>argBest_gt v k
theorem wg(g:Bool){X:Cx}(U:X.calm=true):jg X (.builtin (Ot g)) ["default"] (λxs y H Q=>∃p ns d,xs=[.ref p]/\y=[d]/\SqL X.K H p (ns.map V.int)/\(ns=[]->Q d H)/\∀m∈ns,(∀x∈ns,cond g (x<=m) (m<=x))->Q (.int m) H):=by
 intro B s Z H xs y us ws Q I r J h;obtain⟨p,ns,d,rfl,rfl,S,N,M⟩:=h;obtain⟨u,rfl,L⟩:=Vals.one r;have l:u=Value.ref p:=L;subst l;obtain⟨dv,rfl,rd⟩:=Vals.one J;obtain⟨its,k,pl,hz⟩:=I.list S;have C:ns.length=its.length:=by rw[<-k.length,Tv]
 obtain⟨O,c,w,n⟩:=id pl.isList;have f:p<s.heap.objs.size:=TH c;refine wk g (VQ pl.isList ⟨s.heap.objs.size,_,_,_,_,_,_,λ_=>True,rfl,Walks.list (A:=X.A.in1) (I.ok.hd U) _ p (T8 f) its.toArray,⟨⟨_,TZ _ rfl,rfl,rfl⟩,⟨O,Tx _ c,w,n⟩⟩,λb W=>?_,trivial,λ_ _ _ _ _=>trivial,λi j F D s Q E _=>NU (R:=λi v=>its.toArray[i]?=some v) (λi=>ns.getD i 0) (λi v e=>eD k (by simpa using e)) g i j F D s Q E,λe h' G kp=>?_,λe v h' G pv kp=>?_⟩)
 · rw[VB];rcases Tz.mp W with z|z
   ·rw[z];exact VZ _
   · have a:b=p:=by simpa using z
     rw[a];exact Wj f
 · have Y:ns=[]:=Uh.mp (by rw[C];simpa using e);refine⟨d,H,I.kept λb o q=>kp b o (λz=>?_) (Tx _ q),rd,N Y⟩;have a:b=s.heap.objs.size:=by simpa using z
   exact absurd (TH q) (by rw[a];exact Uy _)
 · have e':0<its.length:=by simpa using e
   have e1:its.toArray.size-1=ns.length-1:=by rw[TN,C]
   rw[e1]at pv;obtain⟨b1,b2⟩:=Ik (λi=>ns.getD i 0) (ns.length-1) g;rw[WI]at pv;obtain⟨t,rfl⟩:=eD k pv
   have up:∀i,i<ns.length->ns.getD i 0∈ns:=λi hi=>by
    rw[TR,TV hi];exact Wu hi
   refine⟨.int _,H,I.kept λb o q=>kp b o (λz=>?_) (Tx _ q),⟨t,rfl⟩,M _ (up _ (by omega)) λx P=>?_⟩
   · have a:b=s.heap.objs.size:=by simpa using z
     exact absurd (TH q) (by rw[a];exact Uy _)
   · obtain⟨j,T,rfl⟩:=List.getElem_of_mem P
     have:=b2 j (by omega)
     rwa [show ns.getD j 0=ns[j] by rw[TR,TV T];rfl]at this
theorem Bs{X:Cx}(b:X.calm=true):jg X (.builtin "min") ["default"] (λxs a H Q=>∃p ns d,xs=[.ref p]/\a=[d]/\SqL X.K H p (ns.map V.int)/\(ns=[]->Q d H)/\∀m∈ns,(∀x∈ns,m<=x)->Q (.int m) H):=wg false b
theorem Bt{X:Cx}(b:X.calm=true):jg X (.builtin "max") ["default"] (λxs a H Q=>∃p ns d,xs=[.ref p]/\a=[d]/\SqL X.K H p (ns.map V.int)/\(ns=[]->Q d H)/\∀m∈ns,(∀x∈ns,x<=m)->Q (.int m) H):=wg true b
def dd(ns:List Int):List Int:=ns.foldl step_dedup []
theorem wN(ns:List Int):(List.range ns.length).map (λi=>ns.getD i 0)=ns:=by
 apply List.ext_getElem?;intro i;rw[Ue];by_cases h:i<ns.length
 ·rw[VI h,TV h,Vt,TR,TV h];rfl
 ·rw[T4 (by rw[VT];omega),T4 (by omega)];rfl
theorem vk(ns:List Int):firstMet (λi=>ns.getD i 0) ns.length=dd ns:=by
 unfold firstMet dd;rw[wN]
theorem Kj:∀(ns acc:List Int),ns.Nodup->(∀x∈ns,x∉acc)->ns.foldl step_dedup acc=acc++ns
 |[],acc,_,_=>by rw[List.foldl_nil,Um]
 | n::r,acc,h,hd=>by
   have c:=T3.mp h
   have e:step_dedup acc n=acc++[n]:=by
    unfold step_dedup;rw[if_neg];intro z;obtain⟨y,d,e⟩:=List.any_eq_true.mp z;have a:y=n:=by simpa using e
    subst a;exact hd y Tu d
   rw[V4,e,Kj r (acc++[n]) c.2 λx b z=>?_,UE]
   ·rfl
   · rcases TY.mp z with z|z
     ·exact hd x (Tt _ b) z
     · have a:x=n:=by simpa using z
       subst a;exact c.1 b
theorem FD{ns:List Int}(h:ns.Nodup):dd ns=ns:=by
 unfold dd;rw[Kj ns [] h λ_ _ z=>nomatch z];rfl
section
variable{X:Cx}
theorem Bn(l:X.calm=true):fe X (.type "set") (λxs H Q=>∃p ns,xs=[.ref p]/\SqL X.K H p (ns.map V.int)/\ns.length<4000/\∀q,H q=none->Q (.ref q) (upd H q (.set (λk=>(dd ns).any (·==k)) (dd ns).length))):=by
 intro d s Z H xs us Q I r h;obtain⟨p,ns,rfl,j,t,q⟩:=h;obtain⟨u,rfl,i⟩:=Vals.one r;have a:u=Value.ref p:=i;subst a;obtain⟨its,c,pl,hz⟩:=I.list j;have f:its.length=ns.length:=by rw[<-c.length,Tv]
 refine PySem.call_set_list (ns:=ns) (I.ok.hd l) pl.isList (by simpa using xA c) (by rw[List.size_toArray,f];unfold scanBound;omega) λh' n g kp=>?_;have m:its.toArray.size=ns.length:=by rw[List.size_toArray,f]
 rw[m,vk]at g;exact⟨.ref s.heap.objs.size,_,I.laid (o:=.set _ _) (λb o e=>kp b o (TH e) e) (TM _) g,rfl,q _ (I.hok.fresh (TM _))⟩
theorem Bp:fe X (.builtin "len") (λxs H Q=>∃a S n,xs=[.ref a]/\H a=some (.set S n)/\Q (.int n) H):=by
 intro c s Z H xs us Q I r h;obtain⟨a,S,n,rfl,j,q⟩:=h;obtain⟨u,rfl,d⟩:=Vals.one r;have b:u=Value.ref a:=d;subst b;obtain⟨o,k,ep,t,e,hex,hd,_,_,i,g,f⟩:=(show s.heap.SetOf (intKind X.prog X.w) a S n from I.hok a _ j);refine call_len_set e hex hd g (Int.lt_of_lt_of_le (Int.ofNat_lt.mpr i) (by unfold scanBound;decide)) ?_;rw[f];exact⟨.int n,H,I.tok _,⟨_,rfl⟩,q⟩
end
def RawD(h:Heap)(d:Addr)(a:Array DictEntry)(ep:Nat):Prop:=∃o,h.get? d=some o/\o.ExactDict/\o.data=.dict a ep
section
variable{prog:Program}{w:World}{A:Around}{E:L1}{s:Shared}{d it:Addr}{es:Array DictEntry}{ep i:Nat}
theorem RawD.typeIs(x:RawD s.heap d es ep):s.TypeIs (.ref d) "dict" := by
 obtain⟨o,b,a,_⟩:=x;exact⟨o,b,a.1⟩
theorem uF{Q:L1}(c:(d==sysModules)=false)(x:RawD s.heap d es ep)
 (e:Q (.ref s.heap.objs.size) {s with heap:=s.heap.push {cls:=.type "dict_keyiterator",data:=.fields #[.ref d,.int 0 0,.int es.size 0,.int ep 0]}}):wpAny (model prog w) A (pyIter (.ref d)) Q E s:=by
 have a:=x.typeIs;obtain⟨o,b,f,hd⟩:=x;refine wpAny_pyIter_slot a PySem.F.slot_dict_iter (wpAny_call_entry PySem.F.slot_dict_iter a PySem.F.entry_dict_iter ?_ (PySem.F.args_dict_iter_1 _));unfold Builtin.«dict.__iter__» Builtin.Dict.dictSlotNone;refine wpAny_bind (wpAny_bind (wpAny_notOrdered_dict a (wpAny_pure ?_)));refine wpAny_bind (m:=Builtin.Dict.showsAll d) ?_;unfold Builtin.Dict.showsAll;rw[if_neg (by rw[c];exact Bool.false_ne_true)];refine wpAny_pure (wpAny_bind (wpAny_dictEntries b hd (wpAny_bind (wpAny_dictEpoch b hd ?_))));exact wpAny_bind (wpAny_newObj_type (wpAny_pure ⟨_,rfl, "dict_keyiterator",_,⟨_,Heap.get?_push_size _ rfl,rfl⟩,PySem.F.slot_dict_keyiterator_next.lookup,e⟩))
theorem uG{Q:Option Value->Shared->Prop}(a:s.heap.IsKeyIter it d i es.size ep)(x:RawD s.heap d es ep)(g:i<es.size)
 (j:∀h',h'.IsKeyIter it d (i+1) es.size ep->Heap.SameBut it s.heap h'->Q (some es[i].key) {s with heap:=h'}):wpAny (model prog w) A (pyNext (.ref it)) Q E s:=by
 obtain⟨o,f,h,hd⟩:=id a;obtain⟨k,c,_,e⟩:=id x;unfold pyNext;refine wpAny_bind (wpAny_attempt (wpAny_callSpecial?_slot (name:=Str.ofString "__next__") a.typeIs PySem.F.slot_dict_keyiterator_next (wpAny_call_entry PySem.F.slot_dict_keyiterator_next a.typeIs PySem.F.entry_dict_keyiterator_next ?_ (PySem.F.args_dict_keyiterator_next_1 _))));refine wpAny_bind (wpAny_pure (wpAny_bind (wpAny_bind ?_)))
 first | refine Ts (UP a.typeIs (TF ?_)) | refine Ts (Vi a.typeIs (TF ?_))
 refine Ts (wpAny_fieldsOf f hd ?_);simp only[show Builtin.Dict_items.ownsTuple "dict_keyiterator" = false from by decide,Vr,Wt];show wpAny _ _ (if (Value.ref d==Value.none)=true then _ else _) _ _ s;rw[on (show ¬ ((Value.ref d==Value.none)=true) from TK)];refine Ts (TF (Ts (Vc c e ?_)));rw[on (by simp)];refine Ts (TF (Ts (WE c e ?_)));rw[on (by simp)];refine TF ?_;simp only[show ¬ ((i:Int)<0) from by omega,Wt,Int.toNat_natCast,VF g];refine Ts ?_
 first | refine Ts (UP a.typeIs (TF ?_)) | refine Ts (Vi a.typeIs (TF ?_))
 refine Ts (wpAny_isOneOf_keyiter a.typeIs ?_);refine Ts (m:=setField (.ref it) 1 (rawInt ((i:Int)+1))) (wpAny_setField f hd (by simp) ?_)
 have b:(s.heap.update it (Obj.mapFields (·.setIfInBounds 1 (rawInt ((i:Int)+1))))).IsKeyIter it d (i+1) es.size ep:=
  ⟨_,Ug _ f (Obj.isFreed_of_fields (Obj.data_mapFields hd _)),(Obj.cls_mapFields ..).trans h,by rw[Obj.data_mapFields hd];simp[rawInt]⟩
 refine Ts (Vf ?_);refine Ts (wpAny_isOneOf_keyiter (s:={s with heap:=s.heap.update it (Obj.mapFields (·.setIfInBounds 1 (rawInt ((i:Int)+1))))}) b.typeIs ?_);exact TF (TF ⟨_,rfl,TF (j _ b (VJ ..))⟩)
theorem yQ{Q:Option Value->Shared->Prop}(h:A.handled=none)(c:s.heap.IsKeyIter it d es.size es.size ep)(x:RawD s.heap d es ep)
 (i:∀h',Heap.ExtBut it s.heap h'->Q none {s with heap:=h'}):wpAny (model prog w) A (pyNext (.ref it)) Q E s:=by
 obtain⟨o,g,k,hd⟩:=id c;obtain⟨j,e,_,f⟩:=id x;unfold pyNext;refine wpAny_bind (wpAny_attempt (wpAny_callSpecial?_slot (name:=Str.ofString "__next__") c.typeIs PySem.F.slot_dict_keyiterator_next (wpAny_call_entry PySem.F.slot_dict_keyiterator_next c.typeIs PySem.F.entry_dict_keyiterator_next ?_ (PySem.F.args_dict_keyiterator_next_1 _))));refine wpAny_bind (wpAny_pure (wpAny_bind (wpAny_bind ?_)))
 first | refine Ts (UP c.typeIs (TF ?_)) | refine Ts (Vi c.typeIs (TF ?_))
 refine Ts (wpAny_fieldsOf g hd ?_);simp only[show Builtin.Dict_items.ownsTuple "dict_keyiterator" = false from by decide,Vr,Wt];show wpAny _ _ (if (Value.ref d==Value.none)=true then _ else _) _ _ s;rw[on (show ¬ ((Value.ref d==Value.none)=true) from TK)];refine Ts (TF (Ts (Vc e f ?_)));rw[on (by simp)];refine Ts (TF (Ts (WE e f ?_)));rw[on (by simp)];refine TF ?_;simp only[show ¬ ((es.size:Int)<0) from by omega,Wt,Int.toNat_natCast,Array.getElem?_eq_none (TM _)];refine Ts ?_
 first | refine Ts (UP c.typeIs (TF ?_)) | refine Ts (Vi c.typeIs (TF ?_))
 refine Ts (m:=setField (.ref it) 0 .none) (wpAny_setField g hd (by simp) ?_);refine Ts (m:=newExc (.type "StopIteration") []) ?_;simp only[newExc,newTuple];refine Ts (Wk ?_ (by size_fits));refine Ts (m:=firstArgMember _ _) (wpAny_of_eq (a:=Value.none) (by first | rfl | (simp only[firstArgMember];rfl)) ?_);refine Wk ?_ (by size_fits);simp only[raiseNew];refine Ts (wpAny_handled ?_);rw[show A.in1.handled=none from h];refine Ts (TF (wpAny_throw ?_));refine Ts (wpAny_isInstance (T := "StopIteration") (b:=true) ⟨_,TZ _ rfl,rfl⟩ isSubtype_stop ?_);exact TF (i _ (((VJ ..).extBut.push _).push _))
end
theorem qW{P:Program}{w:World}{x:List aQ×Addr×Value}:(entryOfKey (tupleKind (aC P w)) x).key=.ref x.2.1:=rfl
end L2
namespace HT
open PySem PyProof.Rows
open PySem.SeqAt
open PySem.AutoSeq1 (wpAny_loadPart')
open PySem.MeetsSeq PySem.MeetsSeq2 PySem.MeetsSeq3 PySem.SeqRoads2
def LtAt(A:Around)(s:Shared)(y x:Value)(b:Bool):Prop:=
 ∀(prog:Program) (w:World) (E:L1) (Q:L1),Q (.bool b) s->wpAny (model prog w) A (richCompare .Lt y x) Q E s
def gW(p:Nat->Bool×Bool)(t:Bool):Nat->Nat->Bool
 |0,_=>t
 |k+1,i=>if (p i).1=true then gW p t k (i+1) else (p i).2
theorem xx(l b:Addr)(items items2:Array Value)(n n2:Nat)(dd dd2:Option Addr)(sl sl2:Array (Option Value))(p:Nat->Bool×Bool)(k:Nat):
 ∀i:Nat,min items.size items2.size-i=k->i<=min items.size items2.size->Meets (Builtin.«list.__eq__.loop» ⟨[.ref l,.ref b,rawInt i,rawInt 0],[]⟩)
  (λA R s=>s.heap.get? l=some {cls:=.type "list",dict:=dd,data:=.seq items n,slots:=sl}/\s.heap.get? b=some {cls:=.type "list",dict:=dd2,data:=.seq items2 n2,slots:=sl2}/\
    (∀j (h1:j<items.size) (h2:j<items2.size),EqAt A.in1 s items[j] items2[j] (p j).1/\((p j).1=false->LtAt A.in1 s items[j] items2[j] (p j).2))/\
    R (.ok (.ret (.bool (gW p (decide (items.size<items2.size)) k i)))) s):=by
 induction k with
 |zero=>
   intro i hk hi prog w A R s h;obtain⟨hp,g,d,tk,os⟩:=s;obtain⟨hl,hb,he,h⟩:=h
   wp_walk using wpAny_loadPart' hl,wpAny_loadPart' hb
   by_cases hlt:i<items.size
   · have hi1:items[((i:Nat):Int).toNat]?=some items[i]:=by simp[hlt]
     have hi2:items2[((i:Nat):Int).toNat]?=none:=by simp;omega
     rw[hi1,hi2]
     wp_walk using wpAny_loadPart' hl,wpAny_loadPart' hb
     exact h
   · have hi1:items[((i:Nat):Int).toNat]?=none:=by simp;omega
     rw[hi1]
     wp_walk using wpAny_loadPart' hl,wpAny_loadPart' hb
     exact h
 |succ k ih=>
   intro i hk hi prog w A R s h;obtain⟨hp,g,d,tk,os⟩:=s;obtain⟨hl,hb,he,h⟩:=h
   wp_walk using wpAny_loadPart' hl,wpAny_loadPart' hb
   have hlt:i<items.size:=by omega
   have hlt2:i<items2.size:=by omega
   have hi1:items[((i:Nat):Int).toNat]?=some items[i]:=by simp[hlt]
   have hi2:items2[((i:Nat):Int).toNat]?=some items2[i]:=by simp[hlt2]
   have hc:((i:Int)+1)=((i+1:Nat):Int):=by push_cast;rfl
   rw[hi1,hi2];obtain⟨e1,e2⟩:=he i hlt hlt2;refine Ts (e1 prog w _ _ ?_);cases hb':(p i).1 with
   |true=>
     rw[gW,hb',Tq rfl]at h
     wp_walk
     rw[hc]
     exact⟨Vh plain_eq_loop _,U9 entry_eq_loop (by
      rw[UJ plain_eq_loop _]
      exact ih (i+1) (by omega) (by omega) prog w A R _ ⟨hl,hb,he,h⟩)⟩
   |false=>
     rw[gW,hb',on TK]at h
     wp_walk using wpAny_loadPart' hl,wpAny_loadPart' hb
     rw[hi1,hi2];have e3:=e2 hb' prog w
     wp_walk using e3
     exact h
theorem AS(l b:Addr)(items items2:Array Value)(n n2:Nat)(dd dd2:Option Addr)(sl sl2:Array (Option Value))(p:Nat->Bool×Bool):
 Meets (Builtin.«list.__lt__» ⟨[.ref l,.ref b],[]⟩)
  (λA R s=>s.heap.get? l=some {cls:=.type "list",dict:=dd,data:=.seq items n,slots:=sl}/\s.heap.get? b=some {cls:=.type "list",dict:=dd2,data:=.seq items2 n2,slots:=sl2}/\
    (∀j (h1:j<items.size) (h2:j<items2.size),EqAt A.in1 s items[j] items2[j] (p j).1/\((p j).1=false->LtAt A.in1 s items[j] items2[j] (p j).2))/\
    R (.ok (.ret (.bool (gW p (decide (items.size<items2.size)) (min items.size items2.size) 0)))) s):=by
 intro prog w A R s h;obtain⟨hp,g,d,tk,os⟩:=s;obtain⟨hl,hb,he,h⟩:=h;have f3:=AutoSeq1.sub_list_list
 wp_walk using wpAny_loadPart' hl,wpAny_loadPart' hb
 exact⟨Vh plain_eq_loop _,U9 entry_eq_loop (by
  rw[UJ plain_eq_loop _]
  exact xx l b items items2 n n2 dd dd2 sl sl2 p _ 0 rfl (UN _) prog w A R _ ⟨hl,hb,he,h⟩)⟩
theorem LtAt.int_int{A:Around}{s:Shared}(a:Int)(t:Tok)(c:Int)(u:Tok):LtAt A s (.int a t) (.int c u) (decide (a<c)):=λprog w E Q h=>Dg A s a t c u prog w E Q h
theorem LtAt.lists{A:Around}{s:Shared}{l b:Addr}{c a:Array Value}{p:Nat->Bool×Bool}(u:s.heap.IsList l c)(y:s.heap.IsList b a)(t:A.units<cLine)
 (v:∀j (B:j<c.size) (z:j<a.size),EqAt A.in1 s c[j] a[j] (p j).1/\((p j).1=false->LtAt A.in1 s c[j] a[j] (p j).2)):
 LtAt A s (.ref l) (.ref b) (gW p (decide (c.size<a.size)) (min c.size a.size) 0):=λprog w E Q h=>by
 obtain⟨⟨cls,dd,data,q⟩,k,m,n,hd⟩:=id u;obtain⟨⟨o,i,data2,g⟩,d,f,r,e⟩:=id y;simp only at m hd f e;subst m hd f e
 exact richCompare_meets_room (op:= .Lt) ⟨_,k,rfl⟩ ⟨_,d,rfl⟩ PySem.F.slot_list_lt PySem.F.entry_list_lt (PySem.F.args_list_lt_2 _ _) (AS l b c a n r dd i q g p)
  ⟨k,d,v,show Value.bool (gW p (decide (c.size<a.size)) (min c.size a.size) 0)≠Value.notImplemented/\Q (.bool (gW p (decide (c.size<a.size)) (min c.size a.size) 0)) s from⟨(λx=>nomatch x),h⟩⟩ t
theorem qR:∀(ns M:List Int) (i:Nat) (f:Nat->Bool×Bool) (t:Bool),(∀j,j<min ns.length M.length->f (i+j)=(decide (ns.getD j 0=M.getD j 0),decide (ns.getD j 0<M.getD j 0)))->t=decide (ns.length<M.length)->
 gW f t (min ns.length M.length) i=ku ns M
 |[],[],i,f,t,h,e=>by rw[e];rfl
 | [],m::M,i,f,t,h,e=>by
   rw[e];show decide (0<(m::M).length)=true;simp
 | n::ns,[],i,f,t,h,e=>by
   rw[e];show decide ((n::ns).length<0)=false;simp
 | n::ns,m::M,i,f,t,h,e=>by
   have e1:min (n::ns).length (m::M).length=min ns.length M.length+1:=by
    rw[TD,TD];omega
   rw[e1,gW,oQ];have h0:=h 0 (by rw[e1];omega);rw[Nat.add_zero]at h0;have a:f i=(decide (n=m),decide (n<m)):=h0;rw[a];by_cases q:n=m
   · rw[Tq (by simpa using q),Tq q]
     exact qR ns M (i+1) f t (λj b=>by
      have:=h (j+1) (by rw[e1];omega)
      rw[show i+1+j=i+(j+1) by omega,this]
      rfl) (by rw[e];simp)
   ·rw[on (by simpa using q),on q]
def zc(a b:Int)(xs:List Int)(c d:Int)(e:List Int):Bool:=if a=c then (if b=d then ku xs e else decide (b<d)) else decide (a<c)
theorem wA(l b:Addr)(items items2:Array Value)(n n2:Nat)(dd dd2:Option Addr)(sl sl2:Array (Option Value))(p:Nat->Bool×Bool):
 Meets (Builtin.«tuple.__lt__» ⟨[.ref l,.ref b],[]⟩)
  (λA R s=>s.heap.get? l=some {cls:=.type "tuple",dict:=dd,data:=.seq items n,slots:=sl}/\s.heap.get? b=some {cls:=.type "tuple",dict:=dd2,data:=.seq items2 n2,slots:=sl2}/\
    (∀j (h1:j<items.size) (h2:j<items2.size),EqAt A.in1 s items[j] items2[j] (p j).1/\((p j).1=false->LtAt A.in1 s items[j] items2[j] (p j).2))/\
    R (.ok (.ret (.bool (gW p (decide (items.size<items2.size)) (min items.size items2.size) 0)))) s):=
 .of_wp λprog w A R s h=>by
  obtain⟨hp,g,d,tk,os⟩:=s;obtain⟨hl,hb,he,h⟩:=h;have f2:=AutoSeq1.sub_tuple_tuple;have zl:(items.toList.zip items2.toList).length=min items.size items2.size:=by rw[List.length_zip,UC,UC]
  wp_walk using wpAny_loadPart' hl,wpAny_loadPart' hb,wpAny_forIn_list _ (λiA b s'=>b.1=none/\s'=⟨hp,g,d,tk,os⟩/\∃i,i<=min items.size items2.size/\iA=(items.toList.zip items2.toList).drop i/\
   R (.ok (.ret (.bool (gW p (decide (items.size<items2.size)) (min items.size items2.size-i) i)))) ⟨hp,g,d,tk,os⟩) _
  case turn=>
   rintro⟨y,x⟩ iA b s' ⟨hb',rfl,i,hi,hz,hR⟩
   have hlt:i<min items.size items2.size:=by
    rcases Nat.lt_or_ge i (min items.size items2.size) with q|q
    ·exact q
    ·rw[Wz (by rw[zl];exact q)]at hz;cases hz
   have h1:i<items.size:=by omega
   have h2:i<items2.size:=by omega
   rw[VG (by rw[zl];exact hlt)]at hz;injection hz with hyx hrest
   rw[List.getElem_zip,WO,WO]at hyx;injection hyx with hy hx
   subst hy hx;obtain⟨e1,e2⟩:=he i h1 h2;rw[show min items.size items2.size-i=(min items.size items2.size-(i+1))+1 by omega,gW]at hR;refine Ts (e1 prog w _ _ ?_);cases eb:(p i).1 with
   |true=>
     rw[eb,Tq rfl]at hR
     wp_walk
     exact⟨rfl,rfl,i+1,by omega,hrest,hR⟩
   |false=>
     rw[eb,on TK]at hR;have e3:=e2 eb prog w
     wp_walk using e3
     exact⟨_,rfl,by simpa using hR⟩
  case fin=>
   rintro⟨b1,b2⟩ s' ⟨hb',rfl,i,hi,hz,hR⟩;simp only at hb';subst hb'
   have hge:min items.size items2.size<=i:=by
    rcases Nat.lt_or_ge i (min items.size items2.size) with q|q
    ·rw[VG (by rw[zl];exact q)]at hz;cases hz
    ·exact q
   rw[show min items.size items2.size-i=0 by omega,gW]at hR
   wp_walk
   exact⟨_,rfl,by simpa [Builtin.Tuple.tupleCompareSizes] using hR⟩
  case h=>
   exact⟨rfl,rfl,0,UN _,rfl,h⟩
theorem LtAt.tuples{A:Around}{s:Shared}{l b:Addr}{c a:Array Value}{p:Nat->Bool×Bool}(u:s.heap.IsTuple l c)(y:s.heap.IsTuple b a)(t:A.units<cLine)
 (v:∀j (B:j<c.size) (z:j<a.size),EqAt A.in1 s c[j] a[j] (p j).1/\((p j).1=false->LtAt A.in1 s c[j] a[j] (p j).2)):
 LtAt A s (.ref l) (.ref b) (gW p (decide (c.size<a.size)) (min c.size a.size) 0):=λprog w E Q h=>by
 obtain⟨⟨cls,dd,data,q⟩,k,m,n,hd⟩:=id u;obtain⟨⟨o,i,data2,g⟩,d,f,r,e⟩:=id y;simp only at m hd f e;subst m hd f e
 exact richCompare_meets_room (op:= .Lt) ⟨_,k,rfl⟩ ⟨_,d,rfl⟩ PySem.F.slot_tuple_lt PySem.F.entry_tuple_lt (PySem.F.args_tuple_lt_2 _ _) (wA l b c a n r dd i q g p)
  ⟨k,d,v,show Value.bool (gW p (decide (c.size<a.size)) (min c.size a.size) 0)≠Value.notImplemented/\Q (.bool (gW p (decide (c.size<a.size)) (min c.size a.size) 0)) s from⟨(λx=>nomatch x),h⟩⟩ t
end HT
namespace L2
open PySem PySem.Spec PyProof.Rows
theorem oP:∀xs:List Int,HT.ku xs xs=false
 |[]=>rfl
 |x::xs=>by rw[HT.oQ,Tq rfl,oP xs]
section
variable{X:Cx}{pins:L0}{Z:St}{H:Hp}{s:Shared}
theorem A5{A:Around}{a b:Addr}{ns M:List Int}(I:Inv X pins Z H s)(k:SqL X.K H a (ns.map V.int))(h:SqL X.K H b (M.map V.int))(r:A.units+64<cLine):
 SeqAt.EqAt A s (.ref a) (.ref b) (decide (ns=M))/\HT.LtAt A s (.ref a) (.ref b) (HT.ku ns M):=by
 constructor
 ·obtain⟨w,o⟩:=den_reads I _ (vA k) (show RelV (.ref a) (.ref a) from rfl);obtain⟨bs,n⟩:=den_reads I _ (vA h) (show RelV (.ref b) (.ref b) from rfl);rw[<-Fh];exact SeqAt.eqAt_reads _ _ A s _ _ w bs o n (Vs (V6 ns)) (Vs (V6 M)) (SeqAt.room_of_shaped (V6 ns) r)
 · obtain⟨its,g,pl,_⟩:=I.list k;obtain⟨c,d,f,_⟩:=I.list h;have q:its.toArray.size=ns.length:=by rw[TN,<-g.length,Tv]
   have l2:c.toArray.size=M.length:=by rw[TN,<-d.length,Tv]
   have e:=HT.LtAt.lists (A:=A) (p:=λj=>(decide (ns.getD j 0=M.getD j 0),decide (ns.getD j 0<M.getD j 0))) pl.isList f.isList (by omega) (λj m l=>?_)
   ·rw[q,l2,HT.qR ns M 0 _ _ (λj _=>by rw[Nat.zero_add]) rfl]at e;exact e
   · obtain⟨t,e1⟩:=eD g (i:=j) (u:=its.toArray[j]) (by simp at m;simp[m]);obtain⟨u,v⟩:=eD d (i:=j) (u:=c.toArray[j]) (by simp at l;simp[l]);rw[e1,v];refine⟨?_,λ_=>HT.LtAt.int_int _ _ _ _⟩
     have:=SeqAt.EqAt.int_int (A:=A.in1) (s:=s) (ns.getD j 0) t (M.getD j 0) u
     rwa [show(ns.getD j 0==M.getD j 0)=decide (ns.getD j 0=M.getD j 0) from Vx _ _]at this
theorem M9{A:Around}{p q:Addr}{a b c d:Int}{l m:Addr}{xs g:List Int}(Q:A.units+100<cLine)(I:Inv X pins Z H s)(hp:SqT X.K H p [.int a,.int b,.ref l])(N:SqT X.K H q [.int c,.int d,.ref m])(P:SqL X.K H l (xs.map V.int))(O:SqL X.K H m (g.map V.int)):
 HT.LtAt A s (.ref p) (.ref q) (HT.zc a b xs c d g):=by
 obtain⟨its,h,E,_⟩:=I.tuple hp;obtain⟨z,f,D,_⟩:=I.tuple N;cases h with|cons L h=>cases h with|cons J h=>cases h with|cons G h=>
 cases h;cases f with|cons rc f=>cases f with|cons rd f=>cases f with|cons F f=>
 cases f;obtain⟨y,rfl⟩:=L;obtain⟨tb,rfl⟩:=J;obtain⟨x,rfl⟩:=rc;obtain⟨w,rfl⟩:=rd;obtain rfl:_=Value.ref l:=G;obtain rfl:_=Value.ref m:=F;have r:A.in1.units+64<cLine:=by show A.units+1+64<cLine;omega
 obtain⟨el,M⟩:=A5 (A:=A.in1) I P O r
 have C:∀(i j:Int) (t u:Tok),SeqAt.EqAt A.in1 s (.int i t) (.int j u) (decide (i=j)):=λi j t u=>by
  have:=SeqAt.EqAt.int_int (A:=A.in1) (s:=s) i t j u
  rwa [show(i==j)=decide (i=j) from Vx _ _]at this
 have o:=HT.LtAt.tuples (A:=A) (s:=s) (p:=λj=>if j=0 then (decide (a=c),decide (a<c)) else if j=1 then (decide (b=d),decide (b<d)) else (decide (xs=g),HT.ku xs g)) E D (by omega) (λj k n=>by
  have v:j<3:=k
  match j,v with
  |0,_=>exact⟨C a c y x,λ_=>HT.LtAt.int_int a y c x⟩
  |1,_=>exact⟨C b d tb w,λ_=>HT.LtAt.int_int b tb d w⟩
  |2,_=>exact⟨el,λ_=>M⟩)
 have e:HT.gW (λj=>if j=0 then (decide (a=c),decide (a<c)) else if j=1 then (decide (b=d),decide (b<d)) else (decide (xs=g),HT.ku xs g)) (decide (3<3)) 3 0=HT.zc a b xs c d g:=by
  simp only[HT.gW,HT.zc];by_cases k:a=c
  · by_cases n:b=d
    · by_cases B:xs=g
      ·subst B;simp[k,n,oP]
      ·simp[k,n,B]
    ·simp[k,n]
  ·simp[k]
 exact e▸o
end
end L2
namespace Gd
open PySem L2
theorem gv:bootBuiltins "len" = some (.builtin "len"):=by decide +kernel
theorem ik:bootBuiltins "min" = some (.builtin "min"):=by decide +kernel
theorem je:bootBuiltins "max" = some (.builtin "max"):=by decide +kernel
theorem dh:bootBuiltins "isinstance" = some (.builtin "isinstance"):=by decide +kernel
theorem Oa:bootBuiltins "set" = some (.type "set"):=by decide +kernel
theorem z7:bootBuiltins "list" = some (.type "list"):=by decide +kernel
theorem F6:bootBuiltins "tuple" = some (.type "tuple"):=by decide +kernel
theorem uB{H H':Hp}{q:Addr}{o:HO}(h:H q=none)(e:Same H H'):Same H (upd H' q o):=λb u z=>by
 rw[ay (bf z h)];exact e b u z
theorem cA{H:Hp}{q:Addr}{o:HO}(h:H q=none):Same H (upd H q o):=uB h (Same.refl H)
def nk(e:PySem.Expr):Scope:=match e with
 |.ListComp _ _ sc _=>sc
 |_=>{kind:=.function,names:=[],isGenerator:=false,isCoroutine:=false,more:=[]}
def yu(s:Stmt):PySem.Expr:=match s with
 |.Assign _ v _=>v
 |.Return (some v) _=>v
 |.Expr v _=>v
 |.For _ a _ _ _=>a
 |.If t _ _ _=>t
 |_=> .Constant .none 0 ⟨0,0,0,0⟩
def nth(l:List Stmt)(i:Nat):Stmt:=l.getD i (.Pass ⟨0,0,0,0⟩)
abbrev AL:=List (List Int×Int)
abbrev kI(k:List Int):List aQ:=k.map Sum.inl
def bR(D:AL):List (List aQ×V):=D.map λp=>(kI p.1,V.int p.2)
def look(D:AL)(k:List Int):Option Int:=(D.find? λp=>decide (p.1=k)).map (·.2)
end Gd
namespace HR
open PySem MeetsSeq
theorem r9(l:Addr)(items:Array Value)(n:Nat)(x:Value)(e:Nat->Bool)(j:Nat)(hj:j<items.size)(hit:e j=true)(hs1:items.size<=sizeLine)(k:Nat):
 ∀i:Nat,j-i=k->i<=j->(∀m,i<=m->m<j->e m=false)->Meets (Builtin.«list.remove.loop» ⟨[.ref l,x,rawInt i],[]⟩)
  (λA R s=>s.heap.get? l=some {cls:=.type "list",dict:=none,data:=.seq items n,slots:=#[]}/\(∀m (h:m<items.size),m<=j->SeqAt.EqAt A.in1 s items[m] x (e m))/\
    R (.ok (.ret .none)) {s with heap:=s.heap.update l (Obj.mapSeq λxs=>xs.eraseIdxIfInBounds j)}):=by
 induction k with
 |zero=>
   intro i hk hij hno prog w A R s h;obtain⟨hp,g,d,tk,os⟩:=s;obtain⟨hl,he,h⟩:=h;have hij':i=j:=by omega
   subst hij'
   wp_walk using wpAny_loadPart' hl
   have hi:items[((i:Nat):Int).toNat]?=some items[i]:=by simp[hj]
   rw[hi];refine Ts (he i hj (TM _) prog w _ _ ?_);rw[hit];have hz':(items.eraseIdxIfInBounds i).size<=sizeLine+1:=Uk (size_erased items _) (Wl hs1)
   wp_walk using(wpAny_updateSeq hl rfl (hz:=hs1) (_hz':=hz')),wpAny_loadPart' hl
   simpa using h
 |succ k ih=>
   intro i hk hij hno prog w A R s h;obtain⟨hp,g,d,tk,os⟩:=s;obtain⟨hl,he,h⟩:=h;have hlt:i<items.size:=by omega
   wp_walk using wpAny_loadPart' hl
   have hi:items[((i:Nat):Int).toNat]?=some items[i]:=by simp[hlt]
   have hc:((i:Int)+1)=((i+1:Nat):Int):=by push_cast;rfl
   rw[hi];refine Ts (he i hlt hij prog w _ _ ?_);rw[hno i (TM _) (by omega)]
   wp_walk
   rw[hc]
   exact⟨Vh plain_remove_loop _,U9 entry_remove_loop (by
    rw[UJ plain_remove_loop _]
    exact ih (i+1) (by omega) (by omega) (λm h1 h2=>hno m (by omega) h2) prog w A R _ ⟨hl,he,h⟩)⟩
theorem sK(l:Addr)(items:Array Value)(n:Nat)(x:Value)(e:Nat->Bool)(j:Nat)(hj:j<items.size)
 (hit:e j=true) (hno:∀m,m<j->e m=false) (hs1:items.size<=sizeLine):
 Meets (Builtin.«list.remove» ⟨[.ref l,x],[]⟩)
  (λA R s=>s.heap.get? l=some {cls:=.type "list",dict:=none,data:=.seq items n,slots:=#[]}/\(∀m (h:m<items.size),m<=j->SeqAt.EqAt A.in1 s items[m] x (e m))/\
    R (.ok (.ret .none)) {s with heap:=s.heap.update l (Obj.mapSeq λxs=>xs.eraseIdxIfInBounds j)}):=by
 intro prog w A R s h;obtain⟨hp,g,d,tk,os⟩:=s;obtain⟨hl,he,h⟩:=h
 wp_walk using wpAny_loadPart' hl
 exact⟨Vh plain_remove_loop _,U9 entry_remove_loop (by
  rw[UJ plain_remove_loop _]
  exact r9 l items n x e j hj hit hs1 _ 0 rfl (UN _) (λm _ h2=>hno m h2) prog w A R _ ⟨hl,he,h⟩)⟩
end HR
namespace L2
open PySem PySem.Spec PyProof.Rows
theorem mq{W X:Type}[DecidableEq W]{k:W}:∀{xs:List (W×X)},k∉xs.map (·.1)->(xs.filter λx=>decide (x.1≠k))=xs
 |[],_=>rfl
 | x::r,h=>by
   rw[Tr,Tz,not_or]at h;rw[UH,Tq (by simpa using Va h.1),mq h.2]
theorem g7{W X:Type}[DecidableEq W]{k:W}:∀{xs:List (W×X)} {j:Nat} {p:X},(xs.map (·.1)).Nodup->xs[j]?=some (k,p)->xs.eraseIdx j=xs.filter λx=>decide (x.1≠k)
 |[],j,p,_,h=>by simp at h
 | x::r,0,p,a,h=>by
   simp at h;subst h;rw[Tr,T3]at a;rw[UH,on (by simp),mq a.1];rfl
 | x::r,j+1,p,a,h=>by
   rw[Tr,T3]at a;have h':r[j]?=some (k,p):=by simpa using h
   have:x.1≠k:=λz=>a.1 (by rw[z];exact T9.mpr ⟨(k,p),Ux h',rfl⟩)
   rw[UH,Tq (by simpa using this),Uv,g7 a.2 h']
theorem lI{W X:Type}{f:W->X}:∀{l:List W} {j:Nat},(l.map f).eraseIdx j=(l.eraseIdx j).map f
 |[],_=>rfl
 |_::_,0=>rfl
 |x::r,j+1=>by rw[Tr,Uv,Uv,Tr,lI]
theorem KT.drop{H:Hp}{kvs:List (List aQ×V)}{xs:List (List aQ×Addr×Value)}(r:KT H kvs xs)(k:List aQ):KT H (eM kvs k) (xs.filter λx=>decide (x.1≠k)):=by
 induction r with
 |nil=>exact .nil
 |@cons p q ps b h t a=>
   unfold eM at a ⊢;rw[List.filter_cons,List.filter_cons];by_cases e:p.1=k
   ·rw[on (by simp[e]),on (by simp[h.1.symm.trans e])];exact a
   ·rw[Tq (by simpa using e),Tq (by simpa using λz=>e (h.1.trans z))];exact .cons h a
section
variable{X:Cx}{pins:L0}{Z:St}{H:Hp}{s:Shared}{a b:Addr}{kvs:List (List aQ×V)}{k:List aQ}{v:V}{A:Around}{E:L1}
theorem NC{Q:L1}(N:A.units+1<cLine)(I:Inv X pins Z H s)(e:H a=some (.dT kvs))(S:H b=some (.tup (k.map kV)))(l:cQ kvs k=some v)
 (h:∀r s',Inv X pins Z (upd H a (.dT (eM kvs k))) s'->RelV v r->Q r s'):wpAny (model X.prog X.w) A (call (.builtin "dict.pop") [.ref a,.ref b]) Q E s:=by
 obtain⟨z,hd,xs,i,dd⟩:=Fn I.hok e;have hz:xs.length<=sizeLine:=by rw[<-Vd i];exact z
 have g:=fP I.hok S;have f:=tupleKind_room_in1 (knd:=aC X.prog X.w) N;have L:=dd.typeIs;obtain⟨o,m,ep,n,R,d,x,J,u⟩:=dd;obtain⟨r,t,y⟩:=RelO.some_of (v:=v) (o:=(atKey xs k).map (·.2)) (by rw[<-l];exact i.val k);have P:m.size=xs.length:=size_of_entries x;refine wpAny_call_entry PySem.F.slot_dict_pop L PySem.F.entry_dict_pop ?_ (PySem.F.args_dict_pop_2 _ _);unfold Builtin.«dict.pop»;refine wpAny_bind ?_;unfold Builtin.Dict.keyAndDefault;refine wpAny_bind (wpAny_notOrdered_dict L ?_);show wpAny _ _ (pure (a,Value.ref b,none)) _ _ s;refine wpAny_pure ?_;dsimp only;rw[if_neg (by simp[keyPart])];refine wpAny_bind (wpAny_dictEntries n d ?_);refine wpAny_bind (wpAny_pure ?_)
 have D:m.isEmpty=false:=by
  cases q:m.isEmpty with
  |false=>rfl
  |true=>
    have:xs=[]:=by
     have e1:m.size=0:=by simpa using q
     exact Uh.mp (by omega)
    subst this;cases t
 rw[D,if_neg Bool.false_ne_true];refine wpAny_bind ?_;unfold Builtin.Dict.takeOut
 try with_reducible refine Vf ?_
 refine Ts ((tupleKind (aC X.prog X.w)).pyHash f g ?_);refine Ts (wpAny_dictFind_heap (knd:=tupleKind (aC X.prog X.w)) (s:={s with toks:=s.toks+(tupleKind (aC X.prog X.w)).draws k}) f g n d x J u ?_ ?_)
 ·intro C;rw[atKey_none_of_get C]at t;cases t
 · intro j p G;have hp:atKey xs k=some p:=atKey_of_get u G;rw[hp]at t;have B:p.2=r:=T2 t;refine Ts (Vc (s:={s with toks:=s.toks+(tupleKind (aC X.prog X.w)).draws k}) n d ?_);rw[entry_at x j,G];refine Ts (wpAny_updateDictKeys (hz:=by omega) (s:={s with toks:=s.toks+(tupleKind (aC X.prog X.w)).draws k}) n d (TF ?_));rw[on (by simp)];refine Ts (V2 (TF ⟨_,rfl,?_⟩));show Q p.2 _;rw[B];refine h r _ ?_ y;have O:=VJ s.heap a (Obj.mapDictKeys λm=>m.eraseIdxIfInBounds j);refine kQ (s:=s) (t':=s.toks+(tupleKind (aC X.prog X.w)).draws k) I (by rw[e];exact True.intro) O ⟨_,Ug _ n (UT (Uq d _))⟩ ⟨Uk (pD kvs k) z,hd,_,(i.drop k).keeps λc T M=>?_,_,_,ep+1,Ug _ n (UT (Uq d _)),R.mapDictKeys _,Uq d _,?_,?_⟩
   ·rw[ay (DS M e (λz=>nomatch z))];exact M
   ·rw[<-g7 u G];obtain⟨el⟩:=m;have K:el=xs.map (entryOfKey (tupleKind (aC X.prog X.w))):=x;rw[Vl];show el.eraseIdx j=_;rw[K];exact lI
   ·exact(u.sublist ((List.filter_sublist).map _))
end
theorem vz{K:F0}{H:Hp}:∀{ds:List PyData} {xs:List V} {m:Nat} {x:V},Dens K H ds xs->xs[m]?=some x->∃d,ds[m]?=some d/\Den K H d x
 | [],xs,m,x,h,e=>by
   rw[Dens]at h;subst h;cases e
 | d::ds,xs,m,x,h,e=>by
   rw[Dens]at h;obtain⟨y,r,rfl,b,a⟩:=h;cases m with
   |zero=>
     cases e;exact⟨d,rfl,b⟩
   |succ m=>exact vz (m:=m) a e
theorem vw{K:F0}{H:Hp}:∀{ds:List PyData} {xs:List V},Dens K H ds xs->ds.length=xs.length
 |[],xs,h=>by rw[Dens]at h;subst h;rfl
 | d::ds,xs,h=>by
   rw[Dens]at h;obtain⟨y,r,rfl,b,a⟩:=h;rw[TD,TD,vw a]
def yR(K:F0):V->List V->Hp->VK->Prop:=λx vs H Q=>∃l xs y d ds j,x=.ref l/\vs=[y]/\H l=some (.lst xs)/\Den K H d y/\Dens K H ds xs/\SeqAt.shaped d=true/\(∀z∈ds,SeqAt.shaped z=true)/\j<ds.length/\
 (∀m e,ds[m]?=some e->m<=j->PyData.eqv e d=decide (m=j))/\Q .non (upd H l (.lst (xs.eraseIdx j)))
theorem AN{X:Cx}(S:X.A.units+66<cLine):MtM X "list.remove" (yR X.K):=by
 intro o s Z H x vs v us Q I D E h;obtain⟨l,xs,y,d,ds,j,rfl,rfl,t,hd,b,C,a,U,k,q⟩:=h;cases D;obtain⟨u,rfl,G⟩:=E.one;obtain⟨z,its,n,r,T,e⟩:=I.lstM t;have R:=vw b
 refine call_meets Wn ⟨_,e,rfl⟩ PySem.F.entry_list_remove (PySem.F.args_list_remove_2 _ _)
  (HR.sK l its.toArray n u (λm=>decide (m=j)) j (by rw[TN];omega) (by simp) (λm i=>by simpa using T8 i) (by rw[TN];omega)) ⟨e,λm i f=>?_,?_⟩
 · have g:m<its.length:=by simpa using i
   have p:xs[m]?=some xs[m]:=TV (by omega);obtain⟨c,e1,O⟩:=vz b p;obtain⟨B,w,J⟩:=r.get p
   have N:its.toArray[m]=B:=by
    rw[TV g]at w;simpa using w
   rw[N,<-k m c e1 f];obtain⟨P,M⟩:=den_reads I c O J;obtain⟨bs,L⟩:=den_reads I d hd G;exact SeqAt.eqAt_reads _ _ X.A.in1 s _ _ P bs M L (Vs (a c (Ux e1))) (Vs C) (SeqAt.room_of_shaped (a c (Ux e1)) (by show X.A.units+1+64<cLine;omega))
 · refine⟨.non,_,I.lset (its':=its.eraseIdx j) t e ?_ (r.eraseIdx j) ?_,rfl,q⟩
   ·show its.toArray.eraseIdxIfInBounds j=(its.eraseIdx j).toArray;rw[Vl]
   · have:=qT xs j
     omega
def BY(d ty:TE):TE:=λZ H Q=>d Z H λx H1=>∃a,x=.ref a/\Ku H1 a/\ty Z H1 λy c=>∃kvs k b v,c a=some (.dT kvs)/\y=.ref b/\c b=some (.tup (k.map kV))/\cQ kvs k=some v/\Q v (upd c a (.dT (eM kvs k)))
theorem n9{X:Cx}{o e:Expr}{g f:Pos}{j ty:TE}(D:X.A.units+1<cLine)(E:PE X o j)(F:PE X e ty)(m:M1 X o "pop" g e f):PE X (.Call (.Attribute o "pop" g) [e] [] f) (BY j ty):=by
 intro c s Z H Q I h;refine Vz m.base m.few m.line Ua U6 VW (bE (E c s Z H _ I h) λu r ⟨x,H1,n,w,a,ex,d,B⟩=>?_);subst ex;obtain rfl:u=Value.ref a:=w;obtain⟨q,p,_⟩:=lL n d;refine⟨q,p,?_⟩;rw[m.trees];refine UA rfl (UI (Us (bE (F c r Z H1 _ n B) λC s2 ⟨y,P,M,t,kvs,k,b,v,K,G,J,l,z⟩=>UQ ?_)));subst G;obtain rfl:C=Value.ref b:=t;exact NC D M K J l λN O L i=>⟨v,_,L,i,z⟩
theorem nE:∀{bs:List Bool} {us:List Value} {i:Nat} {u:Value},Vals (bs.map V.bl) us->us[i]?=some u->u=.bool (bs.getD i false)
 | [],us,i,u,r,e=>by
   cases r;cases e
 | b::bs,us,i,u,r,e=>by
   rw[Tr]at r;cases r with
   |cons c a=>
     cases i with
     |zero=>
       cases e;exact c
     |succ i=>
       show u=.bool (bs.getD i false);exact nE (bs:=bs) (i:=i) a (by simpa using e)
theorem nZ(bs:List Bool):((List.range bs.length).any λi=>bs.getD i false)=bs.any id:=by
 induction bs with
 |nil=>rfl
 |cons b bs a=>
   rw[TD,List.range_succ_eq_map,Vu,List.any_map,Vu,<-a];rfl
theorem Br{X:Cx}(x:X.calm=true):fe X (.builtin "any") (λxs H Q=>∃p,∃bs:List Bool,xs=[.ref p]/\SqL X.K H p (bs.map V.bl)/\Q (.bl (bs.any id)) H):=by
 intro k s Z H xs us Q I r h;obtain⟨p,bs,rfl,w,q⟩:=h;obtain⟨u,rfl,m⟩:=Vals.one r;have c:u=Value.ref p:=m;subst c;obtain⟨its,j,pl,hz⟩:=I.list w;have t:bs.length=its.length:=by rw[<-j.length,Tv]
 obtain⟨n,a,g,f⟩:=id pl.isList;have d:p<s.heap.objs.size:=TH a;refine call_any_walk (VQ pl.isList ⟨s.heap.objs.size,_,_,_,_,_,λi=>bs.getD i false,rfl,Walks.list (A:=X.A.in1) (I.ok.hd x) _ p (T8 d) its.toArray,⟨⟨_,TZ _ rfl,rfl,rfl⟩,⟨n,Tx _ a,g,f⟩⟩,λi v s' Q' D B y=>?_,λh' C kp=>?_⟩)
 ·have e:=nE j (i:=i) (u:=v) (by simpa using B);rw[e];exact Vb y
 · have e:((List.range its.toArray.size).any λi=>bs.getD i false)=bs.any id:=by
    rw[TN,<-t];exact nZ bs
   rw[e];refine⟨.bl _,H,I.kept λb o q=>kp b o (λz=>?_) (Tx _ q),rfl,q⟩;have l:b=s.heap.objs.size:=by simpa using z
   exact absurd (TH q) (by rw[l];exact Uy _)
def Oq(K:F0)(H:Hp)(v:V)(k:Int×Int×List Int):Prop:=∃p l,v=.ref p/\SqT K H p [.int k.1,.int k.2.1,.ref l]/\SqL K H l (k.2.2.map V.int)
def eI(a b:Int×Int×List Int):Bool:=HT.zc a.1 a.2.1 a.2.2 b.1 b.2.1 b.2.2
theorem nc:∀{vs:List V} {us:List Value} {i:Nat} {u:Value},Vals vs us->us[i]?=some u->∃v,vs[i]?=some v/\RelV v u
 |[],us,i,u,r,e=>by cases r;cases e
 | v::vs,us,i,u,r,e=>by
   cases r with
   |cons b a=>
     cases i with
     |zero=>cases e;exact⟨v,rfl,b⟩
     |succ i=>exact nc (i:=i) a (by simpa using e)
theorem jY(a:Nat->Nat->Bool):∀k,argBest a k<=k
 |0=>TM _
 | k+1=>by
   unfold argBest;split
   ·exact TM _
   ·exact Wl (jY a k)
theorem yc{X:Cx}(hc:X.calm=true)(hu:X.A.units+101<cLine):jg X (.builtin "min") ["default"] (λxs D H Q=>∃p vs d,∃c:List (Int×Int×List Int),xs=[.ref p]/\D=[d]/\SqL X.K H p vs/\vs.length=c.length/\(∀i v,vs[i]?=some v->Oq X.K H v (c.getD i (0,0,[])))/\
 (vs=[]->Q d H)/\∀v,vs[argBest (λi j=>eI (c.getD i (0,0,[])) (c.getD j (0,0,[]))) (vs.length-1)]?=some v->Q v H):=by
 intro g s Z H xs D us ws Q I r P h;obtain⟨p,vs,d,c,rfl,rfl,hq,L,M,U,T⟩:=h;obtain⟨u,rfl,R⟩:=Vals.one r;have t:u=Value.ref p:=R;subst t;obtain⟨dv,rfl,rd⟩:=Vals.one P;obtain⟨its,m,pl,hz⟩:=I.list hq;have J:vs.length=its.length:=m.length;obtain⟨ol,k,C,B⟩:=id pl.isList;have l:p<s.heap.objs.size:=TH k;refine wk false (VQ pl.isList ⟨s.heap.objs.size,_,_,_,_,_,λi j=>eI (c.getD i (0,0,[])) (c.getD j (0,0,[])),λs'=>∃h' f,s'={s with heap:=h',toks:=f}/\∀b o,s.heap.get? b=some o->h'.get? b=some o,rfl,Walks.list (A:=X.A.in1) (I.ok.hd hc) _ p (T8 l) its.toArray,⟨⟨_,TZ _ rfl,rfl,rfl⟩,⟨ol,Tx _ k,C,B⟩⟩,λb hb=>?_,?_,?_,?_,λe h' f kp=>?_,λe v h' f pv kp=>?_⟩)
 · rw[VB];rcases Tz.mp hb with z|z
   ·rw[z];exact VZ _
   · have a:b=p:=by simpa using z
     rw[a];exact Wj l
 ·exact⟨_,_,rfl,λb o e=>Tx _ e⟩
 · rintro s' h' f ⟨N,G,rfl,k1⟩ kp;refine⟨h',f,rfl,λb o e=>kp b o (λz=>?_) (λz=>?_) (k1 b o e)⟩
   · have a:b=s.heap.objs.size:=by simpa using z
     exact absurd (TH e) (by rw[a];exact Uy _)
   · have a:b=s.heap.objs.size+1:=by rw[z,VB]
     exact absurd (TH e) (by rw[a];exact Nat.not_lt.mpr (Nat.le_succ _))
 ·rintro i j F E s' Q' E' ⟨N,G,rfl,k1⟩ W V y;have I1:Inv X g Z H {s with heap:=N,toks:=G}:=I.kept k1;obtain⟨n,e1,x⟩:=nc m (i:=i) (u:=F) (by simpa using W);obtain⟨O,e2,S⟩:=nc m (i:=j) (u:=E) (by simpa using V);obtain⟨p1,l1,rfl,a1,b1⟩:=M i n e1;obtain⟨Y,l2,rfl,a2,b2⟩:=M j O e2;obtain rfl:F=Value.ref p1:=x;obtain rfl:E=Value.ref Y:=S;exact M9 (A:=X.A.in1) (by show X.A.units+1+100<cLine;omega) I1 a1 a2 b1 b2 X.prog X.w E' Q' y
 · have en:vs=[]:=Uh.mp (by rw[J];simpa using e);refine⟨d,H,I.kept λb o q=>kp b o (λz=>?_) (Tx _ q),rd,U en⟩;have a:b=s.heap.objs.size:=by simpa using z
   exact absurd (TH q) (by rw[a];exact Uy _)
 · rw[show its.toArray.size-1=vs.length-1 by rw[TN,J],WI]at pv;obtain⟨n,e1,x⟩:=nc m pv;refine⟨n,H,I.kept λb o q=>kp b o (λz=>?_) (Tx _ q),x,T _ e1⟩;have a:b=s.heap.objs.size:=by simpa using z
   exact absurd (TH q) (by rw[a];exact Uy _)
end L2
namespace Mi
open PySem L2
inductive D where
 |non|bl (b:Bool)|int (i:Int)|str (x:Str)|ty (n:String)
 |lst (xs:List D)|tup (xs:List D)|scr (xs:List D)
 |dK (ks:List aQ) (vs:List D)|dT (ks:List (List aQ)) (vs:List D)
 |obj (c:Nat) (ns:List Str) (vs:List D)
abbrev L4:=List (Option D)
inductive Res (W:Type) where
 |ok (a:W)|exc (c:Nat)|bad
inductive Out (W:Type) where
 |ok (a:W) (T:L4)|exc (c:Nat) (T:L4)|bad
inductive SO where
 |nx (T:L4)|rt (d:D) (T:L4)|bk (T:L4)|ct (T:L4)|exc (c:Nat) (T:L4)|bad
@[simp] def Res.bind{W X:Type}:Res W->(W->Res X)->Res X
 |.ok a,f=>f a
 |.exc c,_=>.exc c
 |.bad,_=>.bad
@[simp] def Res.calm{W:Type}:Res W->Res W
 |.ok a=>.ok a
 |_=>.bad
@[simp] def Out.bind{W X:Type}:Out W->(W->L4->Out X)->Out X
 |.ok a T,f=>f a T
 |.exc c T,_=>.exc c T
 |.bad,_=>.bad
@[simp] def Res.up{W:Type}(T:L4):Res W->Out W
 |.ok a=>.ok a T
 |.exc c=>.exc c T
 |.bad=>.bad
def rg{W:Type}(l:List (Option W))(i:Nat):Option W:=(l[i]?).join
@[simp] def vr(i:Nat):L4->Res D:=λT=>match rg T i with|some d=>.ok d|none=>.bad
def aW(d:D):L4->Res D:=λ_=>.ok d
def un(f:D->Res D)(a:L4->Res D):L4->Res D:=λT=>(a T).bind f
def bn(f:D->D->Res D)(a b:L4->Res D):L4->Res D:=λT=>(a T).bind λx=>(b T).bind λy=>f x y
def ao:Nat:=1000000
def iI(g:Int->Int->Int):D->D->Res D | .int i,.int j=>.ok (.int (g i j))|_,_=>.bad
def iB(g:Int->Int->Bool):D->D->Res D | .int i,.int j=>.ok (.bl (g i j))|_,_=>.bad
def iC(C:Int->Int->Bool)(g:Int->Int->Int):D->D->Res D | .int i,.int j=>if C i j=true then .ok (.int (g i j)) else .bad|_,_=>.bad
def qt:=iI λi j=>i+j
def B9:=iI λi j=>i-j
def AM:=iC (λi j=>decide ((-(2 ^ 64)<i/\i<2 ^ 64)\/(-(2 ^ 64)<j/\j<2 ^ 64))) λi j=>i*j
def jz:=iC (λ_ j=>decide (0<j/\j<1073741824)) λi j=>i / j
def jH:=iC (λ_ j=>decide (0<j)) λi j=>i%j
def Cj:=iC (λ_ j=>decide (0<=j)) λi j=>i / 2 ^ j.toNat
def ql:=iI λi j=>if j<i then j else i
def qm:=iI λi j=>if j>i then j else i
def HF:=iB λi j=>decide (i<j)
def No:=iB λi j=>decide (j<i)
def QW:=iB λi j=>decide (j<=i)
@[simp] theorem RX(i j:Int):qt (.int i) (.int j)=.ok (.int (i+j)):=rfl
@[simp] theorem ON(i j:Int):B9 (.int i) (.int j)=.ok (.int (i-j)):=rfl
@[simp] theorem DT(i j:Int):AM (.int i) (.int j)=if (-(2 ^ 64)<i/\i<2 ^ 64)\/(-(2 ^ 64)<j/\j<2 ^ 64) then .ok (.int (i*j)) else .bad:=by simp[AM,iC]
@[simp] theorem Bc(i j:Int):jz (.int i) (.int j)=if 0<j/\j<1073741824 then .ok (.int (i / j)) else .bad:=by simp[jz,iC]
@[simp] theorem D7(i j:Int):jH (.int i) (.int j)=if 0<j then .ok (.int (i%j)) else .bad:=by simp[jH,iC]
@[simp] theorem Ci(i j:Int):Cj (.int i) (.int j)=if 0<=j then .ok (.int (i / 2 ^ j.toNat)) else .bad:=by simp[Cj,iC]
@[simp] theorem QF(i j:Int):ql (.int i) (.int j)=.ok (.int (if j<i then j else i)):=rfl
@[simp] theorem QI(i j:Int):qm (.int i) (.int j)=.ok (.int (if j>i then j else i)):=rfl
@[simp] theorem Su(i j:Int):HF (.int i) (.int j)=.ok (.bl (decide (i<j))):=rfl
@[simp] theorem Sx(i j:Int):No (.int i) (.int j)=.ok (.bl (decide (j<i))):=rfl
@[simp] theorem Sy(i j:Int):QW (.int i) (.int j)=.ok (.bl (decide (j<=i))):=rfl
def Ho:D->Res D | .int i=>.ok (.int (-i))|_=>.bad
def Mt:D->Res D | .bl b=>.ok (.bl (!b))|_=>.bad
def jq(neg:Bool):D->D->Res D
 |.int i,.int j=>.ok (.bl (neg.xor (decide (i=j))))
 |.str i,.str j=>.ok (.bl (neg.xor (decide (i=j))))
 |.bl i,.bl j=>.ok (.bl (neg.xor (decide (i=j))))
 |.non,.int _=>.ok (.bl neg)
 |.int _,.non=>.ok (.bl neg)
 |.non,.non=>.ok (.bl (!neg))
 |_,_=>.bad
def oZ:D->Bool | .non=>true|_=>false
def mX:D->Res D
 |.lst xs=>.ok (.int xs.length)
 |.tup xs=>.ok (.int xs.length)
 |.scr xs=>.ok (.int xs.length)
 |_=>.bad
def Ip(xs:List D)(i:Int):Res D:=match lp xs i with|some d=>.ok d|none=>.bad
def E3:D->D->Res D | .lst xs,.int i=>Ip xs i | .scr xs,.int i=>Ip xs i|_,_=>.bad
def ze:D->D->Res D | .tup xs,.int i=>Ip xs i|_,_=>.bad
def F5:D->D->Res D | .lst xs,.lst a=>if xs.length+a.length<=ao then .ok (.lst (xs++a)) else .bad|_,_=>.bad
def sL:D->Res D | .lst xs=>.ok (.lst xs) | .scr xs=>.ok (.lst xs) | .tup xs=>.ok (.lst xs)|_=>.bad
def eJ:D->Option aQ | .int i=>some (.inl i) | .str x=>some (.inr x)|_=>none
def bT:List D->Option (List aQ)
 |[]=>some []
 |d::r=>match eJ d,bT r with|some k,some a=>some (k::a)|_,_=>none
section
variable{W:Type}[DecidableEq W]
def bC:List W->List D->W->Option D
 |k::a,d::ds,j=>if k=j then some d else bC a ds j
 |_,_,_=>none
def cF(a:List W)(j:W):Bool:=a.any λk=>decide (k=j)
def iL:List W->List D->W->D->List D
 |k::a,d::ds,j,x=>(if k=j then x else d)::iL a ds j x
 |_,_,_,_=>[]
def dL:List W->List D->W->D->List D
 |k::a,d::ds,j,x=>if k=j then x::ds else d::dL a ds j x
 |_,_,_,_=>[]
end
def jx:D->D->Option (Option D)
 |.dT a vs,.tup k=>(bT k).map λk=>bC a vs k
 |.dK a vs,k=>(eJ k).map λk=>bC a vs k
 |_,_=>none
def rH(d k:D):Res D:=match jx d k with|some (some x)=>.ok x|_=>.bad
def m8(neg:Bool)(k d:D):Res D:=match jx d k with|some x=>.ok (.bl (neg.xor x.isSome))|none=>.bad
def gu(d k x:D):Res D:=match jx d k with|some (some y)=>.ok y|some none=>.ok x|none=>.bad
def rD:D->D->D->Option D
 |.dT a vs,.tup k,x=>(bT k).bind λk=>if a.length<ao then some (if cF a k=true then .dT a (iL a vs k x) else .dT (a++[k]) (vs++[x])) else none
 |.dK a vs,k,x=>(eJ k).bind λk=>if a.length<ao then some (if cF a k=true then .dK a (iL a vs k x) else .dK (a++[k]) (vs++[x])) else none
 |_,_,_=>none
def bL(c:Nat)(f:Str):D->Res D
 |.obj a ns vs=>if a=c then (match bC ns vs f with|some x=>.ok x|none=>.bad) else .bad
 |_=>.bad
def lX(a:Nat)(f:Str)(x:D):D->Option D
 |.obj c ns vs=>if c=a/\ns.length<900 then some (if cF ns f=true then .obj c ns (dL ns vs f x) else .obj c (ns++[f]) (vs++[x])) else none
 |_=>none
def Gs:D->Res Bool | .bl b=>.ok b|_=>.bad
def bj:L4->Res (List D):=λ_=>.ok []
def aE(a:L4->Res D)(r:L4->Res (List D)):L4->Res (List D):=λT=>(a T).bind λx=>(r T).bind λxs=>.ok (x::xs)
def nj(r:L4->Res (List D)):L4->Res D:=λT=>(r T).bind λxs=>if xs.length<=ao then .ok (.lst xs) else .bad
def jZ(r:L4->Res (List D)):L4->Res D:=λT=>(r T).bind λxs=>if xs.length<=ao then .ok (.tup xs) else .bad
def d5(T:L4)(ix:List Nat):L4:=ix.map λj=>rg T j
def bD(a:L4->Res Bool)(te:L4->Res D)(cap:L4):List D->Res (List D)
 |[]=>.ok []
 |d::r=>(a (some d::cap)).calm.bind λc=>if c=true then (te (some d::cap)).calm.bind λx=>(bD a te cap r).bind λxs=>.ok (x::xs) else bD a te cap r
def iD(src:L4->Res (List D))(ix:List Nat)(b:L4->Res Bool)(te:L4->Res D):L4->Res D:=λT=>(src T).bind λxs=>if xs.length<ao then (bD b te (d5 T ix) xs).bind λa=>.ok (.lst a) else .bad
def nH(a:L4->Res D):L4->Res (List D):=λT=>(a T).bind λd=>match d with | .lst xs=>.ok xs | .scr xs=>.ok xs|_=>.bad
def rng(lo hi:Int):List D:=(List.range (hi-lo).toNat).map λi:Nat=>D.int (lo+i)
def Ca(a b:L4->Res D):L4->Res (List D):=λT=>(a T).bind λx=>(b T).bind λy=>match x,y with
 |.int i,.int j=>if -(2 ^ 62)<=i/\i<2 ^ 62/\-(2 ^ 62)<=j/\j<2 ^ 62 then .ok (rng i j) else .bad
 |_,_=>.bad
def iq(b:L4->Res D):L4->Res (List D):=Ca (aW (.int 0)) b
def az(a b:L4->SO):L4->SO:=λT=>match a T with | .nx G=>b G | o=>o
def bM:L4->SO:=λT=>.nx T
def Lw:L4->SO:=λT=>.rt .non T
@[simp] def io{W:Type}:Out W->(W->L4->SO)->SO
 |.ok a T,f=>f a T
 |.exc c T,_=>.exc c T
 |.bad,_=>.bad
abbrev MD:=L4->Out D
def aV{W:Type}(a:L4->Res W):L4->Out W:=λT=>(a T).up T
def b8(a:MD):L4->SO:=λT=>io (a T) λd G=>.rt d G
def bb(a:MD):L4->SO:=λT=>io (a T) λ_ G=>.nx G
def cZ(i:Nat)(a:MD):L4->SO:=λT=>io (a T) λd G=>.nx (G.set i (some d))
def gx(c:L4->Out Bool)(a b:L4->SO):L4->SO:=λT=>io (c T) λt G=>if t=true then a G else b G
def sV(a:D->L4->Option L4)(body:L4->SO):List D->L4->SO
 |[],T=>.nx T
 | d::ds,T=>match a d T with
   |none=>.bad
   | some b=>match body b with
     |.nx G=>sV a body ds G
     |.ct G=>sV a body ds G
     |.bk G=>.nx G
     |o=>o
def l6(src:L4->Out (List D))(a:D->L4->Option L4)(body:L4->SO):L4->SO:=λT=>io (src T) λxs G=>sV a body xs G
def II(i:Nat):D->L4->Option L4:=λd T=>some (T.set i (some d))
def OE(i j:Nat):D->L4->Option L4:=λd T=>match d with | .tup [x,y]=>some ((T.set i (some x)).set j (some y))|_=>none
def run(k:Nat)(body:L4->SO)(ds:List D):Out D:=match body (ds.map some++List.replicate (k-ds.length) none) with
 |.nx T=>.ok .non T
 |.rt d T=>.ok d T
 |.exc c T=>.exc c T
 |_=>.bad
structure Cm where
 f:Nat->Addr
 K:F0
 tb:Tbs
instance:CoeFun Cm λ_=>Nat->Addr:=⟨Cm.f⟩
def SqF(K:F0)(B:Hp)(a:Addr)(xs:List V):Prop:=(∃o,B a=some (.frz o (.lst xs)))\/
 ∃(o:Obj) (its:Array Value) (n:Nat),K.lookup a=some o/\o.cls=.type "list" /\ o.dict=none/\o.data=.seq its n/\its.size<=sizeLine/\Vals xs its.toList
theorem SqF.mono{K:F0}{B S:Hp}{a:Addr}{xs:List V}(h:SqF K B a xs)(e:Same B S):SqF K S a xs:=by
 rcases h with ⟨o,h⟩|h
 ·exact .inl ⟨o,e _ _ h⟩
 ·exact .inr h
theorem SqF.sq{K:F0}{H:Hp}{a:Addr}{xs:List V}(h:SqF K H a xs):SqL K H a xs:=by
 rcases h with ⟨o,h⟩|h
 ·exact .inl (.inr ⟨o,h⟩)
 ·exact .inr h
theorem kc{B S:Hp}{a:Addr}{u:HO}(e:Same B S)(h:Rd B a u):Rd S a u:=by
 rcases h with h|⟨o,h⟩
 ·exact .inl (e _ _ h)
 ·exact .inr ⟨o,e _ _ h⟩
section
variable(Y:Cm)
mutual
def Dn(B:Hp):D->V->Prop
 |.non,v=>v=.non
 |.bl b,v=>v=.bl b
 |.int i,v=>v=.int i
 |.str x,v=>v=.str x
 |.ty n,v=>v=.ty n
 |.lst ds,v=>∃a xs,v=.ref a/\B a=some (.lst xs)/\Dns B ds xs
 |.scr ds,v=>∃a xs,v=.ref a/\SqF Y.K B a xs/\Dns B ds xs
 |.tup ds,v=>∃a xs,v=.ref a/\B a=some (.tup xs)/\Dns B ds xs
 |.dK d ds,v=>∃(a:Addr) (kvs:List (aQ×V)),v=.ref a/\B a=some (.dK kvs)/\kvs.map (·.1)=d/\Dns B ds (kvs.map (·.2))
 |.dT d ds,v=>∃(a:Addr) (kvs:List (List aQ×V)),v=.ref a/\Rd B a (.dT kvs)/\kvs.map (·.1)=d/\Dns B ds (kvs.map (·.2))
 |.obj c ns ds,v=>∃(a dx:Addr) (fs:List (Str×V)),v=.ref a/\B a=some (.ins (Y c) dx fs)/\fs.map (·.1)=ns/\Dns B ds (fs.map (·.2))
def Dns(B:Hp):List D->List V->Prop
 |[],xs=>xs=[]
 |d::ds,xs=>∃x r,xs=x::r/\Dn B d x/\Dns B ds r
end
inductive Sh where
 |fz|ct (s:Sh)|ob (fs:List (Str×Sh))
mutual
def Ow(B H:Hp):D->Sh->V->List Addr->Prop
 |d,.fz,v,A=>Dn Y B d v/\A=[]
 |.lst ds,.ct s,v,A=>∃a xs b,v=.ref a/\H a=some (.lst xs)/\A=a::b/\Ows B H ds s xs b
 |.dK e ds,.ct s,v,A=>∃(a:Addr) (kvs:List (aQ×V)) (b:List Addr),v=.ref a/\H a=some (.dK kvs)/\kvs.map (·.1)=e/\A=a::b/\Ows B H ds s (kvs.map (·.2)) b
 |.dT e ds,.ct s,v,A=>∃(a:Addr) (kvs:List (List aQ×V)) (b:List Addr),v=.ref a/\H a=some (.dT kvs)/\kvs.map (·.1)=e/\A=a::b/\Ows B H ds s (kvs.map (·.2)) b
 |.obj c ns ds,.ob fs,v,A=>∃(a dx:Addr) (xs:List (Str×V)) (b:List Addr),v=.ref a/\H a=some (.ins (Y c) dx xs)/\xs.map (·.1)=ns/\A=a::b/\Owf B H ds ns fs (xs.map (·.2)) b
 |_,_,_,_=>False
def Ows(B H:Hp):List D->Sh->List V->List Addr->Prop
 |[],_,xs,A=>xs=[]/\A=[]
 |d::ds,s,xs,A=>∃x r A1 a,xs=x::r/\A=A1++a/\Ow B H d s x A1/\Ows B H ds s r a
def Owf(B H:Hp):List D->List Str->List (Str×Sh)->List V->List Addr->Prop
 |[],_,_,xs,A=>xs=[]/\A=[]
 |d::ds,ns,fs,xs,A=>∃n a x r A1 b,ns=n::a/\xs=x::r/\A=A1++b/\Ow B H d ((fs.lookup n).getD .fz) x A1/\Owf B H ds a fs r b
end
inductive Md where
 |F|R|O (s:Sh)
def LoV(B U H:Hp)(m:Md)(d:D)(v:V)(A:List Addr):Prop:=
 match m with
 |.F=>Dn Y B d v/\A=[]
 |.R=>Dn Y U d v/\A=[]
 |.O sh=>Ow Y B H d sh v A
def Lo(B U H:Hp)(m:Md)(o:Option D)(s:Option V)(A:List Addr):Prop:=
 match o with
 |none=>A=[]
 |some d=>∃v,s=some v/\LoV Y B U H m d v A
structure Rel (M:List Md) (B U:Hp) (I:Nat->List Addr) (Z:St) (H:Hp) (T:L4):Prop where
 bu:Same B U
 uh:Same U H
 nd:∀i,(I i).Nodup
 dj:∀i j a,i≠j->a∈I i->a∉I j
 un:∀i a,a∈I i->U a=none
 lo:∀i,Lo Y B U H (M.getD i .F) (rg T i) (rg Z i) (I i)
 len:T.length=Z.length
 tb:∀p∈Y.tb,∃l,B p.1=some (.tbl l)/\p.2∈l
end
def fQ(o:HO):Prop:=∃xs,o=.tup xs
structure Ex (B U S J:Hp):Prop where
 b:Same B S
 u:Same U J
 nb:∀a o,S a=some o->B a=some o\/U a=none\/fQ o
theorem Ex.refl(B U:Hp):Ex B U B U:=⟨Same.refl _,Same.refl _,λ_ _ h=>.inl h⟩
theorem Ex.trans{B U B1 U1 e d:Hp}(a:Ex B U B1 U1)(b:Ex B1 U1 e d):Ex B U e d:=
 ⟨a.b.trans b.b,a.u.trans b.u,λc o h=>by
  rcases b.nb c o h with h|h|h
  ·exact a.nb c o h
  ·exact .inr (.inl (a.u.free h))
  ·exact .inr (.inr h)⟩
section
variable{Y:Cm}
def nd:HO->Prop
 |.dT _=>False
 |.frz _ (.dT _)=>False
 |_=>True
def Hm(G a:Hp):Prop:=(∀b x,G b=some x->nd x->a b=some x)/\∀b k,Rd G b (.dT k)->Rd a b (.dT k)
mutual
theorem Dn.imp{B S:Hp}(e:Hm B S):∀{d:D} {v:V},Dn Y B d v->Dn Y S d v:=by
 intro d v h;cases d <;> rw[Dn]at h ⊢ <;> first | exact h | (obtain⟨a,xs,r,c,b⟩:=h;first | exact⟨a,xs,r,e.1 _ _ c trivial,Dns.imp e b⟩ | exact⟨a,xs,r,e.1 _ _ c trivial,b.1,Dns.imp e b.2⟩ | exact⟨a,xs,r,e.2 _ _ c,b.1,Dns.imp e b.2⟩ | exact⟨a,xs,r,c.imp (λ⟨o,q⟩=>⟨o,e.1 _ _ q trivial⟩) id,Dns.imp e b⟩) | (obtain⟨a,dx,xs,r,c,b,f⟩:=h;exact⟨a,dx,xs,r,e.1 _ _ c trivial,b,Dns.imp e f⟩)
theorem Dns.imp{B S:Hp}(e:Hm B S):∀{ds:List D} {xs:List V},Dns Y B ds xs->Dns Y S ds xs
 |[],_,h=>by rw[Dns]at h ⊢;exact h
 | d::ds,_,h=>by
   rw[Dns]at h ⊢;obtain⟨x,r,h0,b,a⟩:=h;exact⟨x,r,h0,Dn.imp e b,Dns.imp e a⟩
end
theorem Hm.of{B S:Hp}(e:Same B S):Hm B S:=⟨λb x q _=>e b x q,λ_ _=>kc e⟩
theorem Dn.mono{B S:Hp}(e:Same B S){d:D}{v:V}:Dn Y B d v->Dn Y S d v:=Dn.imp (.of e)
theorem Dns.mono{B S:Hp}(e:Same B S){ds:List D}{xs:List V}:Dns Y B ds xs->Dns Y S ds xs:=Dns.imp (.of e)
theorem Dns.len{B:Hp}:∀{ds:List D} {xs:List V},Dns Y B ds xs->ds.length=xs.length
 |[],_,h=>by rw[Dns]at h;subst h;rfl
 | d::ds,_,h=>by
   rw[Dns]at h;obtain⟨x,r,rfl,_,a⟩:=h;rw[TD,TD,Dns.len a]
theorem Dns.get{B:Hp}:∀{ds:List D} {xs:List V} {i:Nat} {d:D},Dns Y B ds xs->ds[i]?=some d->∃x,xs[i]?=some x/\Dn Y B d x
 |[],_,_,_,_,e=>by cases e
 | d::ds,_,i,d',h,e=>by
   rw[Dns]at h;obtain⟨x,r,rfl,b,a⟩:=h;cases i with
   |zero=>cases e;exact⟨x,rfl,b⟩
   |succ i=>exact Dns.get (i:=i) a (by simpa using e)
theorem Dns.geti{B:Hp}:∀{ds:List D} {xs:List V} {i:Nat} {x:V},Dns Y B ds xs->xs[i]?=some x->∃d,ds[i]?=some d/\Dn Y B d x
 |[],_,_,_,h,e=>by rw[Dns]at h;subst h;cases e
 | d::ds,_,i,c,h,e=>by
   rw[Dns]at h;obtain⟨x,r,rfl,b,a⟩:=h;cases i with
   |zero=>cases e;exact⟨d,rfl,b⟩
   |succ i=>exact Dns.geti (i:=i) a (by simpa using e)
theorem Dns.append{B:Hp}:∀{ds b:List D} {xs a:List V},Dns Y B ds xs->Dns Y B b a->Dns Y B (ds++b) (xs++a)
 |[],_,_,_,h,k=>by rw[Dns]at h;subst h;exact k
 | d::ds,_,_,_,h,k=>by
   rw[Dns]at h;obtain⟨x,r,rfl,e,c⟩:=h;rw[VE,VE,Dns];exact⟨x,_,rfl,e,Dns.append c k⟩
theorem Dns.one{B:Hp}{d:D}{v:V}(h:Dn Y B d v):Dns Y B [d] [v]:=by
 rw[Dns];exact⟨v,[],rfl,h,by rw[Dns]⟩
theorem Dns.drop{B:Hp}:∀{ds:List D} {xs:List V} (n:Nat),Dns Y B ds xs->Dns Y B (ds.drop n) (xs.drop n)
 |[],_,n,h=>by rw[Dns]at h;subst h;rw[List.drop_nil,List.drop_nil,Dns]
 | d::ds,_,n,h=>by
   cases n with
   |zero=>exact h
   |succ n=>
     rw[Dns]at h;obtain⟨x,r,rfl,b,a⟩:=h;exact Dns.drop n a
theorem Dns.erase{B:Hp}:∀{ds:List D} {xs:List V} (n:Nat),Dns Y B ds xs->Dns Y B (ds.eraseIdx n) (xs.eraseIdx n)
 |[],_,n,h=>by rw[Dns]at h;subst h;rw[List.eraseIdx_nil,List.eraseIdx_nil,Dns]
 | d::ds,_,n,h=>by
   rw[Dns]at h;obtain⟨x,r,rfl,b,a⟩:=h;cases n with
   |zero=>exact a
   |succ n=>
     rw[Uv,Uv,Dns];exact⟨x,_,rfl,b,Dns.erase n a⟩
theorem Dns.set{B:Hp}{d':D}{v:V}(hd:Dn Y B d' v):∀{ds:List D} {xs:List V} (n:Nat),Dns Y B ds xs->Dns Y B (ds.set n d') (xs.set n v)
 |[],_,n,h=>by rw[Dns]at h;subst h;rw[List.set_nil,List.set_nil,Dns]
 | d::ds,_,n,h=>by
   rw[Dns]at h;obtain⟨x,r,rfl,b,a⟩:=h;cases n with
   |zero=>rw[Wc,Wc,Dns];exact⟨v,r,rfl,hd,a⟩
   |succ n=>
     rw[Wd,Wd,Dns];exact⟨x,_,rfl,b,Dns.set hd n a⟩
mutual
theorem Ow.imp{B S H H':Hp}(e:∀{d v},Dn Y B d v->Dn Y S d v):∀{d:D} {s:Sh} {v:V} {A:List Addr},(∀a∈A,H' a=H a)->Ow Y B H d s v A->Ow Y S H' d s v A:=by
 intro d s v A k h;cases s with
 |fz=>rw[Ow]at h ⊢;exact⟨e h.1,h.2⟩
 |ct s=>cases d <;> first | (simp[Ow]at h;done) | (rw[Ow]at h ⊢;obtain⟨a,xs,j,r,i,g,f⟩:=h;subst g;exact⟨a,xs,j,r,by rw[k a Tu];exact i,rfl,Ows.imp e (λb c=>k b (Tt _ c)) f⟩) | (rw[Ow]at h ⊢;obtain⟨a,xs,j,r,i,g,f,l⟩:=h;subst f;exact⟨a,xs,j,r,by rw[k a Tu];exact i,g,rfl,Ows.imp e (λb c=>k b (Tt _ c)) l⟩)
 |ob fs=>cases d <;> first | (simp[Ow]at h;done) | (rw[Ow]at h ⊢;obtain⟨a,dx,xs,j,r,i,g,f,l⟩:=h;subst f;exact⟨a,dx,xs,j,r,by rw[k a Tu];exact i,g,rfl,Owf.imp e (λb c=>k b (Tt _ c)) l⟩)
theorem Ows.imp{B S H H':Hp}(e:∀{d v},Dn Y B d v->Dn Y S d v):∀{ds:List D} {s:Sh} {xs:List V} {A:List Addr},(∀a∈A,H' a=H a)->Ows Y B H ds s xs A->Ows Y S H' ds s xs A
 |[],_,_,_,_,h=>by rw[Ows]at h ⊢;exact h
 | d::ds,s,xs,A,k,h=>by
   rw[Ows]at h ⊢;obtain⟨x,r,A1,j,h0,i,g,f⟩:=h;subst i;exact⟨x,r,A1,j,h0,rfl,Ow.imp e (λb c=>k b (TL _ c)) g,Ows.imp e (λb c=>k b (Tw _ c)) f⟩
theorem Owf.imp{B S H H':Hp}(e:∀{d v},Dn Y B d v->Dn Y S d v):∀{ds:List D} {ns:List Str} {fs:List (Str×Sh)} {xs:List V} {A:List Addr},(∀a∈A,H' a=H a)->Owf Y B H ds ns fs xs A->Owf Y S H' ds ns fs xs A
 |[],_,_,_,_,_,h=>by rw[Owf]at h ⊢;exact h
 | d::ds,ns,fs,xs,A,k,h=>by
   rw[Owf]at h ⊢;obtain⟨n,c,x,r,A1,m,g,h0,l,j,i⟩:=h;subst l;exact⟨n,c,x,r,A1,m,g,h0,rfl,Ow.imp e (λb f=>k b (TL _ f)) j,Owf.imp e (λb f=>k b (Tw _ f)) i⟩
end
section
variable{B S H H':Hp}(e:Same B S){A:List Addr}(k:∀a∈A,H' a=H a){s:Sh}
include e k
theorem Ow.mono{d:D}{v:V}:Ow Y B H d s v A->Ow Y S H' d s v A:=Ow.imp (Dn.mono e) k
theorem Ows.mono{ds:List D}{xs:List V}:Ows Y B H ds s xs A->Ows Y S H' ds s xs A:=Ows.imp (Dn.mono e) k
theorem Owf.mono{ds:List D}{ns:List Str}{fs:List (Str×Sh)}{xs:List V}:Owf Y B H ds ns fs xs A->Owf Y S H' ds ns fs xs A:=Owf.imp (Dn.mono e) k
end
end
section
variable{Y:Cm}
mutual
theorem Ow.dn{B H G:Hp}(e:Same B G):∀{d:D} {s:Sh} {v:V} {A:List Addr},(∀a∈A,∀o,H a=some o->G a=some o)->Ow Y B H d s v A->Dn Y G d v:=by
 intro d s v A k h;cases s with
 |fz=>rw[Ow]at h;exact h.1.mono e
 |ct s=>cases d <;> first | (simp[Ow]at h;done) | (rw[Ow]at h;obtain⟨a,xs,l,r,i,c,g⟩:=h;subst c;rw[Dn];exact⟨a,xs,r,k a Tu _ i,Ows.dn e (λb f=>k b (Tt _ f)) g⟩) | (rw[Ow]at h;obtain⟨a,xs,l,r,i,c,g,j⟩:=h;subst g;rw[Dn];have q:=Ows.dn e (λb f=>k b (Tt _ f)) j;have p:=k a Tu _ i;first | exact⟨a,xs,r,p,c,q⟩ | exact⟨a,xs,r,.inl p,c,q⟩)
 |ob fs=>cases d <;> first | (simp[Ow]at h;done) | (rw[Ow]at h;obtain⟨a,dx,xs,l,r,i,c,g,j⟩:=h;subst g;rw[Dn];exact⟨a,dx,xs,r,k a Tu _ i,c,Owf.dn e (λb f=>k b (Tt _ f)) j⟩)
theorem Ows.dn{B H G:Hp}(e:Same B G):∀{ds:List D} {s:Sh} {xs:List V} {A:List Addr},(∀a∈A,∀o,H a=some o->G a=some o)->Ows Y B H ds s xs A->Dns Y G ds xs
 |[],_,_,_,_,h=>by rw[Ows]at h;rw[Dns];exact h.1
 | d::ds,s,xs,A,k,h=>by
   rw[Ows]at h;obtain⟨x,r,A1,j,h0,i,g,f⟩:=h;subst i;rw[Dns];exact⟨x,r,h0,Ow.dn e (λb c=>k b (TL _ c)) g,Ows.dn e (λb c=>k b (Tw _ c)) f⟩
theorem Owf.dn{B H G:Hp}(e:Same B G):∀{ds:List D} {ns:List Str} {fs:List (Str×Sh)} {xs:List V} {A:List Addr},(∀a∈A,∀o,H a=some o->G a=some o)->Owf Y B H ds ns fs xs A->Dns Y G ds xs
 |[],_,_,_,_,_,h=>by rw[Owf]at h;rw[Dns];exact h.1
 | d::ds,ns,fs,xs,A,k,h=>by
   rw[Owf]at h;obtain⟨n,f,x,r,A1,m,l,h0,j,i,g⟩:=h;subst j;rw[Dns];exact⟨x,r,h0,Ow.dn e (λb c=>k b (TL _ c)) i,Owf.dn e (λb c=>k b (Tw _ c)) g⟩
end
mutual
theorem Ow.at2{B H:Hp}:∀{d:D} {s:Sh} {v:V} {A:List Addr} {a:Addr},Ow Y B H d s v A->a∈A->∃o,H a=some o/\¬ fQ o:=by
 intro d s v A a h m;cases s with
 |fz=>rw[Ow]at h;rw[h.2]at m;cases m
 |ct s=>cases d <;> first | (simp[Ow]at h;done) | (rw[Ow]at h;obtain⟨b,xs,j,r,f,i,c⟩:=h;subst i;exact(Tz.mp m).elim (λe=>by subst e;exact⟨_,f,λ⟨_,z⟩=>nomatch z⟩) (Ows.at2 c)) | (rw[Ow]at h;obtain⟨b,xs,j,r,f,i,c,g⟩:=h;subst c;exact(Tz.mp m).elim (λe=>by subst e;exact⟨_,f,λ⟨_,z⟩=>nomatch z⟩) (Ows.at2 g))
 |ob fs=>cases d <;> first | (simp[Ow]at h;done) | (rw[Ow]at h;obtain⟨b,dx,xs,j,r,f,i,c,g⟩:=h;subst c;exact(Tz.mp m).elim (λe=>by subst e;exact⟨_,f,λ⟨_,z⟩=>nomatch z⟩) (Owf.at2 g))
theorem Ows.at2{B H:Hp}:∀{ds:List D} {s:Sh} {xs:List V} {A:List Addr} {a:Addr},Ows Y B H ds s xs A->a∈A->∃o,H a=some o/\¬ fQ o
 |[],_,_,_,_,h,m=>by rw[Ows]at h;rw[h.2]at m;cases m
 | d::ds,s,xs,A,a,h,m=>by
   rw[Ows]at h;obtain⟨x,r,A1,f,h0,e,c,b⟩:=h;subst e;rcases TY.mp m with m|m
   ·exact Ow.at2 c m
   ·exact Ows.at2 b m
theorem Owf.at2{B H:Hp}:∀{ds:List D} {ns:List Str} {fs:List (Str×Sh)} {xs:List V} {A:List Addr} {a:Addr},Owf Y B H ds ns fs xs A->a∈A->∃o,H a=some o/\¬ fQ o
 |[],_,_,_,_,_,h,m=>by rw[Owf]at h;rw[h.2]at m;cases m
 | d::ds,ns,fs,xs,A,a,h,m=>by
   rw[Owf]at h;obtain⟨n,b,x,r,A1,i,g,h0,f,e,c⟩:=h;subst f;rcases TY.mp m with m|m
   ·exact Ow.at2 e m
   ·exact Owf.at2 c m
end
theorem Ow.at{B H:Hp}{d:D}{s:Sh}{v:V}{A:List Addr}{a:Addr}(h:Ow Y B H d s v A)(m:a∈A):∃o,H a=some o:=let ⟨o,e,_⟩:=Ow.at2 h m;⟨o,e⟩
theorem Owf.at{B H:Hp}{ds:List D}{ns:List Str}{fs:List (Str×Sh)}{xs:List V}{A:List Addr}{a:Addr}(h:Owf Y B H ds ns fs xs A)(m:a∈A):∃o,H a=some o:=let ⟨o,e,_⟩:=Owf.at2 h m;⟨o,e⟩
theorem Ows.of{B H:Hp}:∀{ds:List D} {xs:List V},Dns Y B ds xs->Ows Y B H ds .fz xs []
 |[],_,h=>by rw[Dns]at h;rw[Ows];exact⟨h,rfl⟩
 | d::ds,_,h=>by
   rw[Dns]at h;obtain⟨x,r,h0,b,a⟩:=h;rw[Ows];exact⟨x,r,[],[],h0,rfl,by rw[Ow];exact⟨b,rfl⟩,Ows.of a⟩
theorem Ows.fz{B H:Hp}:∀{ds:List D} {xs:List V} {A:List Addr},Ows Y B H ds .fz xs A->Dns Y B ds xs/\A=[]
 |[],_,_,h=>by rw[Ows]at h;rw[Dns];exact h
 | d::ds,_,_,h=>by
   rw[Ows]at h;obtain⟨x,r,A1,g,h0,f,a,e⟩:=h;rw[Ow]at a;obtain⟨c,b⟩:=Ows.fz e;rw[Dns];exact⟨⟨x,r,h0,a.1,c⟩,by rw[f,a.2,b];rfl⟩
theorem Lo.at2{B U H:Hp}{m:Md}{o:Option D}{s:Option V}{A:List Addr}{a:Addr}(h:Lo Y B U H m o s A)(b:a∈A):∃o,H a=some o/\¬ fQ o:=by
 unfold Lo at h;cases o with
 |none=>simp only at h;rw[h]at b;cases b
 |some d=>
   obtain⟨v,_,h⟩:=h;cases m with
   |F=>have h:Dn Y B d v/\A=[]:=h;rw[h.2]at b;cases b
   |R=>have h:Dn Y U d v/\A=[]:=h;rw[h.2]at b;cases b
   |O sh=>exact Ow.at2 h b
theorem Lo.at{B U H:Hp}{m:Md}{o:Option D}{s:Option V}{A:List Addr}{a:Addr}(h:Lo Y B U H m o s A)(b:a∈A):∃o,H a=some o:=let ⟨o,e,_⟩:=h.at2 b;⟨o,e⟩
theorem Lo.mono{B U H S J H':Hp}{m:Md}{o:Option D}{s:Option V}{A:List Addr}(h:Lo Y B U H m o s A)(e:Same B S)(f:Same U J)(k:∀a∈A,H' a=H a):Lo Y S J H' m o s A:=by
 unfold Lo at h ⊢;cases o with
 |none=>exact h
 |some d=>
   obtain⟨v,b,h⟩:=h;refine⟨v,b,?_⟩;cases m with
   |F=>exact⟨h.1.mono e,h.2⟩
   |R=>exact⟨h.1.mono f,h.2⟩
   |O sh=>exact Ow.mono e k h
variable{M:List Md}{B U H S J H':Hp}{I:Nat->List Addr}{Z:St}{T:L4}
theorem Rel.at(R:Rel Y M B U I Z H T){i:Nat}{a:Addr}(h:a∈I i):∃o,H a=some o:=(R.lo i).at h
theorem Rel.nt(R:Rel Y M B U I Z H T){i:Nat}{a:Addr}{o:HO}(h:a∈I i)(e:H a=some o)(z:fQ o):False:=by
 obtain⟨o',b,n⟩:=(R.lo i).at2 h;rw[e]at b;cases b;exact n z
theorem Rel.fresh(R:Rel Y M B U I Z H T){p:Addr}(h:H p=none)(i:Nat):p∉I i:=λm=>by
 obtain⟨o,e⟩:=R.at m;rw[h]at e;cases e
theorem Rel.grow(R:Rel Y M B U I Z H T)(e:Same B S)(f:Same U J)(g:Same H H')(bu:Same S J)(uh:Same J H')(un:∀i a,a∈I i->J a=none):Rel Y M S J I Z H' T:=
 ⟨bu,uh,R.nd,R.dj,un,λi=>(R.lo i).mono e f λa b=>by
  obtain⟨o,q⟩:=R.at b
  rw[q,g a o q],R.len,λp hp=>let ⟨l,d,c⟩:=R.tb p hp;⟨l,e _ _ d,c⟩⟩
theorem Rel.bh(R:Rel Y M B U I Z H T):Same B H:=R.bu.trans R.uh
theorem Rel.new(R:Rel Y M B U I Z H T){p:Addr}{o:HO}(h:H p=none):Rel Y M B U I Z (upd H p o) T:=
 R.grow (Same.refl _) (Same.refl _) (Gd.cA h) R.bu (R.uh.trans (Gd.cA h)) R.un
theorem qC{G a:Hp}{p:Addr}{o:HO}(e:Same G a):Same (upd G p o) (upd a p o):=λb u q=>by
 by_cases z:b=p
 ·subst z;rw[aM]at q ⊢;exact q
 ·rw[ay z]at q ⊢;exact e b u q
theorem Rel.newB(R:Rel Y M B U I Z H T){p:Addr}{o:HO}(h:H p=none):Rel Y M (upd B p o) (upd U p o) I Z (upd H p o) T:=
 R.grow (Gd.cA (R.bh.free h)) (Gd.cA (R.uh.free h)) (Gd.cA h) (qC R.bu) (qC R.uh) λi a b=>by
  rw[ay (λz:a=p=>R.fresh h i (z▸b))];exact R.un i a b
theorem Ex.newB(R:Rel Y M B U I Z H T){p:Addr}{o:HO}(h:H p=none):Ex B U (upd B p o) (upd U p o):=
 ⟨Gd.cA (R.bh.free h),Gd.cA (R.uh.free h),λa u q=>by
  by_cases z:a=p
  ·subst z;exact .inr (.inl (R.uh.free h))
  ·rw[ay z]at q;exact .inl q⟩
def frz(B H:Hp)(A:List Addr):Hp:=λa=>if a∈A then H a else B a
theorem b6{A:List Addr}(e:Same B H):Same B (frz B H A):=λa o q=>by
 unfold frz;split
 ·exact e a o q
 ·exact q
theorem sT{A:List Addr}(e:Same B H):Same (frz B H A) H:=λa o q=>by
 unfold frz at q;split at q
 ·exact q
 ·exact e a o q
theorem o4{A:List Addr}(e:Same B U):Same (frz B H A) (frz U H A):=λa o q=>by
 unfold frz at q ⊢;split
 ·rename_i z;rw[Tq z]at q;exact q
 ·rename_i z;rw[on z]at q;exact e a o q
end
abbrev KT(W X:Type):=W->X->Hp->Hp->Hp->List Addr->Prop
inductive Kd where
 |F|U|X
def hp:Kd->Hp->Hp->Hp->Hp
 |.F,B,_,_=>B
 |.U,_,U,_=>U
 |.X,_,_,H=>H
structure Gw (B U H S J H':Hp):Prop extends Ex B U S J where
 h:Same H H'
 fr:∀a o,J a=some o->U a=some o\/H a=none\/fQ o
theorem Gw.refl(B U H:Hp):Gw B U H B U H:=⟨Ex.refl _ _,Same.refl _,λ_ _ h=>.inl h⟩
theorem Gw.trans{B U H B1 U1 H1 f d e:Hp}(a:Gw B U H B1 U1 H1)(b:Gw B1 U1 H1 f d e):Gw B U H f d e:=
 ⟨a.toEx.trans b.toEx,a.h.trans b.h,λc o h=>by
  rcases b.fr c o h with h|h|h
  ·exact a.fr c o h
  ·exact .inr (.inl (a.h.free h))
  ·exact .inr (.inr h)⟩
structure New (N:List Addr) (H U:Hp) (I:Nat->List Addr):Prop where
 nd:N.Nodup
 fr:∀a∈N,H a=none
 un:∀a∈N,U a=none
theorem New.nil{H U:Hp}{I:Nat->List Addr}:New [] H U I:=⟨Uu,λ_ h=>(nomatch h),λ_ h=>(nomatch h)⟩
section
variable(Y:Cm)
def Cn(G H:Hp):D->V->Prop
 |.lst ds,v=>∃a xs,v=.ref a/\H a=some (.lst xs)/\Dns Y G ds xs
 |.scr ds,v=>∃a xs,v=.ref a/\SqF Y.K H a xs/\Dns Y G ds xs
 |.tup ds,v=>∃a xs,v=.ref a/\H a=some (.tup xs)/\Dns Y G ds xs
 |.dK b ds,v=>∃(a:Addr) (kvs:List (aQ×V)),v=.ref a/\H a=some (.dK kvs)/\kvs.map (·.1)=b/\Dns Y G ds (kvs.map (·.2))
 |.dT b ds,v=>∃(a:Addr) (kvs:List (List aQ×V)),v=.ref a/\Rd H a (.dT kvs)/\kvs.map (·.1)=b/\Dns Y G ds (kvs.map (·.2))
 |.obj c ns ds,v=>∃(a dx:Addr) (fs:List (Str×V)),v=.ref a/\H a=some (.ins (Y c) dx fs)/\fs.map (·.1)=ns/\Dns Y G ds (fs.map (·.2))
 |d,v=>Dn Y G d v
def KR(k:Kd):KT D V:=λd v B U H _=>Dn Y (hp k B U H) d v
def KC(k:Kd):KT D V:=λd v B U H _=>Cn Y (hp k B U H) H d v
def KO(s:Sh):KT D V:=λd v B U H N=>Ow Y B H d s v N
def KB:KT Bool Bool:=λb c _ _ _ _=>b=c
def KL(k:Kd):KT (List D) (List V):=λd v B U H _=>Dns Y (hp k B U H) d v
def Po{W X:Type}(K:KT W X)(E:XK)(M:List Md)(B U:Hp)(I:Nat->List Addr)(Z:St)(H:Hp)(T:L4)(r:Res W)(Q:X->Hp->Prop):Prop:=
 match r with
 |.ok d=>∀v S J H' N,Rel Y M S J I Z H' T->Gw B U H S J H'->New N H J I->K d v S J H' N->Q v H'
 |.exc c=>∀S J H',Rel Y M S J I Z H' T->Gw B U H S J H'->∀a,E (.ref (Y c)) a H'
 |.bad=>False
def PJ{W X:Type}(K:KT W X)(E:XK)(M:List Md)(t:St->Hp->(X->Hp->Prop)->Prop)(m:L4->Res W):Prop:=
 ∀B U I Z H T Q,Rel Y M B U I Z H T->Po Y K E M B U I Z H T (m T) Q->t Z H Q
end
section
variable{Y:Cm}{E:XK}{M:List Md}{B U H:Hp}{I:Nat->List Addr}{Z:St}{T:L4}
theorem New.up{N:List Addr}{H1:Hp}(h:New N H1 U I)(s:Same H H1):New N H U I:=⟨h.nd,λa b=>s.free (h.fr a b),h.un⟩
theorem Po.at{W X:Type}{K:KT W X}{B1 U1 H1:Hp}{r:Res W}{Q:X->Hp->Prop}(P:Po Y K E M B U I Z H T r Q)(e:Gw B U H B1 U1 H1):Po Y K E M B1 U1 I Z H1 T r Q:=by
 cases r with
 |ok d=>exact λv S J H' N b a f k=>P v S J H' N b (e.trans a) (f.up e.h) k
 |exc c=>exact λS J H' b a=>P S J H' b (e.trans a)
 |bad=>exact P
theorem PJ.bnd{W X S L:Type}{f:KT W X}{d:KT S L}{b:St->Hp->(X->Hp->Prop)->Prop}{a:L4->Res W}(i:PJ Y f E M b a)(R:Rel Y M B U I Z H T){k:W->Res S}{Q:L->Hp->Prop}
 (P:Po Y d E M B U I Z H T ((a T).bind k) Q) {body:X->Hp->Prop}
 (h:∀x v B1 U1 H1 N,a T=.ok x->Rel Y M B1 U1 I Z H1 T->Gw B U H B1 U1 H1->New N H U1 I->f x v B1 U1 H1 N->Po Y d E M B1 U1 I Z H1 T (k x) Q->body v H1):b Z H body:=by
 refine i B U I Z H T body R ?_;cases e:a T with
 |ok x=>
   rw[e]at P;exact λv B1 U1 H1 N j e1 g k1=>h x v B1 U1 H1 N e j e1 g k1 (Po.at (r:=k x) P e1)
 |exc c=>rw[e]at P;exact P
 |bad=>rw[e]at P;exact P
theorem gY{k:Kd}{B1 U1 H1:Hp}(e:Gw B U H B1 U1 H1):Same (hp k B U H) (hp k B1 U1 H1):=by
 cases k with
 |F=>exact e.b
 |U=>exact e.u
 |X=>exact e.h
theorem Cn.mono{G j H H':Hp}(e:Same G j)(f:Same H H'){d:D}{v:V}(h:Cn Y G H d v):Cn Y j H' d v:=by
 cases d with
 |lst ds=>obtain⟨a,xs,r,g,b⟩:=h;exact⟨a,xs,r,f _ _ g,b.mono e⟩
 |scr ds=>obtain⟨a,xs,r,g,b⟩:=h;exact⟨a,xs,r,g.mono f,b.mono e⟩
 |tup ds=>obtain⟨a,xs,r,g,b⟩:=h;exact⟨a,xs,r,f _ _ g,b.mono e⟩
 |dK k ds=>obtain⟨a,xs,r,g,b,i⟩:=h;exact⟨a,xs,r,f _ _ g,b,i.mono e⟩
 |dT k ds=>obtain⟨a,xs,r,g,b,i⟩:=h;exact⟨a,xs,r,kc f g,b,i.mono e⟩
 |obj c ns ds=>obtain⟨a,dx,xs,r,g,b,i⟩:=h;exact⟨a,dx,xs,r,f _ _ g,b,i.mono e⟩
 |non=>exact Dn.mono e h
 |bl _=>exact Dn.mono e h
 |int _=>exact Dn.mono e h
 |str _=>exact Dn.mono e h
 |ty _=>exact Dn.mono e h
theorem Dn.cn{G H:Hp}(f:Same G H){d:D}{v:V}(h:Dn Y G d v):Cn Y G H d v:=by
 cases d with
 |lst ds=>rw[Dn]at h;obtain⟨a,xs,r,e,b⟩:=h;exact⟨a,xs,r,f _ _ e,b⟩
 |scr ds=>rw[Dn]at h;obtain⟨a,xs,r,e,b⟩:=h;exact⟨a,xs,r,e.mono f,b⟩
 |tup ds=>rw[Dn]at h;obtain⟨a,xs,r,e,b⟩:=h;exact⟨a,xs,r,f _ _ e,b⟩
 |dK i ds=>rw[Dn]at h;obtain⟨a,xs,r,e,b,g⟩:=h;exact⟨a,xs,r,f _ _ e,b,g⟩
 |dT i ds=>rw[Dn]at h;obtain⟨a,xs,r,e,b,g⟩:=h;exact⟨a,xs,r,kc f e,b,g⟩
 |obj c ns ds=>rw[Dn]at h;obtain⟨a,dx,xs,r,e,b,g⟩:=h;exact⟨a,dx,xs,r,f _ _ e,b,g⟩
 |non=>exact h
 |bl _=>exact h
 |int _=>exact h
 |str _=>exact h
 |ty _=>exact h
theorem Cn.dn{H:Hp}{d:D}{v:V}(h:Cn Y H H d v):Dn Y H d v:=by
 cases d with
 |lst ds=>obtain⟨a,xs,r,e,b⟩:=h;rw[Dn];exact⟨a,xs,r,e,b⟩
 |scr ds=>obtain⟨a,xs,r,e,b⟩:=h;rw[Dn];exact⟨a,xs,r,e,b⟩
 |tup ds=>obtain⟨a,xs,r,e,b⟩:=h;rw[Dn];exact⟨a,xs,r,e,b⟩
 |dK g ds=>obtain⟨a,xs,r,e,b,f⟩:=h;rw[Dn];exact⟨a,xs,r,e,b,f⟩
 |dT g ds=>obtain⟨a,xs,r,e,b,f⟩:=h;rw[Dn];exact⟨a,xs,r,e,b,f⟩
 |obj c ns ds=>obtain⟨a,dx,xs,r,e,b,f⟩:=h;rw[Dn];exact⟨a,dx,xs,r,e,b,f⟩
 |non=>exact h
 |bl _=>exact h
 |int _=>exact h
 |str _=>exact h
 |ty _=>exact h
theorem Rel.hp(R:Rel Y M B U I Z H T)(k:Kd):Same (hp k B U H) H:=by
 cases k with
 |F=>exact R.bh
 |U=>exact R.uh
 |X=>exact Same.refl _
theorem PJ.imp{W X:Type}{K b:KT W X}{t:St->Hp->(X->Hp->Prop)->Prop}{m:L4->Res W}(h:PJ Y K E M t m)(f:∀B U I Z H T d v N,Rel Y M B U I Z H T->K d v B U H N->b d v B U H N):PJ Y b E M t m:=by
 intro B U I Z H T Q R P;refine h B U I Z H T Q R ?_;cases e:m T with
 |ok d=>rw[e]at P;exact λv S J H' N a i g k=>P v S J H' N a i g (f _ _ _ _ _ _ _ _ _ a k)
 |exc c=>rw[e]at P;exact P
 |bad=>rw[e]at P;exact P
section
variable{t:TE}{m:L4->Res D}{k:Kd}{s:Sh}
theorem fu(h:PJ Y (KR Y .F) E M t m):PJ Y (KR Y .U) E M t m:=h.imp λ_ _ _ _ _ _ _ _ _ R q=>Dn.mono R.bu q
theorem ux(h:PJ Y (KR Y .U) E M t m):PJ Y (KR Y .X) E M t m:=h.imp λ_ _ _ _ _ _ _ _ _ R q=>Dn.mono R.uh q
theorem fx(h:PJ Y (KR Y .F) E M t m):PJ Y (KR Y .X) E M t m:=ux (fu h)
theorem rc(h:PJ Y (KR Y k) E M t m):PJ Y (KC Y k) E M t m:=h.imp λ_ _ _ _ _ _ _ _ _ R q=>Dn.cn (R.hp k) q
theorem cx(h:PJ Y (KC Y k) E M t m):PJ Y (KR Y .X) E M t m:=h.imp λ_ _ _ _ _ _ _ _ _ R q=>Cn.dn (Cn.mono (R.hp k) (Same.refl _) q)
theorem Rel.freeze{A:List Addr}(R:Rel Y M B U I Z H T)(h:∀a∈A,U a=none/\∀i,a∉I i):Rel Y M (Mi.frz B H A) (Mi.frz U H A) I Z H T/\Ex B U (Mi.frz B H A) (Mi.frz U H A):=by
 refine⟨R.grow (b6 R.bh) (b6 R.uh) (Same.refl _) (o4 R.bu) (sT R.uh) λi a b=>?_,b6 R.bh,b6 R.uh,λa o q=>?_⟩
 · unfold Mi.frz;split
   ·rename_i z;exact absurd b ((h a z).2 i)
   ·exact R.un i a b
 · unfold Mi.frz at q;split at q
   ·rename_i z;exact .inr (.inl (h a z).1)
   ·exact .inl q
theorem Rel.apart(R:Rel Y M B U I Z H T){N:List Addr}{J:Hp}(n:New N H J I):∀a∈N,∀i,a∉I i:=λa b i=>R.fresh (n.fr a b) i
theorem oF(h:PJ Y (KO Y s) E M t m):PJ Y (KR Y .F) E M t m:=by
 intro B U I Z H T Q R P;refine h B U I Z H T Q R ?_;cases e:m T with
 |ok d=>
   rw[e]at P;intro v S J H' N i g f j;obtain⟨R2,k⟩:=i.freeze λa b=>⟨f.un a b,R.apart f a b⟩;refine P v _ _ H' [] R2 ⟨g.toEx.trans k,g.h,λa o q=>?_⟩ New.nil (Ow.dn (b6 i.bh) (λa b o q=>?_) j)
   · unfold Mi.frz at q;split at q
     ·rename_i z;exact .inr (.inl (f.fr a z))
     ·exact g.fr a o q
   ·unfold Mi.frz;rw[if_pos b];exact q
 |exc c=>rw[e]at P;exact P
 |bad=>rw[e]at P;exact P
theorem oc(h:PJ Y (KO Y (.ct .fz)) E M t m):PJ Y (KC Y .F) E M t m:=rc (oF h)
end
theorem b9{W:Type}{l:List (Option W)}{i:Nat}{x:W}(h:rg l i=some x):l[i]?=some (some x):=by
 unfold rg at h;cases e:l[i]? with
 |none=>rw[e]at h;cases h
 |some o=>rw[e]at h;exact congrArg some h
theorem sv{K:KT D V}{i:Nat}(f:∀(B U:Hp) (A:List Addr) (H:Hp) (d:D) (v:V) (s:Option V),Same B U->Same U H->Lo Y B U H (M.getD i .F) (some d) s A->s=some v->K d v B U H []):PJ Y K E M (cR i) (vr i):=by
 intro B U I Z H T Q R P;unfold vr at P;have l:=R.lo i;cases e:rg T i with
 |none=>rw[e]at P;exact P.elim
 |some d=>
   rw[e]at P l;obtain⟨v,a,q⟩:=id l;exact⟨v,b9 a,P v B U H [] R (Gw.refl _ _ _) New.nil (f B U _ H d v _ R.bu R.uh l a)⟩
theorem iT{B U H:Hp}{m:Md}{d:D}{v:V}{s:Option V}{A:List Addr}(l:Lo Y B U H m (some d) s A)(b:s=some v):LoV Y B U H m d v A:=by
 obtain⟨w,a,q⟩:=l;rw[b]at a;cases a;exact q
theorem xF{i:Nat}(b:M.getD i .F= .F):PJ Y (KR Y .F) E M (cR i) (vr i):=sv λB U I H d v s _ _ l a=>by
 rw[b]at l;exact(iT l a).1
theorem xR{i:Nat}(b:M.getD i .F= .R):PJ Y (KR Y .U) E M (cR i) (vr i):=sv λB U I H d v s _ _ l a=>by
 rw[b]at l;exact(iT l a).1
theorem xO{i:Nat}{sh:Sh}(c:M.getD i .F= .O sh):PJ Y (KR Y .X) E M (cR i) (vr i):=sv λB U I H d v s b u l a=>by
 rw[c]at l;exact Ow.dn (b.trans u) (λ_ _ _ q=>q) (iT l a)
theorem Ow.cn{B H:Hp}{d:D}{v:V}{A:List Addr}(f:Same B H)(h:Ow Y B H d (.ct .fz) v A):Cn Y B H d v:=by
 cases d with
 |lst ds=>rw[Ow]at h;obtain⟨a,xs,i,r,b,c,g⟩:=h;exact⟨a,xs,r,b,(Ows.fz g).1⟩
 |dK j ds=>rw[Ow]at h;obtain⟨a,xs,i,r,b,c,g,e⟩:=h;exact⟨a,xs,r,b,c,(Ows.fz e).1⟩
 |dT j ds=>rw[Ow]at h;obtain⟨a,xs,i,r,b,c,g,e⟩:=h;exact⟨a,xs,r,.inl b,c,(Ows.fz e).1⟩
 |_=>simp[Ow]at h
theorem xC{i:Nat}(c:M.getD i .F= .O (.ct .fz)):PJ Y (KC Y .F) E M (cR i) (vr i):=sv λB U I H d v s b u l a=>by
 rw[c]at l;exact Ow.cn (b.trans u) (iT l a)
theorem Sm{d:D}{v:V}(h:∀G,Dn Y G d v):PJ Y (KR Y .F) E M (tC v) (aW d):=λB U I Z H T Q R P=>P v B U H [] R (Gw.refl _ _ _) New.nil (h _)
theorem pI{i:Int}:PJ Y (KR Y .F) E M (tC (.int i)) (aW (.int i)):=Sm λ_=>by rw[Dn]
theorem pB{b:Bool}:PJ Y (KR Y .F) E M (tC (.bl b)) (aW (.bl b)):=Sm λ_=>by rw[Dn]
theorem pS{x:Str}:PJ Y (KR Y .F) E M (tC (.str x)) (aW (.str x)):=Sm λ_=>by rw[Dn]
theorem pN:PJ Y (KR Y .F) E M (tC .non) (aW .non):=Sm λ_=>by rw[Dn]
end
def vd(neg:Bool)(x y:D):Res D:=if oZ y=true then .ok (.bl (neg.xor (oZ x))) else .bad
def di(m:L4->Res D):L4->Res Bool:=λT=>(m T).bind Gs
def na(a b:L4->Res Bool):L4->Res Bool:=λT=>(a T).bind λc=>if c=true then b T else .ok false
def BE(a b:L4->Res Bool):L4->Res Bool:=λT=>(a T).bind λc=>if c=true then .ok true else b T
def Ms(a:L4->Res Bool):L4->Res Bool:=λT=>(a T).bind λc=>.ok (!c)
section
variable{Y:Cm}{E:XK}{M:List Md}
def S2(Y:Cm)(r:R2)(f:D->D->Res D):Prop:=∀H x y v u,Dn Y H x v->Dn Y H y u->match f x y with
 |.ok d=>∃w,(∀G,Dn Y G d w)/\∀Q:VK,Q w H->r v u H Q
 |.exc _=>False
 |.bad=>True
def S1(Y:Cm)(r:V->Hp->VK->Prop)(f:D->Res D):Prop:=∀H x v,Dn Y H x v->match f x with
 |.ok d=>∃w,(∀G,Dn Y G d w)/\∀Q:VK,Q w H->r v H Q
 |.exc _=>False
 |.bad=>True
section
variable{r:R2}{r1:V->Hp->VK->Prop}{rb:List V->Hp->VK->Prop}{f:D->D->Res D}{f1:D->Res D}{ta tb:TE}{ma mb:L4->Res D}
theorem aY(h:S2 Y r f)(j:PJ Y (KR Y .X) E M ta ma)(i:PJ Y (KR Y .X) E M tb mb):PJ Y (KR Y .F) E M (Ao r ta tb) (bn f ma mb):=by
 intro B U I Z H T Q R P;refine j.bnd R P λx v B1 U1 H1 L _ p e1 z n W=>i.bnd p W λy u s o b A _ R2 l t m a=>?_;have q:=h b x y v u (Dn.mono l.h n) m;cases e:f x y with
 |ok d=>
   rw[e]at q a;obtain⟨w,g,k⟩:=q;exact k Q (a w s o b [] R2 (Gw.refl _ _ _) New.nil (g _))
 |exc c=>rw[e]at q;exact q.elim
 |bad=>rw[e]at a;exact a.elim
theorem LO(h:S1 Y r1 f1)(b:PJ Y (KR Y .X) E M ta ma):PJ Y (KR Y .F) E M (tUn r1 ta) (un f1 ma):=by
 intro B U I Z H T Q R P;refine b.bnd R P λx v B1 U1 H1 L _ g e1 i f W=>?_;have q:=h H1 x v f;cases e:f1 x with
 |ok d=>
   rw[e]at q W;obtain⟨w,a,k⟩:=q;exact k Q (W w B1 U1 H1 [] g (Gw.refl _ _ _) New.nil (a _))
 |exc c=>rw[e]at q;exact q.elim
 |bad=>rw[e]at W;exact W.elim
theorem ju(h:S1 Y (λv H Q=>rb [v] H Q) f1)(a:PJ Y (KR Y .X) E M ta ma):PJ Y (KR Y .F) E M (GA rb (bz ta cT)) (un f1 ma):=LO h a
theorem f8(h:S2 Y (λv u H Q=>rb [v,u] H Q) f)(b:PJ Y (KR Y .X) E M ta ma)(a:PJ Y (KR Y .X) E M tb mb):PJ Y (KR Y .F) E M (GA rb (bz ta (bz tb cT))) (bn f ma mb):=aY h b a
end
theorem S2.imp{r a:R2}{f:D->D->Res D}(h:S2 Y r f)(k:∀x y H Q,r x y H Q->a x y H Q):S2 Y a f:=by
 intro H x y v u g b;have q:=h H x y v u g b;cases e:f x y with
 |ok d=>
   rw[e]at q;obtain⟨w,i,q⟩:=q;exact⟨w,i,λQ z=>k _ _ _ _ (q Q z)⟩
 |exc c=>rw[e]at q;exact q
 |bad=>trivial
theorem Sj{g:Int->Int->Int}:S2 Y (yS λi j=>.int (g i j)) (iI g):=by
 intro H x y v u b a;cases x with
 |int i=>
   cases y with
   |int j=>
     rw[Dn]at b;rw[Dn]at a;subst b a;exact⟨.int (g i j),λ_=>by rw[Dn],λQ q=>⟨i,j,rfl,rfl,q⟩⟩
   |_=>trivial
 |_=>trivial
theorem SE{g:Int->Int->Bool}:S2 Y (yS λi j=>.bl (g i j)) (iB g):=by
 intro H x y v u b a;cases x with
 |int i=>
   cases y with
   |int j=>
     rw[Dn]at b;rw[Dn]at a;subst b a;exact⟨.bl (g i j),λ_=>by rw[Dn],λQ q=>⟨i,j,rfl,rfl,q⟩⟩
   |_=>trivial
 |_=>trivial
theorem Si{C:Int->Int->Prop}{c:Int->Int->Bool}{g:Int->Int->Int}(d:∀i j,c i j=true->C i j):S2 Y (rI C λi j=>.int (g i j)) (iC c g):=by
 intro H x y v u b a;cases x with
 |int i=>
   cases y with
   |int j=>
     rw[Dn]at b;rw[Dn]at a;subst b a;unfold iC;dsimp only;by_cases z:c i j=true
     ·rw[Tq z];exact⟨.int (g i j),λ_=>by rw[Dn],λQ q=>⟨i,j,rfl,rfl,d i j z,q⟩⟩
     ·rw[on z];trivial
   |_=>trivial
 |_=>trivial
theorem nY:S2 Y (yS λi j=>.int (i+j)) qt:=Sj
theorem IX:S2 Y (yS λi j=>.int (i-j)) B9:=Sj
theorem Cu:S2 Y (yS λi j=>.bl (decide (i<j))) HF:=SE
theorem Ll:S2 Y (yS λi j=>.bl (decide (j<i))) No:=SE
theorem Pb:S2 Y (yS λi j=>.bl (decide (j<=i))) QW:=SE
theorem I0:S2 Y (rI CMul λi j=>.int (i*j)) AM:=Si λ_ _ h=>by simpa [CMul] using h
theorem lw:S2 Y (rI Os λi j=>.int (i / j)) jz:=Si λ_ _ h=>by simpa [Os] using h
theorem iJ:S2 Y (rI (λ_ j=>0<j) λi j=>.int (i%j)) jH:=Si λ_ _ h=>VU h
theorem Pa:S2 Y (rI (λ_ j=>0<=j) λi j=>.int (i / 2 ^ j.toNat)) Cj:=Si λ_ _ h=>VU h
theorem nT:S2 Y (λv u H Q=>∃i j,[v,u]=[.int i,.int j]/\Q (.int (if j<i then j else i)) H) ql:=(Sj (g:=λi j=>if j<i then j else i)).imp λx y H Q ⟨i,j,c,b,a⟩=>⟨i,j,by rw[c,b],a⟩
theorem nV:S2 Y (λv u H Q=>∃i j,[v,u]=[.int i,.int j]/\Q (.int (if j>i then j else i)) H) qm:=(Sj (g:=λi j=>if j>i then j else i)).imp λx y H Q ⟨i,j,c,b,a⟩=>⟨i,j,by rw[c,b],a⟩
theorem IZ:S1 Y (rU λi=>.int (-i)) Ho:=by
 intro H x v a;cases x with
 |int i=>
   rw[Dn]at a;subst a;exact⟨.int (-i),λ_=>by rw[Dn],λQ q=>⟨i,rfl,q⟩⟩
 |_=>trivial
theorem Ja(neg:Bool):S2 Y (λx y H Q=>KW x y=true/\Q (.bl (neg.xor (decide (x=y)))) H) (jq neg):=by
 intro H x y v u b a;cases x with
 |int i=>
   cases y with
   |int j=>
     rw[Dn]at b;rw[Dn]at a;subst b a;exact⟨_,λ_=>by rw[Dn],λQ q=>⟨rfl,by simpa using q⟩⟩
   |non=>
     rw[Dn]at b;rw[Dn]at a;subst b a;exact⟨_,λ_=>by rw[Dn],λQ q=>⟨rfl,by simpa using q⟩⟩
   |_=>trivial
 |str i=>
   cases y with
   |str j=>
     rw[Dn]at b;rw[Dn]at a;subst b a;exact⟨_,λ_=>by rw[Dn],λQ q=>⟨rfl,by simpa using q⟩⟩
   |_=>trivial
 |bl i=>
   cases y with
   |bl j=>
     rw[Dn]at b;rw[Dn]at a;subst b a;exact⟨_,λ_=>by rw[Dn],λQ q=>⟨rfl,by simpa using q⟩⟩
   |_=>trivial
 |non=>
   cases y with
   |int j=>
     rw[Dn]at b;rw[Dn]at a;subst b a;exact⟨_,λ_=>by rw[Dn],λQ q=>⟨rfl,by simpa using q⟩⟩
   |non=>
     rw[Dn]at b;rw[Dn]at a;subst b a;exact⟨_,λ_=>by rw[Dn],λQ q=>⟨rfl,by simpa using q⟩⟩
   |_=>trivial
 |_=>cases y<;>trivial
theorem eF:S2 Y rEq (jq false):=(Ja false).imp λx y H Q h=>⟨h.1,by simpa using h.2⟩
theorem Lf:S2 Y rNe (jq true):=(Ja true).imp λx y H Q h=>⟨h.1,by simpa using h.2⟩
theorem Dn.non{G:Hp}{d:D}{v:V}(h:Dn Y G d v):decide (v=.non)=oZ d:=by
 cases d with
 |non=>rw[Dn]at h;subst h;rfl
 |bl _=>rw[Dn]at h;subst h;rfl
 |int _=>rw[Dn]at h;subst h;rfl
 |str _=>rw[Dn]at h;subst h;rfl
 |ty _=>rw[Dn]at h;subst h;rfl
 |lst _=>rw[Dn]at h;obtain⟨a,xs,e,_⟩:=h;subst e;rfl
 |scr _=>rw[Dn]at h;obtain⟨a,xs,e,_⟩:=h;subst e;rfl
 |tup _=>rw[Dn]at h;obtain⟨a,xs,e,_⟩:=h;subst e;rfl
 |dK _ _=>rw[Dn]at h;obtain⟨a,xs,e,_⟩:=h;subst e;rfl
 |dT _ _=>rw[Dn]at h;obtain⟨a,xs,e,_⟩:=h;subst e;rfl
 |obj _ _ _=>rw[Dn]at h;obtain⟨a,dx,xs,e,_⟩:=h;subst e;rfl
theorem GT:S2 Y (λx y H Q=>y=.non/\Q (.bl (decide (x=.non))) H) (vd false):=by
 intro H x y v u b a;unfold vd;by_cases e:oZ y=true
 · rw[Tq e]
   have:decide (u=.non)=true:=by rw[Dn.non a];exact e
   refine⟨_,λ_=>by rw[Dn],λQ q=>⟨VU this,?_⟩⟩;rw[Dn.non b];simpa using q
 ·rw[on e];trivial
theorem j9:S1 Y (λv H Q=>∃p e,[v]=[.ref p]/\(SqL Y.K H p e\/SqT Y.K H p e)/\Q (.int e.length) H) mX:=by
 intro H x v b;cases x with
 |lst ds=>
   rw[Dn]at b;obtain⟨a,xs,rfl,d,c⟩:=b;exact⟨.int ds.length,λ_=>by rw[Dn],λQ q=>⟨a,xs,rfl,.inl (SqL.of d),by rw[<-c.len];exact q⟩⟩
 |scr ds=>
   rw[Dn]at b;obtain⟨a,xs,rfl,d,c⟩:=b;exact⟨.int ds.length,λ_=>by rw[Dn],λQ q=>⟨a,xs,rfl,.inl d.sq,by rw[<-c.len];exact q⟩⟩
 |tup ds=>
   rw[Dn]at b;obtain⟨a,xs,rfl,d,c⟩:=b;exact⟨.int ds.length,λ_=>by rw[Dn],λQ q=>⟨a,xs,rfl,.inr (SqT.of d),by rw[<-c.len];exact q⟩⟩
 |_=>trivial
theorem Pm{c:TE}{d:L4->Res D}(e:PJ Y (KR Y .X) E M c d):PJ Y (KR Y .F) E M (IN c) (un Mt d):=by
 intro B U I Z H T Q R P;refine e.bnd R P λx v B1 U1 H1 L _ f e1 g a W=>?_;cases x with
 |bl b=>
   have a:Dn Y H1 (.bl b) v:=a;rw[Dn]at a;exact⟨b,a,W _ B1 U1 H1 [] f (Gw.refl _ _ _) New.nil (show Dn Y _ (.bl (!b)) _ by rw[Dn])⟩
 |_=>exact W.elim
theorem Jh{t:TE}{m:L4->Res D}(h:PJ Y (KR Y .X) E M t m):PJ Y KB E M (λZ H Q=>t Z H λx H1=>∃c,x=.bl c/\Q c H1) (di m):=by
 intro B U I Z H T Q R P;refine h.bnd R P λx v B1 U1 H1 L _ d e1 e a W=>?_;cases x with
 |bl b=>
   have a:Dn Y H1 (.bl b) v:=a;rw[Dn]at a;exact⟨b,a,W _ B1 U1 H1 [] d (Gw.refl _ _ _) New.nil rfl⟩
 |_=>exact W.elim
theorem wP{t:TE}{m:L4->Res D}(h:PJ Y (KR Y .X) E M t m):PJ Y KB E M (tB t) (di m):=Jh h
theorem bX{t:TE}{m:L4->Res D}(h:PJ Y (KR Y .X) E M t m):PJ Y KB E M (BU t) (di m):=Jh h
theorem gm{t u:TT}{m n:L4->Res Bool}(h:PJ Y KB E M t m)(k:PJ Y KB E M u n):PJ Y KB E M (OM t u) (na m n):=by
 intro B U I Z H T Q R P;refine h.bnd R P λx v B1 U1 H1 L _ a e1 c b W=>?_;cases b;cases x with
 |true=>exact k B1 U1 I Z H1 T Q a W
 |false=>exact W _ B1 U1 H1 [] a (Gw.refl _ _ _) New.nil rfl
theorem qI{t u:TT}{m n:L4->Res Bool}(h:PJ Y KB E M t m)(k:PJ Y KB E M u n):PJ Y KB E M (tOr t u) (BE m n):=by
 intro B U I Z H T Q R P;refine h.bnd R P λx v B1 U1 H1 L _ a e1 c b W=>?_;cases b;cases x with
 |false=>exact k B1 U1 I Z H1 T Q a W
 |true=>exact W _ B1 U1 H1 [] a (Gw.refl _ _ _) New.nil rfl
theorem G2{t:TT}{m:L4->Res Bool}(h:PJ Y KB E M t m):PJ Y KB E M (OJ t) (Ms m):=by
 intro B U I Z H T Q R P;refine h.bnd R P λx v B1 U1 H1 L _ b e1 c a W=>?_;cases a;exact W _ B1 U1 H1 [] b (Gw.refl _ _ _) New.nil rfl
end
section
variable{Y:Cm}{E:XK}{M:List Md}{K:F0}
theorem gc{n:Nat}(h:n<=ao):n<sizeLine:=by
 have:=sizeLine_eq
 unfold ao at h;omega
theorem z9{G:Hp}{ds:List D}{xs:List V}{i:Int}{d:D}(h:Dns Y G ds xs)(e:lp ds i=some d):∃v,lp xs i=some v/\Dn Y G d v:=by
 unfold lp at e ⊢;rw[<-h.len];cases q:qc ds.length i with
 |none=>rw[q]at e;cases e
 |some j=>
   rw[q]at e;exact h.get e
theorem lZ{k:Kd}{p tb:TE}{t s:L4->Res D}(C:PJ Y (KC Y k) E M p t)(A:PJ Y (KR Y .X) E M tb s):PJ Y (KR Y k) E M (Ao (GZ Y.K) p tb) (bn E3 t s):=by
 intro B U I Z H T Q R P;refine C.bnd R P λx v B1 U1 H1 L _ J e1 O G W=>A.bnd J W λy u o n j S _ R2 z N b g=>?_;have c:=Cn.mono (gY z) z.h G;have b:Dn Y j y u:=b
 have f:∀(ds:List D) (i:Int),Po Y (KR Y k) E M o n I Z j T (Ip ds i) Q->∀xs,Dns Y (hp k o n j) ds xs->∃w,lp xs i=some w/\Q w j:=λds i P3 xs h=>by
  unfold Ip at P3;cases q:lp ds i with
  |none=>rw[q]at P3;exact P3.elim
  |some d=>
    rw[q]at P3;obtain⟨w,e,F⟩:=z9 h q;exact⟨w,e,P3 w o n j [] R2 (Gw.refl _ _ _) New.nil F⟩
 cases x with
 |lst ds=>
   cases y with
   |int i=>
     rw[Dn]at b;obtain⟨a,xs,r,m,l⟩:=c;obtain⟨w,e,q⟩:=f ds i g xs l;exact⟨a,xs,i,w,r,b,SqL.of m,e,q⟩
   |_=>exact g.elim
 |scr ds=>
   cases y with
   |int i=>
     rw[Dn]at b;obtain⟨a,xs,r,m,l⟩:=c;obtain⟨w,e,q⟩:=f ds i g xs l;exact⟨a,xs,i,w,r,b,m.sq,e,q⟩
   |_=>exact g.elim
 |_=>cases y<;>exact g.elim
theorem kl{k:Kd}{g tb:TE}{l j:L4->Res D}(t:PJ Y (KC Y k) E M g l)(s:PJ Y (KR Y .X) E M tb j):PJ Y (KR Y k) E M (Ao (LA K) g tb) (bn ze l j):=by
 intro B U I Z H T Q R P;refine t.bnd R P λx v B1 U1 H1 L _ G e1 N F W=>s.bnd G W λy u o n f O _ R2 m J b e=>?_;have c:=Cn.mono (gY m) m.h F;have b:Dn Y f y u:=b;cases x with
 |tup ds=>
   cases y with
   |int i=>
     rw[Dn]at b;obtain⟨a,xs,r,A,z⟩:=c;have P3:Po Y (KR Y k) E M o n I Z f T (Ip ds i) Q:=e;unfold Ip at P3;cases q:lp ds i with
     |none=>rw[q]at P3;exact P3.elim
     |some d=>
       rw[q]at P3;obtain⟨w,p,C⟩:=z9 z q;exact⟨a,xs,i,w,r,b,SqT.of A,p,P3 w o n f [] R2 (Gw.refl _ _ _) New.nil C⟩
   |_=>exact e.elim
 |_=>cases y<;>exact e.elim
theorem aD{k:Kd}:PJ Y (KL Y k) E M cT bj:=λB U I Z H T Q R P=>P [] B U H [] R (Gw.refl _ _ _) New.nil (show Dns Y _ [] [] by rw[Dns])
theorem af{k:Kd}{b:TE}{a:TA}{d:L4->Res D}{c:L4->Res (List D)}(f:PJ Y (KR Y k) E M b d)(e:PJ Y (KL Y k) E M a c):PJ Y (KL Y k) E M (bz b a) (aE d c):=by
 intro B U I Z H T Q R P;refine f.bnd R P λx v B1 U1 H1 L _ l e1 q i W=>e.bnd l W λy u o j n r _ R2 g p h m=>?_;refine m (v::u) o j n [] R2 (Gw.refl _ _ _) New.nil ?_;show Dns Y _ (x::y) (v::u);rw[Dns];exact⟨v,u,rfl,Dn.mono (gY g) i,h⟩
variable{B U H:Hp}{I:Nat->List Addr}{Z:St}{T:L4}
theorem Gw.newO(R:Rel Y M B U I Z H T){p:Addr}{o:HO}(h:H p=none):Gw B U H B U (upd H p o):=⟨Ex.refl _ _,Gd.cA h,λ_ _ q=>.inl q⟩
theorem Gw.newB(R:Rel Y M B U I Z H T){p:Addr}{o:HO}(h:H p=none):Gw B U H (upd B p o) (upd U p o) (upd H p o):=⟨Ex.newB R h,Gd.cA h,λa u q=>by
 by_cases z:a=p
 ·subst z;exact .inr (.inl h)
 ·rw[ay z]at q;exact .inl q⟩
theorem New.one(R:Rel Y M B U I Z H T){p:Addr}(h:H p=none):New [p] H U I:=⟨by simp,λa b=>by rw[TX.mp b];exact h,λa b=>by rw[TX.mp b];exact R.uh.free h⟩
theorem fK(R:Rel Y M B U I Z H T){ds:List D}{xs:List V}{Q:VK}(P:Po Y (KO Y (.ct .fz)) E M B U I Z H T (.ok (.lst ds)) Q)(h:Dns Y B ds xs){p:Addr}(hp:H p=none):Q (.ref p) (upd H p (.lst xs)):=
 P (.ref p) B U _ [p] (R.new hp) (Gw.newO R hp) (New.one R hp) (by
  show Ow Y B _ (.lst ds) (.ct .fz) (.ref p) [p];rw[Ow]
  exact⟨p,xs,[],rfl,aM,rfl,Ows.of h⟩)
theorem uT(R:Rel Y M B U I Z H T){ds:List D}{xs:List V}{Q:VK}(P:Po Y (KR Y .F) E M B U I Z H T (.ok (.tup ds)) Q)(h:Dns Y B ds xs){p:Addr}(hp:H p=none):Q (.ref p) (upd H p (.tup xs)):=
 P (.ref p) _ _ _ [] (R.newB hp) (Gw.newB R hp) New.nil (by
  show Dn Y (upd B p (.tup xs)) (.tup ds) (.ref p);rw[Dn]
  exact⟨p,xs,rfl,aM,h.mono (Gd.cA (R.bh.free hp))⟩)
section
variable{t:TA}{m:L4->Res (List D)}
theorem cf(h:PJ Y (KL Y .F) E M t m):PJ Y (KO Y (.ct .fz)) E M (wB t) (nj m):=by
 intro B U I Z H T Q R P;refine h.bnd R P λds xs B1 U1 H1 L _ b e1 c a W=>?_;by_cases z:ds.length<=ao
 ·rw[Tq z]at W;have a:Dns Y B1 ds xs:=a;exact⟨UK (gc (by rw[<-a.len];exact z)),λp hp=>fK b W a hp⟩
 ·rw[on z]at W;exact W.elim
theorem cc(h:PJ Y (KL Y .F) E M t m):PJ Y (KR Y .F) E M (OH t) (jZ m):=by
 intro B U I Z H T Q R P;refine h.bnd R P λds xs B1 U1 H1 L _ b e1 c a W=>?_;by_cases z:ds.length<=ao
 ·rw[Tq z]at W;have a:Dns Y B1 ds xs:=a;exact⟨UK (gc (by rw[<-a.len];exact z)),λp hp=>uT b W a hp⟩
 ·rw[on z]at W;exact W.elim
end
theorem oj:PJ Y (KO Y (.ct .fz)) E M B0 (aW (.dT [] [])):=by
 intro B U I Z H T Q R P p hp;refine P (.ref p) B U _ [p] (R.new hp) (Gw.newO R hp) (New.one R hp) ?_;show Ow Y B _ (.dT [] []) (.ct .fz) (.ref p) [p];rw[Ow];exact⟨p,[],[],rfl,aM,rfl,rfl,Ows.of (by rw[Uz,Dns])⟩
theorem Pn:PJ Y (KO Y (.ct .fz)) E M B5 (aW (.dK [] [])):=by
 intro B U I Z H T Q R P p hp;refine P (.ref p) B U _ [p] (R.new hp) (Gw.newO R hp) (New.one R hp) ?_;show Ow Y B _ (.dK [] []) (.ct .fz) (.ref p) [p];rw[Ow];exact⟨p,[],[],rfl,aM,rfl,rfl,Ows.of (by rw[Uz,Dns])⟩
theorem N8{G:Hp}{x y:D}{v u:V}(l:Cn Y G H x v)(k:Cn Y G H y u){C:Res D->Prop}(f:C .bad->False)(P:C (F5 x y)){Q:VK}
 (h:∀ds c xs d,Dns Y G (ds++c) (xs++d)->C (.ok (.lst (ds++c)))->∀p,H p=none->Q (.ref p) (upd H p (.lst (xs++d)))):Di v u H Q:=by
 cases x with
 |lst ds=>
   cases y with
   |lst c=>
     obtain⟨a,xs,r,n,i⟩:=l;obtain⟨b,d,j,m,g⟩:=k;have e:C (if ds.length+c.length<=ao then .ok (.lst (ds++c)) else .bad):=P;by_cases z:ds.length+c.length<=ao
     ·rw[Tq z]at e;exact⟨a,b,xs,d,r,j,n,m,UK (gc (by rw[<-i.len,<-g.len];exact z)),h ds c xs d (i.append g) e⟩
     ·rw[on z]at e;exact(f e).elim
   |_=>exact(f P).elim
 |_=>cases y<;>exact(f P).elim
theorem oq{a tb:TE}{d c:L4->Res D}(i:PJ Y (KC Y .F) E M a d)(g:PJ Y (KC Y .F) E M tb c):PJ Y (KO Y (.ct .fz)) E M (Ao Di a tb) (bn F5 d c):=by
 intro B U I Z H T Q R P;refine i.bnd R P λx v B1 U1 H1 L _ m e1 t k W=>g.bnd m W λy u f l o z _ R2 e s j n=>?_;exact N8 (G:=f) (Cn.mono e.b e.h k) j (C:=λr=>Po Y (KO Y (.ct .fz)) E M f l I Z o T r Q) (λh=>h) n λds w xs q h P3 p hp=>fK R2 P3 h hp
theorem AT{G:Hp}{x:D}{v:V}(e:Cn Y G H x v){C:Res D->Prop}(f:C .bad->False)(P:C (sL x)){Q:VK}
 (h:∀ds xs,Dns Y G ds xs->C (.ok (.lst ds))->∀p,H p=none->Q (.ref p) (upd H p (.lst xs))):∃p d,[v]=[.ref p]/\(SqL Y.K H p d\/SqT Y.K H p d)/\∀l,H l=none->Q (.ref l) (upd H l (.lst d)):=by
 cases x with
 |lst ds=>
   obtain⟨a,xs,r,c,b⟩:=e;exact⟨a,xs,by rw[r],.inl (SqL.of c),h ds xs b P⟩
 |scr ds=>
   obtain⟨a,xs,r,c,b⟩:=e;exact⟨a,xs,by rw[r],.inl c.sq,h ds xs b P⟩
 |tup ds=>
   obtain⟨a,xs,r,c,b⟩:=e;exact⟨a,xs,by rw[r],.inr (SqT.of c),h ds xs b P⟩
 |_=>exact(f P).elim
theorem LU{b:TE}{c:L4->Res D}(d:PJ Y (KC Y .F) E M b c):
 PJ Y (KO Y (.ct .fz)) E M (GA (λxs H Q=>∃p a,xs=[.ref p]/\(SqL Y.K H p a\/SqT Y.K H p a)/\∀l,H l=none->Q (.ref l) (upd H l (.lst a))) (bz b cT)) (un sL c):=by
 intro B U I Z H T Q R P;refine d.bnd R P λx v B1 U1 H1 L _ f e1 g e W=>?_;exact AT (G:=B1) e (C:=λr=>Po Y (KO Y (.ct .fz)) E M B1 U1 I Z H1 T r Q) (λh=>h) W λds xs h P3 p hp=>fK f P3 h hp
def Kx:D->Res D | .lst xs=>.ok (.tup xs)|_=>.bad
theorem Hf{c:TE}{d:L4->Res D}(e:PJ Y (KC Y .F) E M c d):
 PJ Y (KR Y .F) E M (GA (λxs H Q=>∃p b,xs=[.ref p]/\((SqL K H p b/\∀l,H l=none->Q (.ref l) (upd H l (.tup b)))\/(SqT K H p b/\Q (.ref p) H))) (bz c cT)) (un Kx d):=by
 intro B U I Z H T Q R P;refine e.bnd R P λx v B1 U1 H1 L _ i e1 j h W=>?_;cases x with
 |lst ds=>
   obtain⟨a,xs,r,g,f⟩:=h;exact⟨a,xs,by rw[r],.inl ⟨SqL.of g,λp hp=>uT i W f hp⟩⟩
 |_=>exact W.elim
theorem fN{G:Hp}:∀{ds:List D} {xs:List V} {k:List aQ},bT ds=some k->Dns Y G ds xs->xs=k.map kV
 |[],_,_,e,h=>by rw[Dns]at h;cases e;rw[h];rfl
 | d::ds,_,k,e,h=>by
   rw[Dns]at h;obtain⟨x,r,rfl,a,c⟩:=h;unfold bT at e;cases q:eJ d with
   |none=>rw[q]at e;cases e
   |some k0=>
     cases b:bT ds with
     |none=>rw[q,b]at e;cases e
     |some f=>
       rw[q,b]at e;cases e;rw[fN b c,Tr];congr 1;cases d with
       |int i=>cases q;rw[Dn]at a;exact a
       |str x=>cases q;rw[Dn]at a;exact a
       |_=>cases q
theorem oX{G:Hp}{d:D}{v:V}{k:aQ}(e:eJ d=some k)(h:Dn Y G d v):v=kV k:=by
 cases d with
 |int i=>cases e;rw[Dn]at h;exact h
 |str x=>cases e;rw[Dn]at h;exact h
 |_=>cases e
def OI(Y:Cm)(G:Hp):Option D->Option V->Prop
 |some d,r=>∃v,r=some v/\Dn Y G d v
 |none,r=>r=none
section
variable{W:Type}[DecidableEq W]
theorem gG{G:Hp}:∀{kvs:List (W×V)} {ds:List D} (j:W),Dns Y G ds (kvs.map (·.2))->OI Y G (bC (kvs.map (·.1)) ds j) (cQ kvs j)
 | [],ds,j,h=>by
   cases ds with
   |nil=>exact BJ
   |cons d ds=>rw[Dns]at h;obtain⟨x,r,e,_⟩:=h;cases e
 | p::kvs,ds,j,h=>by
   cases ds with
   |nil=>rw[Dns]at h;cases h
   |cons d ds=>
     rw[List.map_cons,Dns]at h;obtain⟨x,r,e,b,a⟩:=h;cases e;rw[List.map_cons];unfold bC;by_cases q:p.1=j
     ·rw[Tq q];exact⟨p.2,j4 q,b⟩
     ·rw[on q,j6 q];exact gG j a
end
theorem kA{G:Hp}{d k:D}{v u:V}{o:Option D}(hd:Cn Y G H d v)(h:Dn Y H k u)(e:jx d k=some o):∃a r,v=.ref a/\Ku H a/\DGet H a u r/\OI Y G o r:=by
 cases d with
 |dT g vs=>
   obtain⟨a,kvs,rfl,f,j,i⟩:=hd;cases k with
   |tup p=>
     have e:(bT p).map (λk=>bC g vs k)=some o:=e;obtain⟨c,n,m⟩:=TQ.mp e;rw[Dn]at h;obtain⟨b,xs,rfl,s,q⟩:=h;have ex:=fN n q;subst ex;refine⟨a,cQ kvs c,rfl,.inr ⟨kvs,f⟩,.inr ⟨kvs,_,_,f,rfl,s,rfl⟩,?_⟩;have l:=gG (W:=List aQ) c i;rw[j,m]at l;exact l
   |_=>cases e
 |dK g vs=>
   obtain⟨a,kvs,rfl,f,j,i⟩:=hd;have e:(eJ k).map (λk=>bC g vs k)=some o:=by cases k<;>exact e
   obtain⟨c,n,m⟩:=TQ.mp e;have ex:=oX n h;subst ex;refine⟨a,cQ kvs c,rfl,.inl ⟨kvs,.inl f⟩,DGet.k f,?_⟩;have l:=gG (W:=aQ) c i;rw[j,m]at l;exact l
 |_=>cases k<;>cases e
theorem LX{k:Kd}{e c:TE}{f mk:L4->Res D}(hd:PJ Y (KC Y k) E M e f)(j:PJ Y (KR Y .X) E M c mk):PJ Y (KR Y k) E M (IQ e c) (bn rH f mk):=by
 intro B U I Z H T Q R P;refine hd.bnd R P λx v B1 U1 H1 L _ z e1 G s W=>j.bnd z W λy u C t A J _ R2 i F p b=>?_;unfold rH at b;cases q:jx x y with
 |none=>rw[q]at b;exact b.elim
 |some o=>
   obtain⟨a,r,m,_,g,l⟩:=kA (Cn.mono (gY i) i.h s) p q;cases o with
   |none=>rw[q]at b;exact b.elim
   |some d=>
     rw[q]at b;obtain⟨w,rfl,n⟩:=l;exact⟨a,w,m,g,b w C t A [] R2 (Gw.refl _ _ _) New.nil n⟩
theorem Dy{k:Kd}{e c:TE}{f mk:L4->Res D}(i:PJ Y (KR Y .X) E M c mk)(hd:PJ Y (KC Y k) E M e f):PJ Y (KR Y .F) E M (OK c e) (bn (m8 false) mk f):=by
 intro B U I Z H T Q R P;refine i.bnd R P λy u B1 U1 H1 L _ t e1 G p W=>hd.bnd t W λx v A s z J _ R2 m C n b=>?_;unfold m8 at b;cases q:jx x y with
 |none=>rw[q]at b;exact b.elim
 |some o=>
   rw[q]at b;obtain⟨a,r,j,_,g,l⟩:=kA n (Dn.mono m.h p) q;refine⟨a,r,j,g,b _ A s z [] R2 (Gw.refl _ _ _) New.nil ?_⟩;show Dn Y _ (.bl (false.xor o.isSome)) _;rw[Dn];cases o with
   |none=>rw[show r=none from l];rfl
   |some d=>obtain⟨w,rfl,_⟩:=l;rfl
theorem Dx{k:Kd}{e c:TE}{f mk:L4->Res D}(i:PJ Y (KR Y .X) E M c mk)(hd:PJ Y (KC Y k) E M e f):PJ Y (KR Y .F) E M (yq c e) (bn (m8 true) mk f):=by
 intro B U I Z H T Q R P;refine i.bnd R P λy u B1 U1 H1 L _ t e1 G p W=>hd.bnd t W λx v A s z J _ R2 m C n b=>?_;unfold m8 at b;cases q:jx x y with
 |none=>rw[q]at b;exact b.elim
 |some o=>
   rw[q]at b;obtain⟨a,r,j,_,g,l⟩:=kA n (Dn.mono m.h p) q;refine⟨a,r,j,g,b _ A s z [] R2 (Gw.refl _ _ _) New.nil ?_⟩;show Dn Y _ (.bl (true.xor o.isSome)) _;rw[Dn];cases o with
   |none=>rw[show r=none from l];rfl
   |some d=>obtain⟨w,rfl,_⟩:=l;rfl
def ve:D->Bool | .dT _ _=>true | .dK _ _=>true|_=>false
theorem Cn.dic{G:Hp}{d:D}{v:V}(h:Cn Y G H d v)(e:ve d=true):∃a,v=.ref a/\Ku H a:=by
 cases d with
 |dT c vs=>obtain⟨a,kvs,r,b,_⟩:=h;exact⟨a,r,.inr ⟨kvs,b⟩⟩
 |dK c vs=>obtain⟨a,kvs,r,b,_⟩:=h;exact⟨a,r,.inl ⟨kvs,.inl b⟩⟩
 |_=>cases e
def Fd(b mk a:L4->Res D):L4->Res D:=λT=>(b T).bind λd=>if ve d=true then (mk T).bind λk=>(a T).bind λx=>gu d k x else .bad
theorem Hg{k:Kd}{j i f:TE}{n mk m:L4->Res D}(hd:PJ Y (KC Y k) E M j n)(O:PJ Y (KR Y .X) E M i mk)(N:PJ Y (KR Y k) E M f m):PJ Y (KR Y k) E M (B6 j i f) (Fd n mk m):=by
 intro B U I Z H T Q R P;refine hd.bnd R P λx v B1 U1 H1 L _ R1 e1 n1 t W=>?_;by_cases z:ve x=true
 · rw[if_pos z]at W;obtain⟨a,p,S⟩:=Cn.dic t z;refine⟨a,p,S,O.bnd R1 W λy u B2 U2 H2 N2 _ R2 s n2 d2 P2=>N.bnd R2 P2 λw J G A F N3 _ C e n3 d3 P3=>?_⟩;unfold gu at P3;have c:=Cn.mono (gY (s.trans e)) (s.trans e).h t;cases q:jx x y with
   |none=>rw[q]at P3;exact P3.elim
   |some o=>
     rw[q]at P3;obtain⟨a',r,b,_,g,l⟩:=kA c (Dn.mono e.h d2) q;rw[p]at b;cases b;cases o with
     |none=>
       refine⟨r,g,?_⟩;rw[show r=none from l];exact P3 J G A F [] C (Gw.refl _ _ _) New.nil d3
     |some d=>
       obtain⟨K,rfl,V⟩:=l;exact⟨_,g,P3 K G A F [] C (Gw.refl _ _ _) New.nil V⟩
 ·rw[on z]at W;exact W.elim
def rh(a mk:L4->Res D):L4->Res D:=λT=>(a T).bind λd=>if ve d=true then (mk T).bind λk=>gu d k .non else .bad
theorem sx{k:Kd}{f e:TE}{i mk:L4->Res D}(hd:PJ Y (KC Y k) E M f i)(A:PJ Y (KR Y .X) E M e mk):PJ Y (KR Y k) E M (B7 f e) (rh i mk):=by
 intro B U I Z H T Q R P;refine hd.bnd R P λx v B1 U1 H1 L _ J e1 N n W=>?_;by_cases z:ve x=true
 · rw[if_pos z]at W;obtain⟨a,j,C⟩:=Cn.dic n z;refine⟨a,j,C,A.bnd J W λy u t p s S _ R2 m K G P3=>?_⟩;unfold gu at P3;have c:=Cn.mono (gY m) m.h n;cases q:jx x y with
   |none=>rw[q]at P3;exact P3.elim
   |some o=>
     rw[q]at P3;obtain⟨O,r,b,_,g,l⟩:=kA c G q;rw[j]at b;cases b;cases o with
     |none=>
       refine⟨r,g,?_⟩;rw[show r=none from l];exact P3 .non t p s [] R2 (Gw.refl _ _ _) New.nil (show Dn Y _ .non .non by rw[Dn])
     |some d=>
       obtain⟨w,rfl,F⟩:=l;exact⟨_,g,P3 w t p s [] R2 (Gw.refl _ _ _) New.nil F⟩
 ·rw[on z]at W;exact W.elim
end
section
variable{Y:Cm}{E:XK}{M:List Md}{K:F0}{B U H:Hp}{I:Nat->List Addr}{Z:St}{T:L4}
theorem ko{G:Hp}:∀{fs:List (Str×V)} {ds:List D} {f:Str} {d:D},Dns Y G ds (fs.map (·.2))->bC (fs.map (·.1)) ds f=some d->∃v,fs.lookup f=some v/\Dn Y G d v
 |[],ds,f,d,h,e=>by cases ds<;>cases e
 | p::fs,ds,f,d,h,e=>by
   cases ds with
   |nil=>cases e
   |cons d0 ds=>
     rw[List.map_cons,Dns]at h;obtain⟨x,r,e0,c,b⟩:=h;cases e0;rw[List.map_cons]at e;unfold bC at e;by_cases q:p.1=f
     ·rw[Tq q]at e;cases e;exact⟨p.2,by rw[Ud,<-q,UX],c⟩
     · rw[on q]at e;obtain⟨v,a,g⟩:=ko b e
       have:(f==p.1)=false:=Ui.mpr λz=>q z.symm
       exact⟨v,by rw[Ud,this];exact a,g⟩
theorem Owf.get{B H:Hp}{sh:List (Str×Sh)}:∀{fs:List (Str×V)} {ds:List D} {A:List Addr} {f:Str} {d:D},Owf Y B H ds (fs.map (·.1)) sh (fs.map (·.2)) A->bC (fs.map (·.1)) ds f=some d->
 ∃v A1,fs.lookup f=some v/\Ow Y B H d ((sh.lookup f).getD .fz) v A1/\∀a∈A1,a∈A
 |[],ds,A,f,d,h,e=>by cases ds<;>cases e
 | p::fs,ds,A,f,d,h,e=>by
   cases ds with
   |nil=>cases e
   |cons d0 ds=>
     rw[List.map_cons,List.map_cons,Owf]at h;obtain⟨n,i,x,r,A1,t,k,h0,o,c,m⟩:=h;cases k;cases h0;subst o;rw[List.map_cons]at e;unfold bC at e;by_cases q:p.1=f
     ·rw[Tq q]at e;cases e;rw[q]at c;exact⟨p.2,A1,by rw[Ud,<-q,UX],c,λa b=>TL _ b⟩
     · rw[on q]at e;obtain⟨v,s,j,g,l⟩:=Owf.get m e
       have:(f==p.1)=false:=Ui.mpr λz=>q z.symm
       exact⟨v,s,by rw[Ud,this];exact j,g,λa b=>Tw _ (l a b)⟩
theorem nr{c:Nat}{f:Str}{x d:D}(h:bL c f x=.ok d):∃ns vs,x=.obj c ns vs/\bC ns vs f=some d:=by
 cases x with
 |obj a ns vs=>
   unfold bL at h;dsimp only at h;by_cases e:a=c
   · rw[Tq e]at h;subst e;cases q:bC ns vs f with
     |none=>rw[q]at h;cases h
     |some y=>rw[q]at h;cases h;exact⟨ns,vs,rfl,q⟩
   ·rw[on e]at h;cases h
 |_=>cases h
theorem kJ{c:Nat}{f:Str}{x:D}{e:Nat}(h:bL c f x=.exc e):False:=by
 cases x with
 |obj a ns vs=>
   have h:(if a=c then (match bC ns vs f with|some x=>Res.ok x|none=>.bad) else .bad)=.exc e:=h;by_cases e:a=c
   ·rw[Tq e]at h;cases q:bC ns vs f<;>(rw[q]at h;cases h)
   ·rw[on e]at h;cases h
 |_=>cases h
theorem dE{k:Kd}{c:Nat}{f:Str}{b:TE}{g:L4->Res D}(j:Cls K (Y c))(i:NoAttr K (Y c) f)(m:PJ Y (KC Y k) E M b g):PJ Y (KR Y k) E M (qd K b f) (un (bL c f) g):=by
 intro B U I Z H T Q R P;refine m.bnd R P λx v B1 U1 H1 L _ t e1 u s W=>?_;cases e:bL c f x with
 |ok d=>
   rw[e]at W;obtain⟨ns,vs,rfl,l⟩:=nr e;obtain⟨a,dx,fs,r,p,o,n⟩:=s;subst o;obtain⟨w,h,q⟩:=ko n l;exact⟨a,_,dx,fs,w,r,p,j,i,h,W w B1 U1 H1 [] t (Gw.refl _ _ _) New.nil q⟩
 |exc y=>exact(kJ e).elim
 |bad=>rw[e]at W;exact W.elim
theorem LV{g:KT D V}{c:Nat}{f:Str}{i:Nat}{sh:List (Str×Sh)}(p:Cls K (Y c))(m:NoAttr K (Y c) f)(n:M.getD i .F= .O (.ob sh))
 (o:∀B U H d v A,Same B U->Same U H->Ow Y B H d ((sh.lookup f).getD .fz) v A->g d v B U H []):PJ Y g E M (qd K (cR i) f) (un (bL c f) (vr i)):=by
 intro B U I Z H T Q R P;have l:=R.lo i;rw[n]at l;unfold un vr at P;cases e:rg T i with
 |none=>rw[e]at P;exact P.elim
 |some d0=>
   rw[e]at P l;obtain⟨v,k,q⟩:=l;replace P:Po Y g E M B U I Z H T (bL c f d0) Q:=P;refine⟨v,b9 k,?_⟩;cases b:bL c f d0 with
   |ok d=>
     rw[b]at P;obtain⟨ns,vs,rfl,l⟩:=nr b;have q:Ow Y B H (.obj c ns vs) (.ob sh) v (I i):=q;rw[Ow]at q;obtain⟨a,dx,fs,z,r,u,t,x,s⟩:=q;subst t;obtain⟨w,A1,j,h,_⟩:=Owf.get s l;exact⟨a,_,dx,fs,w,r,u,p,m,j,P w B U H [] R (Gw.refl _ _ _) New.nil (o B U H d w A1 R.bu R.uh h)⟩
   |exc y=>exact(kJ b).elim
   |bad=>rw[b]at P;exact P.elim
theorem lE{c:Nat}{f:Str}{i:Nat}{sh:List (Str×Sh)}(j:Cls K (Y c))(e:NoAttr K (Y c) f)(g:M.getD i .F= .O (.ob sh))(h:(sh.lookup f).getD .fz=.ct .fz):PJ Y (KC Y .F) E M (qd K (cR i) f) (un (bL c f) (vr i)):=
 LV j e g λB U H d v A b u a=>by
  rw[h]at a;exact Ow.cn (b.trans u) a
def Iy(J:It)(H:Hp)(vs:List V):Prop:=∀a,Same H a->(∀i,vs.length<=i->J.stop i a)/\(∀i,i<vs.length->J.go i a)/\∀i x H',i<vs.length->J.yld i a x H'->H'=a/\vs[i]?=some x
def KI(Y:Cm)(k g:Kd):KT (List D) It:=λds J B U H _=>∃vs,Iy J (hp g B U H) vs/\Dns Y (hp k B U H) ds vs
theorem jo{a:Addr}{xs:List V}(h:H a=some (.lst xs)\/SqF K H a xs):Iy (Tk K a) H xs:=λb s=>by
 have q:SqL K b a xs:=by
  rcases h with h|h
  ·exact .inl (.inl (s _ _ h))
  ·exact(h.mono s).sq
 exact⟨λi hi=>⟨xs,q,hi⟩,λi hi=>⟨xs,xs[i],q,TV hi⟩,λi x H' hi y=>⟨y.1,y.2 xs q⟩⟩
theorem vc(lo:Int)(n:Nat):Iy (Sf lo n) H ((List.range n).map λi:Nat=>V.int (lo+i)):=λb s=>by
 have a:((List.range n).map λi:Nat=>V.int (lo+i)).length=n:=by rw[Tv,VT]
 refine⟨λi hi=>by rw[a]at hi;exact hi,λi hi=>by rw[a]at hi;exact hi,λi x H' hi y=>⟨y.1,?_⟩⟩;rw[a]at hi;rw[Ue,VI hi,y.2];rfl
theorem tu{G:Hp}(lo:Int):∀n:Nat,Dns Y G ((List.range n).map λi:Nat=>D.int (lo+i)) ((List.range n).map λi:Nat=>V.int (lo+i))
 |0=>by rw[List.range_zero,Uz,Uz,Dns]
 | n+1=>by
   rw[List.range_succ,Uj,Uj];exact(tu lo n).append (Dns.one (by rw[Dn]))
theorem xB{k:Kd}{d:TE}{e:L4->Res D}(h:PJ Y (KC Y k) E M d e):PJ Y (KI Y k .X) E M (q9 Y.K d) (nH e):=by
 intro B U I Z H T Q R P;refine h.bnd R P λx v B1 U1 H1 L _ g e1 i f W=>?_;cases x with
 |lst ds=>
   obtain⟨a,xs,r,b,c⟩:=f;exact⟨a,r,⟨xs,SqL.of b⟩,W _ B1 U1 H1 [] g (Gw.refl _ _ _) New.nil ⟨xs,jo (.inl b),c⟩⟩
 |scr ds=>
   obtain⟨a,xs,r,b,c⟩:=f;exact⟨a,r,⟨xs,b.sq⟩,W _ B1 U1 H1 [] g (Gw.refl _ _ _) New.nil ⟨xs,jo (.inr b),c⟩⟩
 |_=>exact W.elim
theorem HN{k:Kd}{f:TE}{g:L4->Res D}(h:PJ Y (KR Y k) E M f g):PJ Y (KI Y k k) E M (q9 Y.K f) (nH g):=by
 intro B U I Z H T Q R P;refine h.bnd R P λx v B1 U1 H1 L _ d e1 i b W=>?_;have b:Dn Y (hp k B1 U1 H1) x v:=b;cases x with
 |lst ds=>
   rw[Dn]at b;obtain⟨a,xs,r,c,e⟩:=b;exact⟨a,r,⟨xs,SqL.of (d.hp k _ _ c)⟩,W _ B1 U1 H1 [] d (Gw.refl _ _ _) New.nil ⟨xs,jo (.inl c),e⟩⟩
 |scr ds=>
   rw[Dn]at b;obtain⟨a,xs,r,c,e⟩:=b;exact⟨a,r,⟨xs,(c.mono (d.hp k)).sq⟩,W _ B1 U1 H1 [] d (Gw.refl _ _ _) New.nil ⟨xs,jo (.inr c),e⟩⟩
 |_=>exact W.elim
theorem SY{g:Kd}{e tb:TE}{h f:L4->Res D}(n:PJ Y (KR Y .X) E M e h)(m:PJ Y (KR Y .X) E M tb f):PJ Y (KI Y .F g) E M (Kb (bz e (bz tb cT))) (Ca h f):=by
 intro B U I Z H T Q R P;refine n.bnd R P λx v B1 U1 H1 L _ o e1 q c W=>m.bnd o W λy u l k d s _ R2 r p b a=>?_;have c:Dn Y H1 x v:=c;have b:Dn Y d y u:=b;cases x with
 |int i=>
   cases y with
   |int j=>
     rw[Dn]at c;rw[Dn]at b;subst c b;have a:Po Y (KI Y .F g) E M l k I Z d T (if -(2 ^ 62)<=i/\i<2 ^ 62/\-(2 ^ 62)<=j/\j<2 ^ 62 then .ok (rng i j) else .bad) Q:=a;by_cases z:-(2 ^ 62)<=i/\i<2 ^ 62/\-(2 ^ 62)<=j/\j<2 ^ 62
     ·rw[Tq z]at a;exact⟨i,j,rfl,z,a _ l k d [] R2 (Gw.refl _ _ _) New.nil ⟨_,vc i _,tu i _⟩⟩
     ·rw[on z]at a;exact a.elim
   |_=>exact a.elim
 |_=>cases y<;>exact a.elim
theorem E7{g:Kd}{tb:TE}{c:L4->Res D}(k:PJ Y (KR Y .X) E M tb c):PJ Y (KI Y .F g) E M (Ke (bz tb cT)) (iq c):=by
 intro B U I Z H T Q R P
 have P:Po Y (KI Y .F g) E M B U I Z H T ((c T).bind λy=>match D.int 0,y with
  |.int i,.int j=>if -(2 ^ 62)<=i/\i<2 ^ 62/\-(2 ^ 62)<=j/\j<2 ^ 62 then .ok (rng i j) else .bad
  |_,_=>.bad) Q:=P
 refine k.bnd R P λy u h f d n _ R2 m l b a=>?_;have b:Dn Y d y u:=b;cases y with
 |int j=>
   rw[Dn]at b;subst b;have a:Po Y (KI Y .F g) E M h f I Z d T (if -(2 ^ 62)<=(0:Int)/\(0:Int)<2 ^ 62/\-(2 ^ 62)<=j/\j<2 ^ 62 then .ok (rng 0 j) else .bad) Q:=a;by_cases z:-(2 ^ 62)<=(0:Int)/\(0:Int)<2 ^ 62/\-(2 ^ 62)<=j/\j<2 ^ 62
   · rw[Tq z]at a;refine⟨j,rfl,z.2.2.1,z.2.2.2,a _ h f d [] R2 (Gw.refl _ _ _) New.nil ?_⟩;have e:(j-0).toNat=j.toNat:=by rw[Int.sub_zero]
     unfold rng;rw[e];exact⟨_,vc 0 _,tu 0 _⟩
   ·rw[on z]at a;exact a.elim
 |_=>exact a.elim
theorem yD{W:Type}{l:List (Option W)}{x:Option W}{i:Nat}:rg (x::l) (i+1)=rg l i:=by unfold rg;rw[List.getElem?_cons_succ]
theorem yC{W:Type}{l:List (Option W)}{x:Option W}:rg (x::l) 0=x:=by unfold rg;rw[List.getElem?_cons_zero];rfl
theorem CO{W:Type}{l:List (Option W)}{ix:List Nat}{j:Nat}:rg (ix.map λi=>rg l i) j=match ix[j]? with|some i=>rg l i|none=>none:=by
 unfold rg;rw[List.getElem?_map];cases ix[j]?<;>rfl
theorem uR:∀{l:List Nat} {i j:Nat},l.Nodup->(a:i<l.length)->(b:j<l.length)->l[i]=l[j]->i=j
 |[],_,_,_,a,_,_=>by simp at a
 |x::l,0,0,_,_,_,_=>rfl
 | x::l,0,j+1,nd,a,b,e=>by
   have c:j<l.length:=by simpa using b
   exact absurd (show x∈l from by rw[show x=l[j] from e];exact Wu c) (T3.mp nd).1
 | x::l,i+1,0,nd,a,b,e=>by
   have c:i<l.length:=by simpa using a
   exact absurd (show x∈l from by rw[show x=l[i] from e.symm];exact Wu c) (T3.mp nd).1
 | x::l,i+1,j+1,nd,a,b,e=>by
   rw[uR (T3.mp nd).2 (by simpa using a) (by simpa using b) e]
def Tc(I:Nat->List Addr)(ix:List Nat):Nat->List Addr
 |0=>[]
 |j+1=>match ix[j]? with|some i=>I i|none=>[]
def lH(m:Md)(M:List Md)(ix:List Nat):List Md:=m::ix.map λi=>M.getD i .F
theorem Rel.inner(R:Rel Y M B U I Z H T){ix:List Nat}(h:ix.Nodup){m:Md}{d:D}{v:V}(hd:Lo Y B U H m (some d) (some v) []):
 Rel Y (lH m M ix) B U (Tc I ix) (some v::iE Z ix) H (some d::d5 T ix) where
 bu:=R.bu
 uh:=R.uh
 nd:=λi=>by
  cases i with
  |zero=>exact Uu
  |succ j=>
    show(match ix[j]? with|some i=>I i|none=>[]).Nodup;cases ix[j]? with
    |none=>exact Uu
    |some i=>exact R.nd i
 dj:=λi j a g b c=>by
  cases i with
  |zero=>cases b
  |succ i=>
    cases j with
    |zero=>cases c
    |succ j=>
      have b:a∈(match ix[i]? with|some i=>I i|none=>[]):=b;have c:a∈(match ix[j]? with|some i=>I i|none=>[]):=c;cases f:ix[i]? with
      |none=>rw[f]at b;cases b
      |some x=>
        cases k:ix[j]? with
        |none=>rw[k]at c;cases c
        |some y=>
          rw[f]at b;rw[k]at c;by_cases e:x=y
          · subst e;obtain⟨o,e1⟩:=TW.mp f;obtain⟨n,l⟩:=TW.mp k
            have:=uR h o n (e1.trans l.symm)
            exact g (by rw[this])
          ·exact R.dj x y a e b c
 tb:=R.tb
 un:=λi a b=>by
  cases i with
  |zero=>cases b
  |succ i=>
    have b:a∈(match ix[i]? with|some i=>I i|none=>[]):=b;cases f:ix[i]? with
    |none=>rw[f]at b;cases b
    |some x=>rw[f]at b;exact R.un x a b
 lo:=λi=>by
  cases i with
  |zero=>
    rw[yC,yC];exact hd
  |succ j=>
    rw[yD,yD];unfold iE d5;have e1:rg (ix.map λj=>rg T j) j=match ix[j]? with|some i=>rg T i|none=>none:=CO
    have l:rg (ix.map λj=>(Z[j]?).join) j=match ix[j]? with|some i=>rg Z i|none=>none:=CO
    rw[e1,l];show Lo Y B U H ((m::ix.map λi=>M.getD i .F).getD (j+1) .F) _ _ (match ix[j]? with|some i=>I i|none=>[]);rw[UU,TR,Ue];cases ix[j]? with
    |none=>exact rfl
    |some i=>exact R.lo i
 len:=by
  rw[TD,TD,iE,d5,Tv,Tv]
theorem Rel.poke(R:Rel Y M B U I Z H T){p:Addr}{o:HO}(b:U p=none)(c:∀i,p∉I i):Rel Y M B U I Z (upd H p o) T:=
 ⟨R.bu,λa u q=>by rw[ay (bf q b)];exact R.uh a u q,R.nd,R.dj,R.un,λi=>(R.lo i).mono (Same.refl _) (Same.refl _) λa h=>ay (λz:a=p=>c i (z▸h)),R.len,R.tb⟩
theorem js{W:Type}{l:List W}{i:Nat}{x:W}(h:l[i]?=some x):l.drop i=x::l.drop (i+1):=by
 obtain⟨b,a⟩:=TW.mp h;rw[VG b,a]
theorem zW{k k':Kd}{m0:Md}{S:KT D V}{ix:List Nat}{ti:TT}{te:TE}{mi:L4->Res Bool}{me:L4->Res D}(hix:ix.Nodup)(h0:∀B U H d v,Same B U->Same U H->Dn Y (hp k B U H) d v->Lo Y B U H m0 (some d) (some v) [])
 (hti:PJ Y KB E0 (lH m0 M ix) ti mi) (hte:PJ Y (KR Y k') E0 (lH m0 M ix) te me)
 (fin:∀B U I Z H T B1 U1 H1 Q l L p,Rel Y M B1 U1 I Z H1 T->Gw B U H B1 U1 H1->H p=none->U1 p=none->(∀i,p∉I i)->H1 p=some (.lst L)->Dns Y (hp k' B1 U1 H1) l L->Po Y S E M B U I Z H T (.ok (.lst l)) Q->Q (.ref p) H1)
 (hk':k'= .F\/k'= .U) {I:Nat->List Addr} {Z:St} {T:L4} {Q:VK} {ds:List D} {J:It} {B1 U1 H1:Hp} {vs:List V} (R1:Rel Y M B1 U1 I Z H1 T) (hJ:Iy J H1 vs) (hd:Dns Y (hp k B1 U1 H1) ds vs)
 (W:Po Y S E M B1 U1 I Z H1 T (if ds.length<ao then (bD mi me (d5 T ix) ds).bind λr=>.ok (.lst r) else .bad) Q) (p:Addr) (hp:H1 p=none):Ge J (λv=>some v::iE Z ix) ti te p H1 Q:=by
 by_cases z:ds.length<ao
 · rw[Tq z]at W;have hvl:ds.length=vs.length:=hd.len;have hpA:∀i,p∉I i:=λi=>R1.fresh hp i
   have C:∀{s f K B3 P H3:Hp},Gw s f K B3 P H3->Same (Mi.hp k' s f (λ_=>none)) (Mi.hp k' B3 P (λ_=>none)):=λg=>by
    rcases hk' with e|e<;>subst e
    ·exact g.b
    ·exact g.u
   have hpe:∀{s f K:Hp},Mi.hp k' s f K=Mi.hp k' s f (λ_=>none):=λ{s f K}=>by rcases hk' with e|e<;>subst e<;>rfl
   refine⟨λi m L K=>i<=ds.length/\m=ds.length-i/\K p=some (.lst L)/\L.length<=i/\∃s f l,Rel Y M s f I Z K T/\Gw B1 U1 H1 s f K/\f p=none/\Dns Y (Mi.hp k' s f (λ_=>none)) l L/\
    Po Y S E M B1 U1 I Z H1 T ((bD mi me (d5 T ix) (ds.drop i)).bind λr=>.ok (.lst (l++r))) Q,⟨ds.length,UN _,rfl,aM,TM _,B1,U1,[],R1.new hp,Gw.newO R1 hp,R1.uh.free hp,by rw[Dns],W⟩,?_⟩
   rintro i m L K ⟨hi,rfl,X,hle,s,f,l,R2,g2,u2,dz,t⟩;have A:=hJ K g2.h;refine⟨X,U5 hle (gc (UK (U5 hi z))),?_⟩;by_cases hlt:i<ds.length
   · refine .inr ⟨A.2.1 i (by omega),λv H3 hyl=>?_⟩;obtain⟨rfl,ev⟩:=A.2.2 i v H3 (by omega) hyl;obtain⟨d,ed,dd⟩:=hd.geti ev;rw[js ed,bD]at t;have RI:=R2.inner hix (h0 s f H3 d v R2.bu R2.uh (Dn.mono (gY g2) dd));refine hti s f _ _ H3 _ _ RI ?_;cases eb:mi (some d::d5 T ix) with
     |ok c=>
       rw[eb]at t;intro b B3 P H4 N3 G n n3 hb;cases hb
       have up3:P p=none:=by
        cases q:P p with
        |none=>rfl
        |some o=>
          rcases n.fr p o q with z|z|⟨xs,z⟩
          ·rw[u2]at z;cases z
          ·rw[X]at z;cases z
          ·subst z;have:=G.uh p _ q;rw[n.h _ _ X]at this;cases this
       have R3:Rel Y M B3 P I Z H4 T:=R2.grow n.b n.u n.h G.bu G.uh λj a N=>by
        cases q:P a with
        |none=>rfl
        |some o=>
          rcases n.fr a o q with z|z|z
          ·rw[R2.un j a N]at z;cases z
          ·obtain⟨o',w⟩:=R2.at N;rw[z]at w;cases w
          ·obtain⟨o',w⟩:=R2.at N;have e1:=n.h _ _ w;rw[G.uh a _ q]at e1;cases e1;exact(R2.nt N w z).elim
       cases c with
       |false=>
         rw[on TK];exact⟨ds.length-(i+1),by omega,hlt,rfl,n.h _ _ X,by omega,B3,P,l,R3,g2.trans n,up3,dz.mono (C n),t⟩
       |true=>
         rw[Tq rfl];refine hte B3 P _ _ H4 _ _ G ?_;cases ee:me (some d::d5 T ix) with
         |ok x=>
           have P3:Po Y S E M B1 U1 I Z H1 T (((me (some d::d5 T ix)).calm.bind λx=>(bD mi me (d5 T ix) (ds.drop (i+1))).bind λxs=>.ok (x::xs)).bind λr=>.ok (.lst (l++r))) Q:=t;rw[ee]at P3;intro y B4 U4 H5 N4 R O n4 hx;have y5:H5 p=some (.lst L):=O.h _ _ (n.h _ _ X)
           have up4:U4 p=none:=by
            cases q:U4 p with
            |none=>rfl
            |some o=>
              rcases O.fr p o q with z|z|⟨xs,z⟩
              ·rw[up3]at z;cases z
              ·rw[n.h _ _ X]at z;cases z
              ·subst z;have:=R.uh p _ q;rw[y5]at this;cases this
           have R4:Rel Y M B4 U4 I Z H5 T:=R3.grow O.b O.u O.h R.bu R.uh λj a N=>by
            cases q:U4 a with
            |none=>rfl
            |some o=>
              rcases O.fr a o q with z|z|z
              ·rw[R3.un j a N]at z;cases z
              ·obtain⟨o',w⟩:=R3.at N;rw[z]at w;cases w
              ·obtain⟨o',w⟩:=R3.at N;have e1:=O.h _ _ w;rw[R.uh a _ q]at e1;cases e1;exact(R3.nt N w z).elim
           have g5:Gw B1 U1 H1 B4 U4 (upd H5 p (.lst (L++[y]))):=by
            have g:=(g2.trans n).trans O;exact⟨g.toEx,λa o q=>by rw[ay (bf q hp)];exact g.h a o q,g.fr⟩
           refine⟨y5,ds.length-(i+1),by omega,hlt,rfl,aM,by rw[TU,Vw];omega,B4,U4,l++[x],R4.poke up4 hpA,g5,up4,(dz.mono (C (n.trans O))).append (Dns.one ?_),?_⟩
           ·have hx:Dn Y (Mi.hp k' B4 U4 H5) x y:=hx;rw[hpe]at hx;exact hx
           · cases eg:bD mi me (d5 T ix) (ds.drop (i+1)) with
             |ok r=>
               rw[eg]at P3;show Po Y S E M B1 U1 I Z H1 T (.ok (.lst (l++[x]++r))) Q;rw[UE];exact P3
             |exc c=>rw[eg]at P3;exact P3
             |bad=>rw[eg]at P3;exact P3
         |exc c=>
           have P3:Po Y S E M B1 U1 I Z H1 T (((me (some d::d5 T ix)).calm.bind λx=>(bD mi me (d5 T ix) (ds.drop (i+1))).bind λxs=>.ok (x::xs)).bind λr=>.ok (.lst (l++r))) Q:=t;rw[ee]at P3;exact P3.elim
         |bad=>
           have P3:Po Y S E M B1 U1 I Z H1 T (((me (some d::d5 T ix)).calm.bind λx=>(bD mi me (d5 T ix) (ds.drop (i+1))).bind λxs=>.ok (x::xs)).bind λr=>.ok (.lst (l++r))) Q:=t;rw[ee]at P3;exact P3.elim
     |exc c=>rw[eb]at t;exact t.elim
     |bad=>rw[eb]at t;exact t.elim
   · have e:i=ds.length:=by omega
     subst e;rw[V0,bD]at t;refine .inl ⟨A.1 _ (by omega),?_⟩;have P3:Po Y S E M B1 U1 I Z H1 T (.ok (.lst (l++[]))) Q:=t;rw[Um]at P3;exact fin B1 U1 I Z H1 T s f K Q l L p R2 g2 hp u2 hpA X (by rw[hpe];exact dz) P3
 ·rw[on z]at W;exact W.elim
theorem zV{k k':Kd}{a:Md}{n:KT D V}{l:TI}{ix:List Nat}{m:TT}{te:TE}{src:L4->Res (List D)}{mi:L4->Res Bool}{me:L4->Res D}
 (o:PJ Y (KI Y k .X) E M l src) (f:ix.Nodup) (h0:∀B U H d v,Same B U->Same U H->Dn Y (hp k B U H) d v->Lo Y B U H a (some d) (some v) [])
 (b:PJ Y KB E0 (lH a M ix) m mi) (c:PJ Y (KR Y k') E0 (lH a M ix) te me)
 (g:∀B U I Z H T B1 U1 H1 Q h j p,Rel Y M B1 U1 I Z H1 T->Gw B U H B1 U1 H1->H p=none->U1 p=none->(∀i,p∉I i)->H1 p=some (.lst j)->Dns Y (hp k' B1 U1 H1) h j->Po Y n E M B U I Z H T (.ok (.lst h)) Q->Q (.ref p) H1)
 (e:k'= .F\/k'= .U):PJ Y n E M (nF l ix m te) (iD src ix mi me):=by
 intro B U I Z H T Q R P;refine o.bnd R P λds J B1 U1 H1 L _ r e1 s ⟨vs,q,hd⟩ W p hp=>?_;exact zW f h0 b c g e r q hd W p hp
theorem QU{B U H:Hp}{d:D}{v:V}(_:Same B U)(_:Same U H)(h:Dn Y (hp .F B U H) d v):Lo Y B U H .F (some d) (some v) []:=⟨v,rfl,h,rfl⟩
theorem inU{B U H:Hp}{d:D}{v:V}(_:Same B U)(_:Same U H)(h:Dn Y (hp .U B U H) d v):Lo Y B U H .R (some d) (some v) []:=⟨v,rfl,h,rfl⟩
theorem Nq{B U:Hp}{I:Nat->List Addr}{Z:St}{H:Hp}{T:L4}{B1 U1 H1:Hp}{Q:VK}{b:List D}{c:List V}{p:Addr}(R:Rel Y M B1 U1 I Z H1 T)(g:Gw B U H B1 U1 H1)(hp:H p=none)(u:U1 p=none)(e:∀i,p∉I i)(h:H1 p=some (.lst c))
 (d:Dns Y (Mi.hp .F B1 U1 H1) b c) (P:Po Y (KO Y (.ct .fz)) E M B U I Z H T (.ok (.lst b)) Q):Q (.ref p) H1:=
 P (.ref p) B1 U1 H1 [p] R g ⟨by simp,λa q=>by rw[TX.mp q];exact hp,λa q=>by rw[TX.mp q];exact u⟩ (by
  show Ow Y B1 H1 (.lst b) (.ct .fz) (.ref p) [p];rw[Ow]
  exact⟨p,c,[],rfl,h,rfl,Ows.of d⟩)
section
variable{wi:TI}{ix:List Nat}{ti:TT}{te:TE}{src:L4->Res (List D)}{mi:L4->Res Bool}{me:L4->Res D}
theorem n6:PJ Y KB E M OG (λ_=>.ok true):=λB U I Z H T Q R P=>P _ B U H [] R (Gw.refl _ _ _) New.nil rfl
theorem om(d:PJ Y (KI Y .F .X) E M wi src)(c:ix.Nodup)(a:PJ Y KB E0 (lH .F M ix) ti mi)(b:PJ Y (KR Y .F) E0 (lH .F M ix) te me):PJ Y (KO Y (.ct .fz)) E M (nF wi ix ti te) (iD src ix mi me):=
 zV d c (λ_ _ _ _ _=>QU) a b (λ_ _ _ _ _ _ _ _ _ _ _ _ _=>Nq) (.inl rfl)
theorem uN(d:PJ Y (KI Y .U .X) E M wi src)(c:ix.Nodup)(a:PJ Y KB E0 (lH .R M ix) ti mi)(b:PJ Y (KR Y .F) E0 (lH .R M ix) te me):PJ Y (KO Y (.ct .fz)) E M (nF wi ix ti te) (iD src ix mi me):=
 zV d c (λ_ _ _ _ _=>inU) a b (λ_ _ _ _ _ _ _ _ _ _ _ _ _=>Nq) (.inl rfl)
end
end
structure NewM (N:List Addr) (U:Hp) (I:Nat->List Addr):Prop where
 nd:N.Nodup
 un:∀a∈N,U a=none
 ap:∀a∈N,∀i,a∉I i
theorem NewM.nil{U:Hp}{I:Nat->List Addr}:NewM [] U I:=⟨Uu,λ_ h=>(nomatch h),λ_ h=>(nomatch h)⟩
def Kp(b:Nat->Bool)(Z a:St):Prop:=∀j,b j=true->rg a j=rg Z j
theorem Kp.refl(a:Nat->Bool)(Z:St):Kp a Z Z:=λ_ _=>rfl
theorem Kp.trans{e:Nat->Bool}{Z d c:St}(a:Kp e Z d)(b:Kp e d c):Kp e Z c:=λj h=>(b j h).trans (a j h)
section
variable(Y:Cm)
def Mo{W X:Type}(K:KT W X)(E:XK)(M:List Md)(B U:Hp)(Z:St)(r:Out W)(Q:X->Hp->Prop):Prop:=
 match r with
 |.ok d G=>∀v S J C H' N,Rel Y M S J C Z H' G->Ex B U S J->NewM N J C->K d v S J H' N->Q v H'
 |.exc c G=>∀S J C H',Rel Y M S J C Z H' G->Ex B U S J->∀a,E (.ref (Y c)) a H'
 |.bad=>False
def MJ{W X:Type}(K:KT W X)(E:XK)(M:List Md)(t:St->Hp->(X->Hp->Prop)->Prop)(m:L4->Out W):Prop:=
 ∀B U I Z H T Q,Rel Y M B U I Z H T->Mo Y K E M B U Z (m T) Q->t Z H Q
def So(E:XK)(f:KT D V)(b:Nat->Bool)(M:List Md)(B U:Hp)(Z:St)(r:SO)(D:Ends):Prop:=
 match r with
 |.nx G=>∀a S J C H',Rel Y M S J C a H' G->Ex B U S J->Kp b Z a->D.nx a H'
 |.bk G=>∀a S J C H',Rel Y M S J C a H' G->Ex B U S J->Kp b Z a->D.bk a H'
 |.ct G=>∀a S J C H',Rel Y M S J C a H' G->Ex B U S J->Kp b Z a->D.ct a H'
 |.rt d G=>∀v a S J C H' N,Rel Y M S J C a H' G->Ex B U S J->Kp b Z a->NewM N J C->f d v S J H' N->D.rt v H'
 |.exc c G=>∀a S J C H',Rel Y M S J C a H' G->Ex B U S J->Kp b Z a->∀e,E (.ref (Y c)) e H'
 |.bad=>False
def SJ(E:XK)(b:KT D V)(a:Nat->Bool)(M:List Md)(t:TS)(m:L4->SO):Prop:=
 ∀B U I Z H T D,Rel Y M B U I Z H T->So Y E b a M B U Z (m T) D->t D Z H
end
section
variable{Y:Cm}{E:XK}{Kr:KT D V}{pr:Nat->Bool}{M:List Md}{K:F0}{B U H B1 U1 H1:Hp}{I:Nat->List Addr}{Z σ1:St}{T:L4}
theorem Mo.at{W X:Type}{K:KT W X}{r:Out W}{Q:X->Hp->Prop}(P:Mo Y K E M B U Z r Q)(e:Ex B U B1 U1):Mo Y K E M B1 U1 Z r Q:=by
 cases r with
 |ok d G=>exact λv S J C H' N b a f k=>P v S J C H' N b (e.trans a) f k
 |exc c G=>exact λS J C H' b a=>P S J C H' b (e.trans a)
 |bad=>exact P
theorem So.at{r:SO}{D:Ends}(P:So Y E Kr pr M B U Z r D)(e:Ex B U B1 U1)(k:Kp pr Z σ1):So Y E Kr pr M B1 U1 σ1 r D:=by
 cases r with
 |nx G=>exact λa S J C H' f b k'=>P a S J C H' f (e.trans b) (k.trans k')
 |bk G=>exact λa S J C H' f b k'=>P a S J C H' f (e.trans b) (k.trans k')
 |ct G=>exact λa S J C H' f b k'=>P a S J C H' f (e.trans b) (k.trans k')
 |rt d G=>exact λv a S J C H' N f b k'=>P v a S J C H' N f (e.trans b) (k.trans k')
 |exc c G=>exact λa S J C H' f b k'=>P a S J C H' f (e.trans b) (k.trans k')
 |bad=>exact P
theorem bg{W X:Type}{K:KT W X}{t:St->Hp->(X->Hp->Prop)->Prop}{m:L4->Res W}(h:PJ Y K E M t m):MJ Y K E M t (λT=>(m T).up T):=by
 intro B U I Z H T Q R P;replace P:Mo Y K E M B U Z ((m T).up T) Q:=P;refine h B U I Z H T Q R ?_;cases e:m T with
 |ok d=>
   rw[e]at P;exact λv S J H' N a g n k=>P v S J I H' N a g.toEx ⟨n.nd,n.un,R.apart n⟩ k
 |exc c=>
   rw[e]at P;exact λS J H' a g=>P S J I H' a g.toEx
 |bad=>rw[e]at P;exact P
theorem MJ.imp{W X:Type}{K b:KT W X}{t:St->Hp->(X->Hp->Prop)->Prop}{m:L4->Out W}(h:MJ Y K E M t m)(f:∀B U I Z H T d v N,Rel Y M B U I Z H T->K d v B U H N->b d v B U H N):MJ Y b E M t m:=by
 intro B U I Z H T Q R P;refine h B U I Z H T Q R ?_;cases e:m T with
 |ok d G=>rw[e]at P;exact λv S J C H' N a i g k=>P v S J C H' N a i g (f _ _ _ _ _ _ _ _ _ a k)
 |exc c G=>rw[e]at P;exact P
 |bad=>rw[e]at P;exact P
theorem mfu{t:TE}{m:L4->Out D}(h:MJ Y (KR Y .F) E M t m):MJ Y (KR Y .U) E M t m:=h.imp λ_ _ _ _ _ _ _ _ _ R q=>Dn.mono R.bu q
theorem mux{t:TE}{m:L4->Out D}(h:MJ Y (KR Y .U) E M t m):MJ Y (KR Y .X) E M t m:=h.imp λ_ _ _ _ _ _ _ _ _ R q=>Dn.mono R.uh q
theorem moF{s:Sh}{t:TE}{m:L4->Out D}(h:MJ Y (KO Y s) E M t m):MJ Y (KR Y .F) E M t m:=by
 intro B U I Z H T Q R P;refine h B U I Z H T Q R ?_;cases e:m T with
 |ok d G=>
   rw[e]at P;intro v S J C H' N g k f i;obtain⟨R2,j⟩:=g.freeze λa b=>⟨f.un a b,f.ap a b⟩;refine P v _ _ C H' [] R2 (k.trans j) NewM.nil (Ow.dn (b6 g.bh) (λa b o q=>?_) i);unfold Mi.frz;rw[if_pos b];exact q
 |exc c G=>rw[e]at P;exact P
 |bad=>rw[e]at P;exact P
theorem MJ.bnd{W X S L:Type}{g:KT W X}{f:KT S L}{d:St->Hp->(X->Hp->Prop)->Prop}{b:L4->Out W}(j:MJ Y g E M d b)(R:Rel Y M B U I Z H T){k:W->L4->Out S}{Q:L->Hp->Prop}
 (P:Mo Y f E M B U Z ((b T).bind k) Q) {body:X->Hp->Prop}
 (h:∀x G v B1 U1 a H1 N,Rel Y M B1 U1 a Z H1 G->Ex B U B1 U1->NewM N U1 a->g x v B1 U1 H1 N->Mo Y f E M B1 U1 Z (k x G) Q->body v H1):d Z H body:=by
 refine j B U I Z H T body R ?_;cases e:b T with
 |ok x G=>
   rw[e]at P;exact λv B1 U1 a H1 N l e1 i k1=>h x G v B1 U1 a H1 N l e1 i k1 (Mo.at (r:=k x G) P e1)
 |exc c G=>rw[e]at P;exact P
 |bad=>rw[e]at P;exact P
theorem MJ.bndS{W X:Type}{f:KT W X}{d:St->Hp->(X->Hp->Prop)->Prop}{b:L4->Out W}(i:MJ Y f E M d b)(R:Rel Y M B U I Z H T){k:W->L4->SO}{D:Ends}
 (P:So Y E Kr pr M B U Z (io (b T) k) D) {body:X->Hp->Prop}
 (h:∀x G v B1 U1 a H1 N,Rel Y M B1 U1 a Z H1 G->Ex B U B1 U1->NewM N U1 a->f x v B1 U1 H1 N->So Y E Kr pr M B1 U1 Z (k x G) D->body v H1):d Z H body:=by
 refine i B U I Z H T body R ?_;cases e:b T with
 |ok x G=>
   rw[e]at P;exact λv B1 U1 a H1 N l e1 g k1=>h x G v B1 U1 a H1 N l e1 g k1 (So.at (r:=k x G) P e1 (Kp.refl _ _))
 |exc c G=>rw[e]at P;exact λS J C H' m j=>P Z S J C H' m j (Kp.refl _ _)
 |bad=>rw[e]at P;exact P
theorem dJ{W:Type}{l:List (Option W)}{i j:Nat}{x:Option W}:rg (l.set i x) j=if i=j/\i<l.length then x else rg l j:=by
 unfold rg;rw[List.getElem?_set];by_cases e:i=j
 · subst e;by_cases h:i<l.length
   ·rw[Tq rfl,Tq h,Tq ⟨rfl,h⟩];rfl
   ·rw[Tq rfl,on h,on λz=>h z.2,T4 (by omega)]
 ·rw[on e,on λz=>e z.1]
theorem Rel.store(R:Rel Y M B U I Z H T){i:Nat}{d:D}{v:V}{N:List Addr}(n:NewM N U I)(l:Lo Y B U H (M.getD i .F) (some d) (some v) N):
 ∃C,Rel Y M B U C (Z.set i (some v)) H (T.set i (some d)):=by
 by_cases hi:i<T.length
 · refine⟨λj=>if j=i then N else I j,R.bu,R.uh,λj=>?_,λj k a f b c=>?_,λj a b=>?_,λj=>?_,by rw[T5,T5];exact R.len,R.tb⟩
   · show(if j=i then N else I j).Nodup;split
     ·exact n.nd
     ·exact R.nd j
   · replace b:a∈(if j=i then N else I j):=b;replace c:a∈(if k=i then N else I k):=c;split at b
     · split at c
       ·rename_i h g;exact f (h.trans g.symm)
       ·exact n.ap a b k c
     · split at c
       ·exact n.ap a c j b
       ·exact R.dj j k a f b c
   · replace b:a∈(if j=i then N else I j):=b;split at b
     ·exact n.un a b
     ·exact R.un j a b
   · rw[dJ,dJ];show Lo Y B U H (M.getD j .F) _ _ (if j=i then N else I j);by_cases e:i=j
     ·subst e;rw[Tq ⟨rfl,hi⟩,Tq ⟨rfl,by rw[<-R.len];exact hi⟩,Tq rfl];exact l
     ·rw[on λz=>e z.1,on λz=>e z.1,on λz=>e z.symm];exact R.lo j
 ·have g:=R.len;have e1:Z.set i (some v)=Z:=Wo (by omega);have m:T.set i (some d)=T:=Wo (by omega);rw[e1,m];exact⟨I,R⟩
theorem Kp.set{i:Nat}{x:Option V}(h:pr i=false):Kp pr Z (Z.set i x):=λj a=>by
 rw[dJ,on];rintro⟨e,_⟩;rw[e,a]at h;cases h
theorem IY{f:KT D V}{i:Nat}{te:TE}{m:L4->Out D}(h:MJ Y f E M te m)(k:∀B U H d v N,f d v B U H N->∃a,(a=[]\/a=N)/\Lo Y B U H (M.getD i .F) (some d) (some v) a)(hp:pr i=false):SJ Y E Kr pr M (qg te (fc i)) (cZ i m):=by
 intro B U I Z H T D R P;refine h.bndS R P λx G v B1 U1 c H1 N o e1 j k1 W=>?_;obtain⟨a,n,l⟩:=k B1 U1 H1 x v N k1
 have g:NewM a U1 c:=by
  rcases n with e|e
  ·subst e;exact NewM.nil
  ·subst e;exact j
 obtain⟨b,R2⟩:=o.store g l;exact W _ B1 U1 b H1 R2 (Ex.refl _ _) (Kp.set hp)
theorem cC{i:Nat}{te:TE}{m:L4->Out D}(h:MJ Y (KR Y .F) E M te m)(a:M.getD i .F= .F)(hp:pr i=false):SJ Y E Kr pr M (qg te (fc i)) (cZ i m):=
 IY h (λB U H d v N k=>⟨[],.inl rfl,by rw[a];exact⟨v,rfl,k,rfl⟩⟩) hp
theorem cj{i:Nat}{s:Sh}{te:TE}{m:L4->Out D}(h:MJ Y (KO Y s) E M te m)(a:M.getD i .F= .O s)(hp:pr i=false):SJ Y E Kr pr M (qg te (fc i)) (cZ i m):=
 IY h (λB U H d v N k=>⟨N,.inr rfl,by rw[a];exact⟨v,rfl,k⟩⟩) hp
theorem bV:SJ Y E Kr pr M IP bM:=λB U I Z H T D R P=>P Z B U I H R (Ex.refl _ _) (Kp.refl _ _)
theorem aq{t u:TS}{m n:L4->SO}(h:SJ Y E Kr pr M t m)(k:SJ Y E Kr pr M u n):SJ Y E Kr pr M (Gy t u) (az m n):=by
 intro B U I Z H T D R P;refine h B U I Z H T _ R ?_;unfold az at P;cases e:m T with
 |nx G=>rw[e]at P;exact λa S J C H' f b kp=>k S J C a H' G D f (So.at P b kp)
 |bk G=>rw[e]at P;exact P
 |ct G=>rw[e]at P;exact P
 |rt d G=>rw[e]at P;exact P
 |exc c G=>rw[e]at P;exact P
 |bad=>rw[e]at P;exact P
theorem a6{c:KT D V}{te:TE}{m:L4->Out D}(h:MJ Y c E M te m):SJ Y E Kr pr M (yo te) (bb m):=by
 intro B U I Z H T D R P;refine h.bndS R P λx G v B1 U1 a H1 N b e1 d k1 W=>?_;exact W Z B1 U1 a H1 b (Ex.refl _ _) (Kp.refl _ _)
theorem bA{te:TE}{m:L4->Out D}(h:MJ Y Kr E M te m):SJ Y E Kr pr M (KD te) (b8 m):=by
 intro B U I Z H T D R P;refine h.bndS R P λx G v B1 U1 a H1 N c e1 b k1 W=>?_;exact W v Z B1 U1 a H1 N c (Ex.refl _ _) (Kp.refl _ _) b k1
theorem La(h:∀B U H,Kr .non .non B U H []):SJ Y E Kr pr M IL Lw:=λB U I Z H T D R P=>P .non Z B U I H [] R (Ex.refl _ _) (Kp.refl _ _) NewM.nil (h _ _ _)
theorem dy{c:TT}{t u:TS}{mc:L4->Out Bool}{m n:L4->SO}(d:MJ Y KB E M c mc)(h:SJ Y E Kr pr M t m)(k:SJ Y E Kr pr M u n):SJ Y E Kr pr M (Gz c t u) (gx mc m n):=by
 intro B U I Z H T D R P;refine d.bndS R P λx G v B1 U1 a H1 N b e1 e k1 W=>?_;cases k1;cases x with
 |true=>exact h B1 U1 a Z H1 G D b W
 |false=>exact k B1 U1 a Z H1 G D b W
def TJ(Y:Cm)(k:Kd)(pr:Nat->Bool)(M:List Md)(g:TG)(c:D->L4->Option L4):Prop:=∀B U I Z H T d v a Q,Rel Y M B U I Z H T->Dn Y (hp k B U H) d v->c d T=some a->(∀σ1 b,Rel Y M B U b σ1 H a->Kp pr Z σ1->Q σ1 H)->g v Z H Q
theorem KA{i:Nat}(c:M.getD i .F= .F)(hp:pr i=false):TJ Y .F pr M (fc i) (II i):=by
 intro B U I Z H T d v b Q R hd e h;cases e;obtain⟨a,R2⟩:=R.store (i:=i) (d:=d) (v:=v) NewM.nil (by rw[c];exact⟨v,rfl,hd,rfl⟩);exact h _ a R2 (Kp.set hp)
theorem tg2{k:Kd}{i j:Nat}(hi:TJ Y k pr M (fc i) (II i))(t:TJ Y k pr M (fc j) (II j)):TJ Y k pr M (QX K 2 (Fe (fc i) (Fe (fc j) QZ))) (OE i j):=by
 intro B U I Z H T d v p Q R hd e h;cases d with
 |tup ds=>
   rcases ds with _|⟨x,_|⟨y,_|⟨z,ds⟩⟩⟩
   ·cases e
   ·cases e
   ·cases e;rw[Dn]at hd;obtain⟨a,xs,rfl,u,o⟩:=hd;rw[Dns]at o;obtain⟨f,r,rfl,s,n⟩:=o;rw[Dns]at n;obtain⟨b,A,rfl,q,m⟩:=n;rw[Dns]at m;subst m;refine⟨a,[f,b],rfl,SqT.of (R.hp k _ _ u),rfl,f,[b],rfl,?_⟩;refine hi B U I Z H T x f _ _ R s rfl λσ1 l w k1=>⟨b,[],rfl,?_⟩;exact t B U l σ1 H _ y b _ _ w q rfl λc g R2 k2=>⟨rfl,h c g R2 (k1.trans k2)⟩
   ·cases e
 |_=>cases e
theorem uC{k:Kd}{wi:TI}{g:TG}{tb:TS}{src:L4->Out (List D)}{O:D->L4->Option L4}{body:L4->SO}(hs:MJ Y (KI Y k .U) E M wi src)(hk:k= .F\/k= .U)(hg:TJ Y k pr M g O)(hb:SJ Y E Kr pr M tb body):
 SJ Y E Kr pr M (KE wi g tb) (l6 src O body):=by
 intro B U I Z H T D R P;refine hs.bndS R P λds X J B1 U1 As1 H1 N R1 e1 n1 ⟨vs,hJ,hd⟩ W=>?_;have hvl:ds.length=vs.length:=hd.len
 have hp1:∀{p o H2:Hp},Ex B1 U1 p o->Same (hp k B1 U1 H1) (hp k p o H2):=λe=>by
  rcases hk with z|z<;>subst z
  ·exact e.b
  ·exact e.u
 refine⟨λi m r H'=>i<=ds.length/\m=ds.length-i/\∃p o n h,Rel Y M p o n r H' h/\Ex B1 U1 p o/\Kp pr Z r/\So Y E Kr pr M B1 U1 Z (sV O body (ds.drop i) h) D,⟨_,UN _,rfl,B1,U1,As1,X,R1,Ex.refl _ _,Kp.refl _ _,W⟩,?_⟩;rintro i m r H' ⟨hi,rfl,p,o,n,h,R2,C,k2,a⟩;have hj:=hJ H' (C.u.trans R2.uh);by_cases Q:i<ds.length
 · refine .inr ⟨hj.2.1 i (by omega),λq S=>i+1<=ds.length/\∃p o n h,Rel Y M p o n q S h/\Ex B1 U1 p o/\Kp pr Z q/\So Y E Kr pr M B1 U1 Z (sV O body (ds.drop (i+1)) h) D,λq S ⟨h1,h2⟩=>⟨ds.length-(i+1),by omega,h1,rfl,h2⟩,λx Hx hy=>?_⟩;obtain⟨rfl,ev⟩:=hj.2.2 i x Hx (by omega) hy;obtain⟨d,ed,dd⟩:=hd.geti ev;rw[js ed,sV]at a;cases et:O d h with
   |none=>rw[et]at a;exact a.elim
   |some G=>
     rw[et]at a;refine hg p o n r Hx h d x G _ R2 (Dn.mono (hp1 C) dd) et λV As3 R3 k3=>?_;refine hb p o As3 V Hx G _ R3 ?_;dsimp only at a;cases L:body G with
     |nx l=>
       rw[L]at a;exact λj A w f K y t s=>⟨Q,A,w,f,l,y,C.trans t,(k2.trans k3).trans s,a⟩
     |ct l=>
       rw[L]at a;exact λj A w f K y t s=>⟨Q,A,w,f,l,y,C.trans t,(k2.trans k3).trans s,a⟩
     |bk l=>
       rw[L]at a;exact λj A w f K y t s=>a j A w f K y (C.trans t) ((k2.trans k3).trans s)
     |rt d l=>
       rw[L]at a;exact λv j A w f K N y t s=>a v j A w f K N y (C.trans t) ((k2.trans k3).trans s)
     |exc c l=>
       rw[L]at a;exact λj A w f K y t s=>a j A w f K y (C.trans t) ((k2.trans k3).trans s)
     |bad=>rw[L]at a;exact a.elim
 · have e:i=ds.length:=by omega
   subst e;rw[V0,sV]at a;exact .inl ⟨hj.1 _ (by omega),a r p o n H' R2 C k2⟩
end
inductive Ap where
 |F|U|X|O (i:Nat)|Bo (i:Nat)
deriving DecidableEq
def cI:List Ap->Nat->L4->L4->L4
 |[],_,_,T=>T
 |.O i::r,j,a,T=>cI r (j+1) a (T.set i (rg a j))
 |_::r,j,a,T=>cI r (j+1) a T
def ci(a:List Ap)(e:List D->Out D)(ds:List D)(T:L4):Out D:=match e ds with
 |.ok d b=>.ok d (cI a 0 b T)
 |.exc c b=>.exc c (cI a 0 b T)
 |.bad=>.bad
def fX(a:List D->Out D)(ds:List D):Res D:=match a ds with
 |.ok d _=>.ok d
 |.exc c _=>.exc c
 |.bad=>.bad
def gf(M:List Md)(T:L4):L4:=(List.range M.length).map λi=>match M.getD i .F with | .O _=>rg T i|_=>none
section
variable(Y:Cm)
def dt(M:List Md)(e:KT D V)(b:List D->Out D):Sp:=λvs H Q E=>∃B U I ds,Rel Y M B U I (vs.map some) H (ds.map some)/\vs.length=M.length/\match b ds with
 |.ok d G=>∀v S J C H' N,Rel Y M S J C (vs.map some) H' (gf M G)->Ex B U S J->NewM N J C->e d v S J H' N->Q v H'
 |.exc c G=>∀S J C H',Rel Y M S J C (vs.map some) H' (gf M G)->Ex B U S J->∀a,E (.ref (Y c)) a H'
 |.bad=>False
def A1(p:Ap)(B U H:Hp)(Z:St)(T:L4)(d:D)(v:V):Prop:=match p with
 |.F=>Dn Y B d v
 |.U=>Dn Y U d v
 |.X=>Dn Y H d v
 |.O i=>rg Z i=some v/\rg T i=some d
 |.Bo i=>rg Z i=some v/\rg T i=some d
def Ag(B U H:Hp)(Z:St)(T:L4):List Ap->List D->List V->Prop
 |[],ds,vs=>ds=[]/\vs=[]
 |p::ps,ds,vs=>∃d a v vr,ds=d::a/\vs=v::vr/\A1 Y p B U H Z T d v/\Ag B U H Z T ps a vr
end
section
variable{Y:Cm}{E:XK}{M:List Md}{B U H:Hp}{I:Nat->List Addr}{Z:St}{T:L4}
theorem A1.mono{p:Ap}{S J H':Hp}{d:D}{v:V}(h:A1 Y p B U H Z T d v)(g:Gw B U H S J H'):A1 Y p S J H' Z T d v:=by
 cases p with
 |F=>exact Dn.mono g.b h
 |U=>exact Dn.mono g.u h
 |X=>exact Dn.mono g.h h
 |O i=>exact h
 |Bo i=>exact h
def A1J(Y:Cm)(E:XK)(M:List Md)(p:Ap)(t:TE)(m:L4->Res D):Prop:=∀B U I Z H T Q,Rel Y M B U I Z H T->Po Y (λd v B U H _=>A1 Y p B U H Z T d v) E M B U I Z H T (m T) Q->t Z H Q
def AJ(Y:Cm)(E:XK)(M:List Md)(ps:List Ap)(t:TA)(m:L4->Res (List D)):Prop:=∀B U I Z H T Q,Rel Y M B U I Z H T->Po Y (λd v B U H _=>Ag Y B U H Z T ps d v) E M B U I Z H T (m T) Q->t Z H Q
theorem aF{t:TE}{m:L4->Res D}(h:PJ Y (KR Y .F) E M t m):A1J Y E M .F t m:=λB U I Z H T Q R P=>h B U I Z H T Q R P
theorem aU{t:TE}{m:L4->Res D}(h:PJ Y (KR Y .U) E M t m):A1J Y E M .U t m:=λB U I Z H T Q R P=>h B U I Z H T Q R P
theorem aX{t:TE}{m:L4->Res D}(h:PJ Y (KR Y .X) E M t m):A1J Y E M .X t m:=λB U I Z H T Q R P=>h B U I Z H T Q R P
theorem Og{i:Nat}{p:Ap}(hp:∀B U H Z T d v,rg Z i=some v->rg T i=some d->A1 Y p B U H Z T d v):A1J Y E M p (cR i) (vr i):=by
 intro B U I Z H T Q R P;unfold vr at P;have l:=R.lo i;cases e:rg T i with
 |none=>rw[e]at P;exact P.elim
 |some d=>
   rw[e]at P l;obtain⟨v,a,q⟩:=l;exact⟨v,b9 a,P v B U H [] R (Gw.refl _ _ _) New.nil (hp _ _ _ _ _ _ _ a e)⟩
theorem aO{i:Nat}:A1J Y E M (.O i) (cR i) (vr i):=Og λ_ _ _ _ _ _ _ h k=>⟨h,k⟩
theorem aR:AJ Y E M [] cT bj:=λB U I Z H T Q R P=>P [] B U H [] R (Gw.refl _ _ _) New.nil ⟨rfl,rfl⟩
theorem A1J.bnd{p:Ap}{S L:Type}{d:KT S L}{b:TE}{a:L4->Res D}(f:A1J Y E M p b a)(R:Rel Y M B U I Z H T){k:D->Res S}{Q:L->Hp->Prop}
 (P:Po Y d E M B U I Z H T ((a T).bind k) Q) {body:V->Hp->Prop}
 (h:∀x v B1 U1 H1,Rel Y M B1 U1 I Z H1 T->Gw B U H B1 U1 H1->A1 Y p B1 U1 H1 Z T x v->Po Y d E M B1 U1 I Z H1 T (k x) Q->body v H1):b Z H body:=by
 refine f B U I Z H T body R ?_;cases e:a T with
 |ok x=>
   rw[e]at P;exact λv B1 U1 H1 N g e1 i k1=>h x v B1 U1 H1 g e1 k1 (Po.at (r:=k x) P e1)
 |exc c=>rw[e]at P;exact P
 |bad=>rw[e]at P;exact P
theorem AJ.bnd{ps:List Ap}{S L:Type}{d:KT S L}{b:TA}{a:L4->Res (List D)}(f:AJ Y E M ps b a)(R:Rel Y M B U I Z H T){k:List D->Res S}{Q:L->Hp->Prop}
 (P:Po Y d E M B U I Z H T ((a T).bind k) Q) {body:List V->Hp->Prop}
 (h:∀x v B1 U1 H1,Rel Y M B1 U1 I Z H1 T->Gw B U H B1 U1 H1->Ag Y B1 U1 H1 Z T ps x v->Po Y d E M B1 U1 I Z H1 T (k x) Q->body v H1):b Z H body:=by
 refine f B U I Z H T body R ?_;cases e:a T with
 |ok x=>
   rw[e]at P;exact λv B1 U1 H1 N g e1 i k1=>h x v B1 U1 H1 g e1 k1 (Po.at (r:=k x) P e1)
 |exc c=>rw[e]at P;exact P
 |bad=>rw[e]at P;exact P
theorem ah{p:Ap}{ps:List Ap}{b:TE}{a:TA}{d:L4->Res D}{c:L4->Res (List D)}(f:A1J Y E M p b d)(e:AJ Y E M ps a c):AJ Y E M (p::ps) (bz b a) (aE d c):=by
 intro B U I Z H T Q R P;refine f.bnd R P λx v B1 U1 H1 k e1 i W=>e.bnd k W λy u n j m R2 g h l=>?_;exact l (v::u) n j m [] R2 (Gw.refl _ _ _) New.nil ⟨x,y,v,u,rfl,rfl,i.mono g,h⟩
def sW(M:List Md)(pure:Bool):Ap->Md->Bool
 |.F,.F=>true
 |.F,.R=>true
 |.U,.R=>true
 |.X,.R=>pure
 |.Bo _,.R=>true
 |_,_=>false
theorem Ag.len:∀{ps:List Ap} {ds:List D} {vs:List V},Ag Y B U H Z T ps ds vs->ds.length=ps.length/\vs.length=ps.length
 |[],_,_,h=>by obtain⟨rfl,rfl⟩:=h;exact⟨rfl,rfl⟩
 | p::ps,_,_,h=>by
   obtain⟨d,a,v,vr,rfl,rfl,_,h⟩:=h
   have:=Ag.len h
   exact⟨by rw[TD,TD,this.1],by rw[TD,TD,this.2]⟩
theorem Ag.get:∀{ps:List Ap} {ds:List D} {vs:List V} {j:Nat} {p:Ap},Ag Y B U H Z T ps ds vs->ps[j]?=some p->∃d v,ds[j]?=some d/\vs[j]?=some v/\A1 Y p B U H Z T d v
 |[],_,_,_,_,_,e=>by cases e
 | p::ps,_,_,j,q,h,e=>by
   obtain⟨d,b,v,vr,rfl,rfl,a,h⟩:=h;cases j with
   |zero=>cases e;exact⟨d,v,rfl,rfl,a⟩
   |succ j=>exact Ag.get (j:=j) h (by simpa using e)
theorem d9{W:Type}{l:List W}{i:Nat}:rg (l.map some) i=l[i]?:=by
 unfold rg;rw[List.getElem?_map];cases l[i]?<;>rfl
theorem Rel.read(R:Rel Y M B U I Z H T){i:Nat}{d:D}{v:V}(a:rg Z i=some v)(hd:rg T i=some d):Dn Y H d v:=by
 have l:=R.lo i;rw[hd]at l;have q:=iT l a;cases e:M.getD i .F with
 |F=>rw[e]at q;exact Dn.mono R.bh q.1
 |R=>rw[e]at q;exact Dn.mono R.uh q.1
 |O s=>rw[e]at q;exact Ow.dn R.bh (λ_ _ _ q=>q) q
theorem A1.read(R:Rel Y M B U I Z H T){p:Ap}{d:D}{v:V}(h:A1 Y p B U H Z T d v):Dn Y H d v:=by
 cases p with
 |F=>exact Dn.mono R.bh h
 |U=>exact Dn.mono R.uh h
 |X=>exact h
 |O i=>exact R.read h.1 h.2
 |Bo i=>exact R.read h.1 h.2
def ov(B U:Hp):Hp:=λa=>match B a with|some o=>some o|none=>U a
theorem we{f:List Md}{y:KT D V}{W:List D->Out D}{ps:List Ap}{ds:List D}{vs:List V}{Q:VK}(R:Rel Y M B U I Z H T)(A:Ag Y B U H Z T ps ds vs)(hl:ps.length=f.length)
 (hf:∀(j:Nat) p,ps[j]?=some p->sW M true p (f.getD j .F)=true) (hU:∀d v B U J H N,y d v B U H N->y d v B J H N) (P:Po Y y E M B U I Z H T (fX W ds) Q):dt Y f y W vs H Q E:=by
 have n:=A.len
 have Rc:Rel Y f B H (λ_=>[]) (vs.map some) H (ds.map some):=by
  refine⟨R.bh,Same.refl _,λ_=>Uu,λ_ _ _ _ h=>(nomatch h),λ_ _ h=>(nomatch h),λj=>?_,by rw[Tv,Tv,n.1,n.2],R.tb⟩;rw[d9,d9];cases e:ps[j]? with
  |none=>
    have:ps.length<=j:=VH.mp e
    rw[T4 (by omega)];rfl
  |some p=>
    obtain⟨d,v,ed,ev,t⟩:=A.get e;rw[ed,ev];refine⟨v,rfl,?_⟩;have hr:=A1.read R t;have q:=hf j p e;cases em:f.getD j .F with
    |F=>
      rw[em]at q;cases p with
      |F=>exact⟨t,rfl⟩
      |_=>cases q
    |R=>exact⟨hr,rfl⟩
    |O s=>rw[em]at q;cases p<;>cases q
 refine⟨B,H,λ_=>[],ds,Rc,by omega,?_⟩
 have m:∀{S J H':Hp} {C:Nat->List Addr} {x:L4},Rel Y f S J C (vs.map some) H' x->Ex B H S J->Rel Y M S (ov S U) I Z H' T/\Gw B U H S (ov S U) H':=λ{S J H' C x} l g=>by
  have same:∀a o,U a=some o->∀o',S a=some o'->o'=o:=λa o q o' w=>by
   have t:=g.u a o (R.uh a o q);have h2:=l.bu a o' w;rw[t]at h2;exact(T2 h2).symm
  have X:Same U (ov S U):=λa o q=>by
   unfold ov;cases z:S a with
   |none=>exact q
   |some o'=>rw[same a o q o' z]
  have sh:Same H H':=g.u.trans l.uh
  have uh:Same (ov S U) H':=λa o q=>by
   unfold ov at q;cases z:S a with
   |none=>rw[z]at q;exact sh a o (R.uh a o q)
   |some o'=>rw[z]at q;cases q;exact l.bh a _ z
  have bu:Same S (ov S U):=λa o q=>by unfold ov;rw[q]
  have new:∀a o,S a=some o->B a=some o\/H a=none\/fQ o:=g.nb;refine⟨R.grow g.b X sh bu uh λi a r=>?_,⟨g.b,X,λa o q=>?_⟩,sh,λa o q=>?_⟩
  · unfold ov;cases z:S a with
    |none=>exact R.un i a r
    |some o=>
      obtain⟨o',w⟩:=R.at r;rcases new a o z with q|q|q
      ·have:=R.bu a o q;rw[R.un i a r]at this;cases this
      ·rw[q]at w;cases w
      ·have e1:=sh _ _ w;rw[l.bh a o z]at e1;cases e1;exact(R.nt r w q).elim
  · rcases new a o q with q|q|q
    ·exact .inl q
    ·exact .inr (.inl (R.uh.free q))
    ·exact .inr (.inr q)
  · unfold ov at q;cases z:S a with
    |none=>rw[z]at q;exact .inl q
    |some o'=>
      rw[z]at q;cases q;rcases new a _ z with q|q
      ·exact .inl (R.bu a _ q)
      ·exact .inr q
 cases e:W ds with
 |ok d G=>
   unfold fX at P;rw[e]at P;intro v S J C H' N l g K k;obtain⟨R2,L⟩:=m l g;refine P v S _ H' N R2 L ⟨K.nd,λa r=>g.u.free (K.un a r),λa r=>?_⟩ (hU d v S J (ov S U) H' N k);unfold ov;have t:=K.un a r;cases z:S a with
   |none=>exact R.uh.free (g.u.free t)
   |some o=>have:=l.bu a o z;rw[t]at this;cases this
 |exc c G=>
   unfold fX at P;rw[e]at P;intro S J C H' l g;obtain⟨R2,L⟩:=m l g;exact P S _ H' R2 L
 |bad=>
   unfold fX at P;rw[e]at P;exact P
theorem hF{d:D}{v:V}{B U J H:Hp}{N:List Addr}(h:KR Y .F d v B U H N):KR Y .F d v B J H N:=h
theorem hO{s:Sh}{d:D}{v:V}{B U J H:Hp}{N:List Addr}(h:KO Y s d v B U H N):KO Y s d v B J H N:=h
theorem DA{a:List Md}{b:KT D V}{c:List D->Out D}{ps:List Ap}{t:TA}{m:L4->Res (List D)}(h:AJ Y E M ps t m)(e:ps.length=a.length)
 (f:∀(j:Nat) p,ps[j]?=some p->sW M true p (a.getD j .F)=true) (g:∀d v B U J H N,b d v B U H N->b d v B J H N):PJ Y b E M (qA (dt Y a b c) [] E t) (λT=>(m T).bind (fX c)):=by
 intro B U I Z H T Q R P;refine h.bnd R P λds vs B1 U1 H1 i e1 A W=>?_;rw[Um];exact we i A e f g W
def bI(c:Nat)(m:Str):D->Bool
 |.obj a ns _=>decide (a=c)&&!ns.contains m
 |_=>false
theorem l9{m:Str}:∀{fs:List (Str×V)},(fs.map (·.1)).contains m=false->fs.lookup m=none
 |[],_=>rfl
 | p::fs,h=>by
   rw[Tr,List.contains_cons,Bool.or_eq_false_iff]at h;rw[Ud,h.1];exact l9 h.2
theorem jn{c:Nat}{m:Str}{d:D}{v:V}(h:bI c m d=true)(hd:Dn Y H d v):∃a dx fs,v=.ref a/\H a=some (.ins (Y c) dx fs)/\fs.lookup m=none:=by
 cases d with
 |obj g ns ds=>
   have h:(decide (g=c)&&!ns.contains m)=true:=h;rw[VD]at h;have e:=VU h.1;subst e;rw[Dn]at hd;obtain⟨a,dx,fs,r,f,b,_⟩:=hd;refine⟨a,dx,fs,r,f,l9 ?_⟩;rw[b];simpa using h.2
 |_=>cases h
theorem Dv{c:Nat}{f:Str}{b:List Md}{e:KT D V}{k:List D->Out D}{p:Ap}{ps:List Ap}{g:TE}{i:L4->Res D}{t:TA}{m:L4->Res (List D)}(u:A1J Y E M p g i)(h:AJ Y E M ps t m)(r:(p::ps).length=b.length)
 (s:∀(j:Nat) q,(p::ps)[j]?=some q->sW M true q (b.getD j .F)=true) (w:∀d v B U J H N,e d v B U H N->e d v B J H N):
 PJ Y e E M (gy (Y c) f (dt Y b e k) [] E g t) (λT=>(i T).bind λo=>if bI c f o=true then (m T).bind λds=>fX k (o::ds) else .bad):=by
 intro B U I Z H T Q R P;refine u.bnd R P λo v B1 U1 H1 n e1 l W=>?_;by_cases z:bI c f o=true
 ·rw[Tq z]at W;obtain⟨a,dx,fs,rfl,y,x⟩:=jn z (A1.read n l);refine⟨a,dx,fs,rfl,y,x,h.bnd n W λds vs O K L R2 C A G=>?_⟩;rw[Um];exact we (ps:=p::ps) (ds:=o::ds) R2 ⟨o,ds,_,vs,rfl,rfl,l.mono C,A⟩ r s w G
 ·rw[on z]at W;exact W.elim
end
section
variable{Y:Cm}{E:XK}{M:List Md}{B U H:Hp}{I:Nat->List Addr}{Z:St}{T:L4}
def iN:List Ap->Nat->Option Nat
 |[],_=>none
 |p::r,i=>if p= .O i then some 0 else (iN r i).map (·+1)
theorem gB:∀{ps:List Ap} {i j:Nat},iN ps i=some j->ps[j]?=some (.O i)
 |[],_,_,h=>by cases h
 | p::r,i,j,h=>by
   unfold iN at h;by_cases e:p= .O i
   ·rw[Tq e]at h;cases h;rw[e];rfl
   ·rw[on e]at h;obtain⟨k,a,rfl⟩:=TQ.mp h;rw[Vo];exact gB a
def dG:List Ap->List Nat
 |[]=>[]
 |.O i::r=>i::dG r
 |_::r=>dG r
def jX:List Ap->List Nat
 |[]=>[]
 |.Bo i::r=>i::jX r
 |_::r=>jX r
theorem iS:∀{ps:List Ap} {i j:Nat},ps[j]?=some (.O i)->i∈dG ps
 |[],_,_,h=>by cases h
 | p::r,i,j,h=>by
   cases j with
   |zero=>cases h;exact Tu
   |succ j=>
     have:=iS (ps:=r) (j:=j) (by simpa using h)
     cases p <;> first | exact this | exact Tt _ this
theorem oR:∀{ps:List Ap} {i:Nat},i∈dG ps->∃j,iN ps i=some j
 |[],_,h=>by cases h
 | p::r,i,h=>by
   unfold iN;by_cases e:p= .O i
   ·exact⟨0,by rw[Tq e]⟩
   · rw[on e]
     have:i∈dG r:=by
      cases p with
      |O k=>
        rcases Tz.mp h with z|z
        ·exact absurd (by rw[z]) e
        ·exact z
      |_=>exact h
     obtain⟨j,a⟩:=oR this;exact⟨j+1,by rw[a];rfl⟩
theorem uY:∀{ps:List Ap} {i j:Nat},ps[j]?=some (.Bo i)->i∈jX ps
 |[],_,_,h=>by cases h
 | p::r,i,j,h=>by
   cases j with
   |zero=>cases h;exact Tu
   |succ j=>
     have:=uY (ps:=r) (j:=j) (by simpa using h)
     cases p <;> first | exact this | exact Tt _ this
theorem qS:∀{ps:List Ap} {i j k:Nat},(dG ps).Nodup->ps[j]?=some (.O i)->ps[k]?=some (.O i)->j=k
 |[],_,_,_,_,h,_=>by cases h
 | p::r,i,j,k,nd,c,b=>by
   cases j with
   |zero=>
     cases k with
     |zero=>rfl
     |succ k=>
       cases c;exact absurd (iS (ps:=r) (j:=k) (by simpa using b)) (T3.mp nd).1
   |succ j=>
     cases k with
     |zero=>
       cases b;exact absurd (iS (ps:=r) (j:=j) (by simpa using c)) (T3.mp nd).1
     |succ k=>
       have a:(dG r).Nodup:=by
        cases p with
        |O x=>exact(T3.mp nd).2
        |_=>exact nd
       rw[qS a (j:=j) (k:=k) (by simpa using c) (by simpa using b)]
theorem jB:∀{ps:List Ap} {j:Nat} {a T:L4},(cI ps j a T).length=T.length
 |[],_,_,_=>rfl
 | p::r,j,a,T=>by
   cases p with
   |O i=>rw[cI,jB,T5]
   |F=>rw[cI,jB];all_goals simp
   |U=>rw[cI,jB];all_goals simp
   |X=>rw[cI,jB];all_goals simp
   |Bo i=>rw[cI,jB];all_goals simp
theorem rV:∀{ps:List Ap} {b:Nat} {a T:L4} {i:Nat},(dG ps).Nodup->i<T.length->rg (cI ps b a T) i=match iN ps i with|some j=>rg a (b+j)|none=>rg T i
 |[],_,_,_,_,_,_=>rfl
 | p::r,b,a,T,i,nd,hi=>by
   have step:∀G:L4,G.length=T.length->(dG r).Nodup->(p≠ .O i)->rg G i=rg T i->rg (cI r (b+1) a G) i=match iN (p::r) i with|some j=>rg a (b+j)|none=>rg T i:=λG g d hp e=>by
    rw[rV d (by rw[g];exact hi),iN,on hp];cases iN r i with
    |none=>exact e
    |some j=>
      show rg a (b+1+j)=rg a (b+(j+1));rw[show b+1+j=b+(j+1) by omega]
   cases p with
   |O k=>
     rw[cI];by_cases e:k=i
     · subst e
       have f:iN r k=none:=by
        cases q:iN r k with
        |none=>rfl
        |some j=>exact absurd (iS (gB q)) (T3.mp nd).1
       rw[rV (T3.mp nd).2 (by rw[T5];exact hi),f,iN,Tq rfl,dJ,Tq ⟨rfl,hi⟩];rfl
     ·exact step _ (T5 ..) (T3.mp nd).2 (λz=>e (by cases z;rfl)) (by rw[dJ,on λz=>e z.1])
   |F=>rw[cI];exact step T rfl nd (λz=>by cases z) rfl;all_goals simp
   |U=>rw[cI];exact step T rfl nd (λz=>by cases z) rfl;all_goals simp
   |X=>rw[cI];exact step T rfl nd (λz=>by cases z) rfl;all_goals simp
   |Bo k=>rw[cI];exact step T rfl nd (λz=>by cases z) rfl;all_goals simp
def Q2(M:List Md):Ap->Md->Prop
 |.F,.F=>True
 |.F,.R=>True
 |.U,.R=>True
 |.Bo _,.R=>True
 |.O i,.O s=>M.getD i .F= .O s
 |_,_=>False
def fitM(M:List Md):List Ap->List Md->Prop
 |[],[]=>True
 |p::ps,m::r=>Q2 M p m/\fitM M ps r
 |_,_=>False
theorem fitM.len:∀{ps:List Ap} {mc:List Md},fitM M ps mc->ps.length=mc.length
 |[],[],_=>rfl
 |[],_::_,h=>h.elim
 |_::_,[],h=>h.elim
 |p::ps,m::r,h=>by rw[TD,TD,fitM.len h.2]
theorem fitM.get:∀{ps:List Ap} {mc:List Md} {j:Nat} {p:Ap},fitM M ps mc->ps[j]?=some p->Q2 M p (mc.getD j .F)
 |[],_,_,_,_,e=>by cases e
 |_::_,[],_,_,h,_=>h.elim
 | p::ps,m::r,j,q,h,e=>by
   cases j with
   |zero=>cases e;exact h.1
   |succ j=>rw[UU];exact fitM.get (j:=j) h.2 (by simpa using e)
theorem lK{mc:List Md}{a:L4}{j:Nat}{s:Sh}(h:mc.getD j .F= .O s):rg (gf mc a) j=rg a j:=by
 have b:j<mc.length:=by
  by_cases z:j<mc.length
  ·exact z
  ·rw[TR,T4 (by omega)]at h;cases h
 unfold gf;show((((List.range mc.length).map _)[j]?).join)=_;rw[List.getElem?_map,List.getElem?_range b];show(some (match mc.getD j .F with | .O _=>rg a j|_=>none)).join=_;rw[h];rfl
open Classical in
theorem lm{g:List Md}{Kr:KT D V}{fm:List D->Out D}{ps:List Ap}{ds:List D}{vs:List V}{Q:VK}(R:Rel Y M B U I Z H T)(A:Ag Y B U H Z T ps ds vs)(hf:fitM M ps g)(hd:(dG ps).Nodup)
 (hb:∀i∈jX ps,i∉dG ps) (hU:∀d v B U J H N,Kr d v B U H N->Kr d v B J H N) (P:Mo Y Kr E M B U Z (ci ps fm ds T) Q):dt Y g Kr fm vs H Q E:=by
 have hlen:=A.len;have hl:=hf.len
 have L:∀{i j:Nat},ps[j]?=some (.O i)->∃d v s,ds[j]?=some d/\vs[j]?=some v/\rg Z i=some v/\rg T i=some d/\g.getD j .F= .O s/\M.getD i .F= .O s:=λ{i j} e=>by
  obtain⟨d,v,ed,ev,r⟩:=A.get e;have q:=hf.get e;cases y:g.getD j .F with
  |O s=>rw[y]at q;exact⟨d,v,s,ed,ev,r.1,r.2,rfl,q⟩
  |F=>rw[y]at q;exact q.elim
  |R=>rw[y]at q;exact q.elim
 have FPd:∃Uc:Hp,(∀a,(∃j i:Nat,ps[j]?=some (.O i)/\a∈I i)->Uc a=none)/\(∀a,(¬ ∃j i:Nat,ps[j]?=some (.O i)/\a∈I i)->Uc a=H a):=
  ⟨λa=>if (∃j i:Nat,ps[j]?=some (.O i)/\a∈I i) then none else H a,λa h=>Tq h,λa h=>on h⟩
 obtain⟨Uc,uc1,uc2⟩:=FPd
 have notFP:∀{a o},U a=some o->¬ ∃j i:Nat,ps[j]?=some (.O i)/\a∈I i:=λ{a o} q ⟨j,i,_,f⟩=>by
  rw[R.un i a f]at q;cases q
 have m:Same U Uc:=λa o q=>by rw[uc2 a (notFP q)];exact R.uh a o q
 have ucH:Same Uc H:=λa o q=>by
  by_cases z:∃j i:Nat,ps[j]?=some (.O i)/\a∈I i
  ·rw[uc1 a z]at q;cases q
  ·rw[uc2 a z]at q;exact q
 -- what is owned and not dG
 have other:∀{i a},i∉dG ps->a∈I i->∃o,Uc a=some o/\H a=some o:=λ{i a} hi f=>by
  obtain⟨o,q⟩:=R.at f;refine⟨o,?_,q⟩;rw[uc2 a]
  ·exact q
  · rintro⟨j,k,ek,x⟩;by_cases e:k=i
    ·subst e;exact hi (iS ek)
    ·exact R.dj k i a e x f
 have Rc:Rel Y g B Uc (λj=>match ps[j]? with|some (.O i)=>I i|_=>[]) (vs.map some) H (ds.map some):=by
  refine⟨R.bu.trans m,ucH,λj=>?_,λj k a hne f x=>?_,λj a f=>?_,λj=>?_,by rw[Tv,Tv,hlen.1,hlen.2],R.tb⟩
  · try dsimp only
    split
    ·exact R.nd _
    ·exact Uu
  · try dsimp only at f x
    split at f
    · rename_i i e1;split at x
      · rename_i i' e2;by_cases e:i=i'
        ·subst e;exact hne (qS hd e1 e2)
        ·exact R.dj i i' a e f x
      ·cases x
    ·cases f
  · try dsimp only at f
    split at f
    ·rename_i i e1;exact uc1 a ⟨j,i,e1,f⟩
    ·cases f
  · rw[d9,d9];cases e:ps[j]? with
    |none=>
      have:ps.length<=j:=VH.mp e
      rw[T4 (by omega)];rfl
    |some p=>
      obtain⟨d,v,ed,ev,r⟩:=A.get e;rw[ed,ev];refine⟨v,rfl,?_⟩;have q:=hf.get e;cases p with
      |F=>
        have r:Dn Y B d v:=r;cases y:g.getD j .F with
        |F=>exact⟨r,rfl⟩
        |R=>exact⟨Dn.mono (R.bu.trans m) r,rfl⟩
        |O s=>rw[y]at q;exact q.elim
      |U=>
        have r:Dn Y U d v:=r;cases y:g.getD j .F with
        |F=>rw[y]at q;exact q.elim
        |R=>exact⟨Dn.mono m r,rfl⟩
        |O s=>rw[y]at q;exact q.elim
      |X=>cases y:g.getD j .F<;>(rw[y]at q;exact q.elim)
      |Bo i=>
        cases y:g.getD j .F with
        |F=>rw[y]at q;exact q.elim
        |O s=>rw[y]at q;exact q.elim
        |R=>
          refine⟨?_,rfl⟩;have l:=R.lo i;rw[r.2]at l;have w:=iT l r.1;cases e2:M.getD i .F with
          |F=>rw[e2]at w;exact Dn.mono (R.bu.trans m) w.1
          |R=>rw[e2]at w;exact Dn.mono m w.1
          |O s=>
            rw[e2]at w;refine Ow.dn (R.bu.trans m) (λa f o q=>?_) w;obtain⟨o',q1,q2⟩:=other (hb i (uY e)) f;rw[q2]at q;cases q;exact q1
      |O i=>
        obtain⟨d',v',s,ed',ev',W,h3,h4,h5⟩:=L e;rw[h4];have l:=R.lo i;rw[r.2,h5]at l;exact iT l r.1
 refine⟨B,Uc,_,ds,Rc,by omega,?_⟩
 have main:∀{S J H':Hp} {C:Nat->List Addr} {ρc:L4},Rel Y g S J C (vs.map some) H' (gf g ρc)->Ex B Uc S J->
  Rel Y M S (ov S U) (λi=>match iN ps i with|some j=>C j|none=>I i) Z H' (cI ps 0 ρc T)/\Ex B U S (ov S U)/\∀N,NewM N J C->NewM N (ov S U) (λi=>match iN ps i with|some j=>C j|none=>I i):=λ{S J H' C ρc} t K=>by
  have su:Same U (ov S U):=λa o q=>by
   unfold ov;cases z:S a with
   |none=>exact q
   |some o'=>
     have r:=K.u a o (m a o q);have W:=t.bu a o' z;rw[r]at W;cases W;rfl
  have uh:Same (ov S U) H':=λa o q=>by
   unfold ov at q;cases z:S a with
   |none=>rw[z]at q;exact t.uh a o (K.u a o (m a o q))
   |some o'=>rw[z]at q;cases q;exact t.bh a _ z
  have bu:Same S (ov S U):=λa o q=>by unfold ov;rw[q]
  have free:∀{a},J a=none->ov S U a=none:=λ{a} h=>by
   unfold ov;cases z:S a with
   |none=>exact m.free (K.u.free h)
   |some o=>have:=t.bu a o z;rw[h]at this;cases this
  have there:∀{i a},iN ps i=none->a∈I i->∃o,J a=some o/\H a=some o/\H' a=some o:=λ{i a} hi f=>by
   obtain⟨o,q1,q2⟩:=other (λz=>by obtain⟨j,hj⟩:=oR z;rw[hi]at hj;cases hj) f;exact⟨o,K.u a o q1,q2,t.uh a o (K.u a o q1)⟩
  refine⟨⟨bu,uh,λi=>?_,λi k a hne f x=>?_,λi a f=>?_,λi=>?_,by rw[jB];exact R.len,t.tb⟩,⟨K.b,su,λa o q=>?_⟩,λN n=>⟨n.nd,λa f=>free (n.un a f),λa f i=>?_⟩⟩
  · try dsimp only
    split
    ·exact t.nd _
    ·exact R.nd _
  · try dsimp only at f x
    split at f
    · rename_i j ej;split at x
      ·rename_i j' ej';refine t.dj j j' a (λz=>hne ?_) f x;subst z;have r:=gB ej;have W:=gB ej';rw[r]at W;cases W;rfl
      ·rename_i ek;obtain⟨o,q,_⟩:=there ek x;rw[t.un j a f]at q;cases q
    · rename_i ei;obtain⟨o,q,_⟩:=there ei f;split at x
      ·rename_i j' ej';rw[t.un j' a x]at q;cases q
      ·exact R.dj i k a hne f x
  · try dsimp only at f
    split at f
    ·rename_i j ej;exact free (t.un j a f)
    · rename_i ei;obtain⟨o,q,_⟩:=there ei f;unfold ov;cases z:S a with
      |none=>exact R.un i a f
      |some o'=>
        rcases K.nb a o' z with w|w|w
        ·have:=R.bu a o' w;rw[R.un i a f]at this;cases this
        ·obtain⟨o2,q1,q2⟩:=other (λz=>by obtain⟨j,hj⟩:=oR z;rw[ei]at hj;cases hj) f;rw[w]at q1;cases q1
        ·obtain⟨o2,_,q2,q3⟩:=there ei f;rw[t.bh a o' z]at q3;cases q3;exact(R.nt f q2 w).elim
  · try dsimp only
    cases ep:iN ps i with
    |some j=>
      obtain⟨d,v,s,ed,ev,W,h3,h4,h5⟩:=L (gB ep)
      have hi:i<T.length:=by
       have:=b9 h3
       exact(TW.mp this).1
      rw[rV hd hi,ep]
      try dsimp only
      have l:=t.lo j;rw[lK h4,d9,ev,h4]at l;rw[W,h5,Nat.zero_add];exact l
    |none=>
      try dsimp only
      by_cases hi:i<T.length
      ·rw[rV hd hi,ep];refine(R.lo i).mono K.b su λa f=>?_;obtain⟨o,_,q1,q2⟩:=there ep f;rw[q1,q2]
      · have r:rg (cI ps 0 ρc T) i=none:=by
         unfold rg;rw[List.getElem?_eq_none (by rw[jB];omega)];rfl
        have W:rg T i=none:=by
         unfold rg;rw[List.getElem?_eq_none (by omega)];rfl
        have l:=R.lo i;rw[W]at l;rw[r];exact l
  · rcases K.nb a o q with w|w|w
    ·exact .inl w
    ·exact .inr (.inl (m.free w))
    ·exact .inr (.inr w)
  · try dsimp only
    cases ep:iN ps i with
    |some j=>exact n.ap a f j
    |none=>
      intro z;obtain⟨o,q,_⟩:=there ep z;rw[n.un a f]at q;cases q
 cases e:fm ds with
 |ok d G=>
   unfold ci at P;rw[e]at P;intro v S J C H' N t K n' k;obtain⟨R2,e2,n2⟩:=main t K;exact P v S _ _ H' N R2 e2 (n2 N n') (hU d v S J (ov S U) H' N k)
 |exc c G=>
   unfold ci at P;rw[e]at P;intro S J C H' t K;obtain⟨R2,e2,n2⟩:=main t K;exact P S _ _ H' R2 e2
 |bad=>
   unfold ci at P;rw[e]at P;exact P
end
def fL(c:Nat)(a:List D->Out D)(ds:List D):Res D:=match a (.obj c [] []::ds) with
 |.ok .non G=>(match rg G 0 with|some d=>.ok d|none=>.bad)
 |.ok _ _=>.bad
 |.exc c _=>.exc c
 |.bad=>.bad
section
variable{Y:Cm}{E:XK}{M:List Md}{B U H:Hp}{I:Nat->List Addr}{Z:St}{T:L4}{K:F0}
theorem M7{a:List Md}{b:KT D V}{f:List D->Out D}{ps:List Ap}{t:TA}{m:L4->Res (List D)}(h:AJ Y E M ps t m)(k:fitM M ps a)(hd:(dG ps).Nodup)(l:∀i∈jX ps,i∉dG ps)
 (n:∀d v B U J H N,b d v B U H N->b d v B J H N):MJ Y b E M (qA (dt Y a b f) [] E t) (λT=>((m T).up T).bind (ci ps f)):=by
 intro B U I Z H T Q R P;replace P:Mo Y b E M B U Z (((m T).up T).bind (ci ps f)) Q:=P;refine h B U I Z H T _ R ?_;cases e:m T with
 |ok ds=>
   rw[e]at P;intro vs B1 U1 H1 N j g o A;rw[Um];exact lm j A k hd l n (Mo.at (r:=ci ps f ds T) P g.toEx)
 |exc c=>rw[e]at P;exact λB1 U1 H1 j g=>P B1 U1 I H1 j g.toEx
 |bad=>rw[e]at P;exact P
theorem MX{c:Nat}{g:Str}{f:List Md}{b:KT D V}{j:List D->Out D}{p:Ap}{ps:List Ap}{u:TE}{k:L4->Res D}{t:TA}{m:L4->Res (List D)}(K:A1J Y E M p u k)(h:AJ Y E M ps t m)(F:fitM M (p::ps) f)(hd:(dG (p::ps)).Nodup)
 (G:∀i∈jX (p::ps),i∉dG (p::ps)) (L:∀d v B U J H N,b d v B U H N->b d v B J H N):
 MJ Y b E M (gy (Y c) g (dt Y f b j) [] E u t) (λT=>((k T).up T).bind λo T=>if bI c g o=true then ((m T).up T).bind λds T=>ci (p::ps) j (o::ds) T else .bad):=by
 intro B U I Z H T Q R P;replace P:Mo Y b E M B U Z (((k T).up T).bind λo T=>if bI c g o=true then ((m T).up T).bind λds T=>ci (p::ps) j (o::ds) T else .bad) Q:=P;refine K B U I Z H T _ R ?_;cases e:k T with
 |ok o=>
   rw[e]at P;intro v B1 U1 H1 N q n X w;replace P:Mo Y b E M B U Z (if bI c g o=true then ((m T).up T).bind λds T=>ci (p::ps) j (o::ds) T else .bad) Q:=P;by_cases z:bI c g o=true
   · rw[Tq z]at P;obtain⟨a,dx,fs,rfl,S,O⟩:=jn z (A1.read q w);refine⟨a,dx,fs,rfl,S,O,h B1 U1 I Z H1 T _ q ?_⟩;cases s:m T with
     |ok ds=>
       rw[s]at P;intro vs C x y N2 R2 l W A;rw[Um];exact lm (ps:=p::ps) (ds:=o::ds) R2 ⟨o,ds,_,vs,rfl,rfl,w.mono l,A⟩ F hd G L (Mo.at (r:=ci (p::ps) j (o::ds) T) P (n.toEx.trans l.toEx))
     |exc c=>rw[s]at P;exact λC x y R2 l=>P C x I y R2 (n.toEx.trans l.toEx)
     |bad=>rw[s]at P;exact P
   ·rw[on z]at P;exact P.elim
 |exc c=>rw[e]at P;exact λB1 U1 H1 q n=>P B1 U1 I H1 q n.toEx
 |bad=>rw[e]at P;exact P
theorem Hu{c:Nat}{sh:List (Str×Sh)}{f:List Md}{fm:List D->Out D}{ps:List Ap}{ds:List D}{vs:List V}{Q:VK}(R:Rel Y M B U I Z H T)(A:Ag Y B U H Z T ps ds vs)(hl:ps.length+1=f.length)(h0:f.getD 0 .F= .O (.ob sh))
 (hf:∀(j:Nat) p,ps[j]?=some p->sW M true p (f.getD (j+1) .F)=true) (P:Po Y (KO Y (.ob sh)) E M B U I Z H T (fL c fm ds) Q) (x dx:Addr) (hx:H x=none) (hdx:H dx=none) (hne:dx≠x):
 dt Y f (KR Y .F) fm (.ref x::vs) (upd (upd H dx (.own x)) x (.ins (Y c) dx [])) (λv H2=>v=.non/\Q (.ref x) H2) E:=by
 have L:=A.len;have sH:Same H (upd (upd H dx (.own x)) x (.ins (Y c) dx [])):=Gd.uB hx (Gd.cA hdx);have hUc:∃y:Hp,y x=none/\∀a,a≠x->y a=upd (upd H dx (.own x)) x (.ins (Y c) dx []) a:=⟨λa=>if a=x then none else upd (upd H dx (.own x)) x (.ins (Y c) dx []) a,Tq rfl,λa h=>on h⟩;obtain⟨y,u1,u2⟩:=hUc;have n:Same H y:=λa o q=>by rw[u2 a (bf q hx)];exact sH a o q
 have ucH:Same y (upd (upd H dx (.own x)) x (.ins (Y c) dx [])):=λa o q=>by
  by_cases z:a=x
  ·subst z;rw[u1]at q;cases q
  ·rw[u2 a z]at q;exact q
 have r:∀{a},y a=none->H a=none:=λh=>n.free h
 have Rc:Rel Y f B y (λj=>match j with|0=>[x]|_+1=>[]) ((.ref x::vs).map some) (upd (upd H dx (.own x)) x (.ins (Y c) dx [])) ((.obj c [] []::ds).map some):=by
  refine⟨R.bh.trans n,ucH,λj=>?_,λj k a X g hk=>?_,λj a g=>?_,λj=>?_,by rw[Tv,Tv,TD,TD,L.1,L.2],R.tb⟩
  · cases j with
    |zero=>simp
    |succ j=>exact Uu
  · cases j with
    |zero=>
      cases k with
      |zero=>exact X rfl
      |succ k=>cases hk
    |succ j=>cases g
  · cases j with
    |zero=>rw[TX.mp g];exact u1
    |succ j=>cases g
  · rw[d9,d9];cases j with
    |zero=>
      rw[h0];refine⟨.ref x,rfl,?_⟩;show Ow Y B _ (.obj c [] []) (.ob sh) (.ref x) [x];rw[Ow];exact⟨x,dx,[],[],rfl,aM,rfl,rfl,by rw[Owf];exact⟨rfl,rfl⟩⟩
    |succ j=>
      rw[Vo,Vo];cases e:ps[j]? with
      |none=>
        have:ps.length<=j:=VH.mp e
        rw[T4 (by omega)];rfl
      |some p=>
        obtain⟨d,v,ed,ev,h1⟩:=A.get e;rw[ed,ev];refine⟨v,rfl,?_⟩;have hr:=A1.read R h1;have q:=hf j p e;cases em:f.getD (j+1) .F with
        |F=>
          rw[em]at q;cases p with
          |F=>exact⟨h1,rfl⟩
          |_=>cases q
        |R=>exact⟨Dn.mono n hr,rfl⟩
        |O s=>rw[em]at q;cases p<;>cases q
 refine⟨B,y,_,.obj c [] []::ds,Rc,by rw[TD];omega,?_⟩
 have K:∀{S J H':Hp} {C:Nat->List Addr} {W:L4},Rel Y f S J C ((.ref x::vs).map some) H' W->Ex B y S J->Rel Y M S (ov S U) I Z H' T/\Gw B U H S (ov S U) H'/\∀a,J a=none->ov S U a=none:=λ{S J H' C W} m t=>by
  have sU:Same U J:=(R.uh.trans n).trans t.u
  have su:Same U (ov S U):=λa o q=>by
   unfold ov;cases z:S a with
   |none=>exact q
   |some o'=>
     have h1:=sU a o q;have h2:=m.bu a o' z;rw[h1]at h2;cases h2;rfl
  have sh:Same H H':=(n.trans t.u).trans m.uh
  have uh:Same (ov S U) H':=λa o q=>by
   unfold ov at q;cases z:S a with
   |none=>rw[z]at q;exact sh a o (R.uh a o q)
   |some o'=>rw[z]at q;cases q;exact m.bh a _ z
  have bu:Same S (ov S U):=λa o q=>by unfold ov;rw[q]
  have new:∀a o,S a=some o->B a=some o\/H a=none\/fQ o:=λa o q=>(t.nb a o q).imp id λz=>z.imp r id;refine⟨R.grow t.b su sh bu uh λi a g=>?_,⟨⟨t.b,su,λa o q=>?_⟩,sh,λa o q=>?_⟩,λa h=>?_⟩
  · unfold ov;cases z:S a with
    |none=>exact R.un i a g
    |some o=>
      obtain⟨o',q'⟩:=R.at g;rcases new a o z with q|q|q
      ·have:=R.bu a o q;rw[R.un i a g]at this;cases this
      ·rw[q]at q';cases q'
      ·have e1:=sh _ _ q';rw[m.bh a o z]at e1;cases e1;exact(R.nt g q' q).elim
  · rcases new a o q with q|q|q
    ·exact .inl q
    ·exact .inr (.inl (R.uh.free q))
    ·exact .inr (.inr q)
  · unfold ov at q;cases z:S a with
    |none=>rw[z]at q;exact .inl q
    |some o'=>
      rw[z]at q;cases q;rcases new a _ z with q|q
      ·exact .inl (R.bu a _ q)
      ·exact .inr q
  · unfold ov;cases z:S a with
    |none=>exact sU.free h
    |some o=>have:=m.bu a o z;rw[h]at this;cases this
 unfold fL at P;cases e:fm (.obj c [] []::ds) with
 |ok d G=>
   rw[e]at P;intro v S J C H' N m t n' k;obtain⟨R2,g2,fr2⟩:=K m t;cases d with
   |non=>
     have k:Dn Y S .non v:=k;rw[Dn]at k;refine⟨k,?_⟩;replace P:Po Y (KO Y (.ob sh)) E M B U I Z H T (match rg G 0 with|some d=>.ok d|none=>.bad) Q:=P;have l:=m.lo 0;rw[lK h0,h0]at l;cases e0:rg G 0 with
     |none=>rw[e0]at P;exact P.elim
     |some d=>
       rw[e0]at P l;have w:=iT l (v:=.ref x) rfl;exact P (.ref x) S _ H' (C 0) R2 g2 ⟨m.nd 0,λa g=>r (t.u.free (m.un 0 a g)),λa g=>fr2 a (m.un 0 a g)⟩ w
   |_=>exact P.elim
 |exc c' G=>
   rw[e]at P;intro S J C H' m t;obtain⟨R2,g2,fr2⟩:=K m t;exact P S _ H' R2 g2
 |bad=>rw[e]at P;exact P
theorem LS{c:Nat}{sh:List (Str×Sh)}{a:List Md}{e:List D->Out D}{ps:List Ap}{t:TA}{m:L4->Res (List D)}(h:AJ Y E M ps t m)(g:ps.length+1=a.length)(h0:a.getD 0 .F= .O (.ob sh))
 (i:∀(j:Nat) p,ps[j]?=some p->sW M true p (a.getD (j+1) .F)=true):PJ Y (KO Y (.ob sh)) E M (BW (Y c) (dt Y a (KR Y .F) e) [] E t) (λT=>(m T).bind (fL c e)):=by
 intro B U I Z H T Q R P;refine h.bnd R P λds vs B1 U1 H1 k e1 A W=>?_;intro x dx f d b;rw[Um];exact Hu k A g h0 i W x dx f d b
structure Pth (Y:Cm) (M:List Md) (t:TE) (get:L4->Option D) (set:L4->D->L4):Prop where
 rd:∀{B U:Hp} {I:Nat->List Addr} {Z:St} {H:Hp} {T:L4} {d:D},Rel Y M B U I Z H T->get T=some d->∃v A,(∀Q:VK,Q v H->t Z H Q)/\Ow Y B H d (.ct .fz) v A/\(∀a∈A,∃i,a∈I i)/\
  ∀B1 U1 H1,Rel Y M B1 U1 I Z H1 T->Same B B1->Same H H1->∀a∈A,∀o' d',Ow Y B1 (upd H1 a o') d' (.ct .fz) v A->Rel Y M B1 U1 I Z (upd H1 a o') (set T d')
theorem Rel.mut(R:Rel Y M B U I Z H T){i:Nat}{a:Addr}{o':HO}{d d':D}{v:V}{sh:Sh}(g:M.getD i .F= .O sh)(f:rg Z i=some v)(hd:rg T i=some d)(c:a∈I i)(w:Ow Y B (upd H a o') d' sh v (I i)):
 Rel Y M B U I Z (upd H a o') (T.set i (some d')):=by
 have hi:i<T.length:=(TW.mp (b9 hd)).1;refine⟨R.bu,λb u q=>?_,R.nd,R.dj,R.un,λj=>?_,by rw[T5];exact R.len,R.tb⟩
 ·rw[ay (bf q (R.un i a c))];exact R.uh b u q
 · rw[dJ];by_cases e:i=j
   ·subst e;rw[Tq ⟨rfl,hi⟩,g];exact⟨v,f,w⟩
   ·rw[on λz=>e z.1];exact(R.lo j).mono (Same.refl _) (Same.refl _) λb h=>ay (λz:b=a=>R.dj i j a e c (z▸h))
def dD(i:Nat):L4->Option D:=λT=>rg T i
def iH(i:Nat):L4->D->L4:=λT d=>T.set i (some d)
theorem G1{i:Nat}(f:M.getD i .F= .O (.ct .fz)):Pth Y M (cR i) (dD i) (iH i) where
 rd:=λ{B U I Z H T d} R e=>by
  replace e:rg T i=some d:=e;have l:=R.lo i;rw[e,f]at l;obtain⟨v,c,w⟩:=l;exact⟨v,I i,λQ q=>⟨v,b9 c,q⟩,w,λa b=>⟨i,b⟩,λB1 U1 H1 h _ _ a b o' d' g=>h.mut f c e b g⟩
theorem Owf.upd{sh:List (Str×Sh)}{f:Str}{B H:Hp}:∀{fs:List (Str×V)} {ds:List D} {A:List Addr} {d:D},Owf Y B H ds (fs.map (·.1)) sh (fs.map (·.2)) A->A.Nodup->bC (fs.map (·.1)) ds f=some d->
 ∃v A1,fs.lookup f=some v/\Ow Y B H d ((sh.lookup f).getD .fz) v A1/\(∀a∈A1,a∈A)/\∀B1 H1 d',Same B B1->(∀b∈A,b∉A1->H1 b=H b)->Ow Y B1 H1 d' ((sh.lookup f).getD .fz) v A1->Owf Y B1 H1 (dL (fs.map (·.1)) ds f d') (fs.map (·.1)) sh (fs.map (·.2)) A
 |[],ds,A,d,h,nd,e=>by cases ds<;>cases e
 | p::fs,ds,A,d,h,nd,e=>by
   cases ds with
   |nil=>cases e
   |cons d0 ds=>
     rw[List.map_cons,List.map_cons,Owf]at h;obtain⟨n,E,x,r,s,y,I,h0,J,o,u⟩:=h;cases I;cases h0;subst J;obtain⟨F,j,g⟩:=List.nodup_append.mp nd;rw[List.map_cons]at e;unfold bC at e;by_cases q:p.1=f
     ·rw[Tq q]at e;cases e;rw[q]at o;refine⟨p.2,s,by rw[Ud,<-q,UX],o,λa m=>TL _ m,λB1 H1 d' i k w=>?_⟩;rw[Tr,Tr,dL,Tq q,Owf];exact⟨p.1,_,p.2,_,s,y,rfl,rfl,rfl,by rw[q];exact w,Owf.mono i (λb c=>k b (Tw _ c) λz=>g b z b c rfl) u⟩
     ·rw[on q]at e;obtain⟨v,A1,G,C,t,K⟩:=Owf.upd u j e;have c:(f==p.1)=false:=Ui.mpr λz=>q z.symm;refine⟨v,A1,by rw[Ud,c];exact G,C,λa m=>Tw _ (t a m),λB1 H1 d' i k w=>?_⟩;rw[Tr,Tr,dL,on q,Owf];exact⟨p.1,_,p.2,_,s,y,rfl,rfl,rfl,Ow.mono i (λb c=>k b (TL _ c) λz=>g b c b (t b z) rfl) o,K B1 H1 d' i (λb c l=>k b (Tw _ c) l) w⟩
def fZ(c:Nat)(f:Str)(i:Nat):L4->Option D:=λT=>match rg T i with
 |some (.obj a ns vs)=>if a=c then bC ns vs f else none
 |_=>none
def fB(f:Str)(i:Nat):L4->D->L4:=λT d=>match rg T i with
 |some (.obj c ns vs)=>T.set i (some (.obj c ns (dL ns vs f d)))
 |_=>T
theorem iM{c:Nat}{f:Str}{i:Nat}{sh:List (Str×Sh)}(X:Cls K (Y c))(W:NoAttr K (Y c) f)(E:M.getD i .F= .O (.ob sh))(G:(sh.lookup f).getD .fz=.ct .fz):Pth Y M (qd K (cR i) f) (fZ c f i) (fB f i) where
 rd:=λ{B U I Z H T d} R e=>by
  have l:=R.lo i;unfold fZ at e;cases e0:rg T i with
  |none=>rw[e0]at e;cases e
  |some d0=>
    cases d0 with
    |obj k ns vs=>
      rw[e0]at e;replace e:(if k=c then bC ns vs f else none)=some d:=e;by_cases q:k=c
      · subst q;rw[Tq rfl]at e;rw[e0,E]at l;obtain⟨v,C,w⟩:=l;have x:Ow Y B H (.obj k ns vs) (.ob sh) v (I i):=w;rw[Ow]at x;obtain⟨a,dx,xs,A',rfl,L,h2,j,J⟩:=x;subst h2;have nd:=R.nd i;rw[j]at nd;obtain⟨n,m⟩:=T3.mp nd;obtain⟨u,A1,V,A,t,cl⟩:=Owf.upd J m e;rw[G]at A;refine⟨u,A1,λQ q=>⟨.ref a,b9 C,a,_,dx,xs,u,rfl,L,X,W,V,q⟩,A,λb h=>⟨i,by rw[j];exact Tt _ (t b h)⟩,λB1 U1 H1 R1 P g b h o' d' N=>?_⟩;have s:b∈I i:=by rw[j];exact Tt _ (t b h)
        have:fB f i T d'=T.set i (some (.obj k (xs.map (·.1)) (dL (xs.map (·.1)) vs f d'))):=by unfold fB;rw[e0]
        rw[this];refine R1.mut E C e0 s ?_;rw[j,Ow];have p:a≠b:=λz=>n (by rw[z];exact t b h);refine⟨a,dx,xs,A',rfl,by rw[ay p];exact g _ _ L,rfl,rfl,cl B1 _ d' P (λy S r=>?_) (by rw[G];exact N)⟩
        have:y≠b:=λz=>r (by rw[z];exact h)
        rw[ay this];obtain⟨o,D⟩:=Owf.at J S;rw[D,g _ _ D]
      ·rw[on q]at e;cases e
    |_=>rw[e0]at e;cases e
def Nb(set:L4->D->L4)(T:L4):Option (D×List D)->Out D
 |some (d,a)=>.ok d (set T (.lst a))
 |none=>.bad
def Na(set:L4->D->L4)(f:List D->D->Option (D×List D))(T:L4)(xs:List D):Res D->Out D
 |.ok x=>Nb set T (f xs x)
 |.exc c=>.exc c T
 |.bad=>.bad
def qo(get:L4->Option D)(set:L4->D->L4)(f:List D->D->Option (D×List D))(me:L4->Res D):L4->Out D:=λT=>match get T with
 |some (.lst xs)=>Na set f T xs (me T)
 |_=>.bad
theorem Ow.lst{d:D}{v:V}{A:List Addr}{ds:List D}(w:Ow Y B H d (.ct .fz) v A)(e:d=.lst ds):∃a xs,v=.ref a/\H a=some (.lst xs)/\A=[a]/\Dns Y B ds xs:=by
 subst e;rw[Ow]at w;obtain⟨a,xs,i,r,h,g,f⟩:=w;obtain⟨c,b⟩:=Ows.fz f;exact⟨a,xs,r,h,by rw[g,b],c⟩
theorem Ow.lst'{a:Addr}{ds:List D}{xs:List V}(h:H a=some (.lst xs))(d:Dns Y B ds xs):Ow Y B H (.lst ds) (.ct .fz) (.ref a) [a]:=by
 rw[Ow];exact⟨a,xs,[],rfl,h,rfl,Ows.of d⟩
section
variable{t:TE}{get:L4->Option D}{set:L4->D->L4}
theorem J0{k:Kd}{r:V->List V->Hp->VK->Prop}{f:List D->D->Option (D×List D)}{te:TE}{me:L4->Res D}(p:Pth Y M t get set)(G:PJ Y (KR Y k) E M te me)
 (C:∀(B U H:Hp) (a:Addr) (ds:List D) (xs:List V) (x:D) (u:V) (d:D) (j:List D) (Q:VK),Same B U->Same U H->H a=some (.lst xs)->Dns Y B ds xs->Dn Y (hp k B U H) x u->f ds x=some (d,j)->(∀v l,Dn Y B d v->Dns Y B j l->Q v (upd H a (.lst l)))->r (.ref a) [u] H Q):
 MJ Y (KR Y .F) E M (OL K "list" r t (bz te cT)) (qo get set f me):=by
 intro B U I Z H T Q R P;unfold qo at P;cases e:get T with
 |none=>rw[e]at P;exact P.elim
 |some d0=>
   cases d0 with
   |lst ds=>
     rw[e]at P;replace P:Mo Y (KR Y .F) E M B U Z (Na set f T ds (me T)) Q:=P;obtain⟨v,A,z,w,W,O⟩:=p.rd R e;obtain⟨a,xs,rfl,o,rfl,J⟩:=w.lst rfl;refine z _ ⟨.inl ⟨rfl,xs,SqL.of o⟩,G B U I Z H T _ R ?_⟩;cases m:me T with
     |ok x=>
       rw[m]at P;replace P:Mo Y (KR Y .F) E M B U Z (Nb set T (f ds x)) Q:=P;intro u B1 U1 H1 N i g S y;cases n:f ds x with
       |none=>rw[n]at P;exact P.elim
       |some L=>
         obtain⟨d,j⟩:=L;rw[n]at P;refine C B1 U1 H1 a ds xs x u d j Q i.bu i.uh (g.h _ _ o) (J.mono g.b) y n λv l s q=>?_;exact P v B1 U1 I _ [] (O B1 U1 H1 i g.b g.h a Tu _ _ (Ow.lst' aM q)) g.toEx NewM.nil s
     |exc c=>rw[m]at P;exact λB1 U1 H1 i g=>P B1 U1 I H1 i g.toEx
     |bad=>rw[m]at P;exact P.elim
   |_=>rw[e]at P;exact P.elim
def wo(xs:List D)(x:D):Option (D×List D):=if xs.length<ao then some (.non,xs++[x]) else none
theorem oN{te:TE}{me:L4->Res D}(p:Pth Y M t get set)(g:PJ Y (KR Y .F) E M te me):MJ Y (KR Y .F) E M (OL K "list" yT t (bz te cT)) (qo get set wo me):=
 J0 (f:=wo) p g λB U H a ds xs x u d i Q _ _ h c e b k=>by
  unfold wo at b;by_cases z:ds.length<ao
  ·rw[Tq z]at b;cases b;exact⟨a,xs,u,rfl,rfl,h,gc (UK (by rw[<-c.len];exact z)),k .non _ (by rw[Dn]) (c.append (Dns.one e))⟩
  ·rw[on z]at b;cases b
end
end
section
variable{Y:Cm}{E:XK}{Kr:KT D V}{pr:Nat->Bool}{M:List Md}{B U H:Hp}{I:Nat->List Addr}{Z:St}{T:L4}{K:F0}
def my(set:L4->D->L4)(x d:D)(T:L4):Res D->SO
 |.ok k=>(match rD d k x with|some d'=>.nx (set T d')|none=>.bad)
 |.exc c=>.exc c T
 |.bad=>.bad
def kM(get:L4->Option D)(set:L4->D->L4)(mk:L4->Res D)(b:L4->Out D):L4->SO:=λT=>io (b T) λx a=>match get a with
 |some d=>my set x d a (mk a)
 |none=>.bad
section
variable{W:Type}[DecidableEq W]
theorem nD{kvs:List (W×V)}{k:W}:(kvs.any λa=>decide (a.1=k))=cF (kvs.map (·.1)) k:=by
 unfold cF;rw[List.any_map];rfl
theorem uJ{kvs:List (W×V)}{k:W}{v:V}(h:cF (kvs.map (·.1)) k=true):(fj kvs k v).map (·.1)=kvs.map (·.1):=by
 unfold fj;rw[nD,if_pos h,List.map_map];refine List.map_congr_left λp _=>?_;show(if p.1=k then (p.1,v) else p).1=p.1;split<;>rfl
theorem ft{kvs:List (W×V)}{k:W}{v:V}(h:¬ cF (kvs.map (·.1)) k=true):fj kvs k v=kvs++[(k,v)]:=by
 unfold fj;rw[nD,if_neg h]
theorem n5{G:Hp}{x:D}{v:V}{k:W}(b:Dn Y G x v):∀{kvs:List (W×V)} {ds:List D},Dns Y G ds (kvs.map (·.2))->Dns Y G (iL (kvs.map (·.1)) ds k x) ((kvs.map λa=>if a.1=k then (a.1,v) else a).map (·.2))
 |[],ds,h=>by cases ds<;>exact(by rw[List.map_nil,List.map_nil,List.map_nil];unfold iL;rw[Dns])
 | p::kvs,ds,h=>by
   cases ds with
   |nil=>rw[Dns]at h;cases h
   |cons d ds=>
     rw[Tr,Dns]at h;obtain⟨y,r,e,f,c⟩:=h;cases e;rw[Tr,Tr,Tr,iL,Dns];refine⟨_,_,rfl,?_,n5 b c⟩;by_cases q:p.1=k
     ·rw[Tq q,Tq q];exact b
     ·rw[on q,on q];exact f
end
theorem Ow.dT{d:D}{v:V}{A:List Addr}{b:List (List aQ)}{ds:List D}(w:Ow Y B H d (.ct .fz) v A)(e:d=.dT b ds):∃(a:Addr) (kvs:List (List aQ×V)),v=.ref a/\H a=some (.dT kvs)/\kvs.map (·.1)=b/\A=[a]/\Dns Y B ds (kvs.map (·.2)):=by
 subst e;rw[Ow]at w;obtain⟨a,xs,k,r,j,i,h,g⟩:=w;obtain⟨f,c⟩:=Ows.fz g;exact⟨a,xs,r,j,i,by rw[h,c],f⟩
theorem Ow.dK{d:D}{v:V}{A:List Addr}{b:List aQ}{ds:List D}(w:Ow Y B H d (.ct .fz) v A)(e:d=.dK b ds):∃(a:Addr) (kvs:List (aQ×V)),v=.ref a/\H a=some (.dK kvs)/\kvs.map (·.1)=b/\A=[a]/\Dns Y B ds (kvs.map (·.2)):=by
 subst e;rw[Ow]at w;obtain⟨a,xs,k,r,j,i,h,g⟩:=w;obtain⟨f,c⟩:=Ows.fz g;exact⟨a,xs,r,j,i,by rw[h,c],f⟩
theorem Ow.dT'{a:Addr}{kvs:List (List aQ×V)}{ds:List D}(h:H a=some (.dT kvs))(d:Dns Y B ds (kvs.map (·.2))):Ow Y B H (.dT (kvs.map (·.1)) ds) (.ct .fz) (.ref a) [a]:=by
 rw[Ow];exact⟨a,kvs,[],rfl,h,rfl,rfl,Ows.of d⟩
theorem Ow.dK'{a:Addr}{kvs:List (aQ×V)}{ds:List D}(h:H a=some (.dK kvs))(d:Dns Y B ds (kvs.map (·.2))):Ow Y B H (.dK (kvs.map (·.1)) ds) (.ct .fz) (.ref a) [a]:=by
 rw[Ow];exact⟨a,kvs,[],rfl,h,rfl,rfl,Ows.of d⟩
theorem Ib{d k x d':D}{v u w:V}{A:List Addr}(p:Ow Y B H d (.ct .fz) v A)(m:Dn Y H k u)(j:Dn Y B x w)(e:rD d k x=some d'):∃a o',v=.ref a/\a∈A/\DPut H a u w (upd H a o')/\Ow Y B (upd H a o') d' (.ct .fz) v A:=by
 cases d with
 |dT c vs=>
   obtain⟨a,kvs,rfl,n,i,rfl,h⟩:=p.dT rfl;cases k with
   |tup r=>
     replace e:((bT r).bind λk=>if c.length<ao then some (if cF c k=true then D.dT c (iL c vs k x) else .dT (c++[k]) (vs++[x])) else none)=some d':=e;obtain⟨f,o,e⟩:=VP.mp e;rw[Dn]at m;obtain⟨b,xs,rfl,y,s⟩:=m;have ex:=fN o s;subst ex;by_cases z:c.length<ao
     · rw[Tq z]at e;cases e;have l:kvs.length<sizeLine:=gc (UK (by rw[<-i,Tv]at z;exact z));refine⟨a,_,rfl,Tu,DPut.t n y l,?_⟩;subst i;by_cases q:cF (kvs.map (·.1)) f=true
       · rw[if_pos q];have hp:fj kvs f w=kvs.map λg=>if g.1=f then (g.1,w) else g:=by unfold fj;rw[nD,if_pos q]
         have:=Ow.dT' (Y:=Y) (B:=B) (H:=upd H a (.dT (fj kvs f w))) (ds:=iL (kvs.map (·.1)) vs f x) aM (by rw[hp];exact n5 j h)
         rw[uJ q]at this;exact this
       · rw[on q]
         have:=Ow.dT' (Y:=Y) (B:=B) (H:=upd H a (.dT (fj kvs f w))) (ds:=vs++[x]) aM (by rw[ft q,Uj];exact h.append (Dns.one j))
         rw[ft q,Uj]at this;rw[ft q];exact this
     ·rw[on z]at e;cases e
   |_=>cases e
 |dK c vs=>
   obtain⟨a,kvs,rfl,n,i,rfl,h⟩:=p.dK rfl;replace e:((eJ k).bind λk=>if c.length<ao then some (if cF c k=true then D.dK c (iL c vs k x) else .dK (c++[k]) (vs++[x])) else none)=some d':=by cases k<;>exact e
   obtain⟨f,o,e⟩:=VP.mp e;have ex:=oX o m;subst ex;by_cases z:c.length<ao
   · rw[Tq z]at e;cases e;have l:kvs.length<sizeLine:=gc (UK (by rw[<-i,Tv]at z;exact z));refine⟨a,_,rfl,Tu,DPut.k n l,?_⟩;subst i;by_cases q:cF (kvs.map (·.1)) f=true
     · rw[if_pos q];have hp:fj kvs f w=kvs.map λg=>if g.1=f then (g.1,w) else g:=by unfold fj;rw[nD,if_pos q]
       have:=Ow.dK' (Y:=Y) (B:=B) (H:=upd H a (.dK (fj kvs f w))) (ds:=iL (kvs.map (·.1)) vs f x) aM (by rw[hp];exact n5 j h)
       rw[uJ q]at this;exact this
     · rw[on q]
       have:=Ow.dK' (Y:=Y) (B:=B) (H:=upd H a (.dK (fj kvs f w))) (ds:=vs++[x]) aM (by rw[ft q,Uj];exact h.append (Dns.one j))
       rw[ft q,Uj]at this;rw[ft q];exact this
   ·rw[on z]at e;cases e
 |_=>cases k<;>cases e
section
variable{t:TE}{get:L4->Option D}{set:L4->D->L4}{tk tv:TE}{mk:L4->Res D}{mv:L4->Out D}
theorem lx(p:Pth Y M t get set)(Q:PJ Y (KR Y .X) E M tk mk)(K:MJ Y (KR Y .F) E M tv mv):SJ Y E Kr pr M (Jb t tk tv) (kM get set mk mv):=by
 intro B U I Z H T D R P;refine K.bndS R P λx f w B1 U1 i H1 N G e1 n1 J W=>?_;cases e:get f with
 |none=>rw[e]at W;exact W.elim
 |some d=>
   rw[e]at W;replace W:So Y E Kr pr M B1 U1 Z (my set x d f (mk f)) D:=W;obtain⟨v,A,O,z,hA,V⟩:=p.rd G e;refine O _ (Q B1 U1 i Z H1 f _ G ?_);cases s:mk f with
   |ok k=>
     rw[s]at W;replace W:So Y E Kr pr M B1 U1 Z (match rD d k x with|some d'=>.nx (set f d')|none=>.bad) D:=W;intro u j l m N2 R2 g n2 L;cases y:rD d k x with
     |none=>rw[y]at W;exact W.elim
     |some d'=>
       rw[y]at W
       have q:Ow Y j m d (.ct .fz) v A:=Ow.mono g.b (λa r=>by
        obtain⟨o,C⟩:=Ow.at z r
        rw[C,g.h _ _ C]) z
       obtain⟨a,o',S,r,dp,n⟩:=Ib q L (Dn.mono g.b J) y;exact⟨a,_,S,dp,W Z j l i _ (V j l m R2 g.b g.h a r o' d' n) g.toEx (Kp.refl _ _)⟩
   |exc c=>rw[s]at W;exact λj l m R2 g=>W Z j l i m R2 g.toEx (Kp.refl _ _)
   |bad=>rw[s]at W;exact W.elim
def zb(set:L4->D->L4)(x:D)(xs:List D)(T:L4):Res D->SO
 |.ok (.int i)=>(match qc xs.length i with|some j=>.nx (set T (.lst (xs.set j x)))|none=>.bad)
 |.ok _=>.bad
 |.exc c=>.exc c T
 |.bad=>.bad
def oO(get:L4->Option D)(set:L4->D->L4)(mk:L4->Res D)(mv:L4->Out D):L4->SO:=λT=>io (mv T) λx a=>match get a with
 |some (.lst xs)=>zb set x xs a (mk a)
 |_=>.bad
theorem Cw(p:Pth Y M t get set)(L:PJ Y (KR Y .X) E M tk mk)(J:MJ Y (KR Y .F) E M tv mv):SJ Y E Kr pr M (qg tv (QY t tk Je)) (oO get set mk mv):=by
 intro B U I Z H T D R P;refine J.bndS R P λx f w B1 U1 l H1 N z e1 V G W=>?_;cases e:get f with
 |none=>rw[e]at W;exact W.elim
 |some d=>
   cases d with
   |lst xs=>
     rw[e]at W;replace W:So Y E Kr pr M B1 U1 Z (zb set x xs f (mk f)) D:=W;obtain⟨v,A,K,C,hA,Q⟩:=p.rd z e;obtain⟨a,vs,rfl,O,rfl,y⟩:=C.lst rfl;refine K _ (L B1 U1 l Z H1 f _ z ?_);cases r:mk f with
     |ok k=>
       rw[r]at W;intro u q n o N2 R2 g S m;cases k with
       |int i=>
         replace W:So Y E Kr pr M B1 U1 Z (match qc xs.length i with|some j=>.nx (set f (.lst (xs.set j x)))|none=>.bad) D:=W;have m:Dn Y o (.int i) u:=m;rw[Dn]at m;cases s:qc xs.length i with
         |none=>rw[s]at W;exact W.elim
         |some j=>
           rw[s]at W;refine⟨a,vs,i,j,rfl,m,g.h _ _ O,by rw[<-y.len];exact s,?_⟩;exact W Z q n l _ (Q q n o R2 g.b g.h a Tu _ _ (Ow.lst' aM (Dns.set (Dn.mono g.b G) j (y.mono g.b)))) g.toEx (Kp.refl _ _)
       |_=>exact W.elim
     |exc c=>rw[r]at W;exact λq n o R2 g=>W Z q n l o R2 g.toEx (Kp.refl _ _)
     |bad=>rw[r]at W;exact W.elim
   |_=>rw[e]at W;exact W.elim
end
theorem qH{f:Str}{y:V}:∀{fs:List (Str×V)},(fD f y fs).map (·.1)=if cF (fs.map (·.1)) f=true then fs.map (·.1) else fs.map (·.1)++[f]
 |[]=>rfl
 | p::fs=>by
   obtain⟨g,z⟩:=p;unfold fD cF;rw[List.map_cons,List.any_cons];by_cases q:g=f
   ·rw[Tq q,UO q,Bool.true_or,Tq rfl,Tr]
   · rw[if_neg q,decide_eq_false q,Bool.false_or,List.map_cons,qH];unfold cF;split
     ·rfl
     ·rw[VE]
theorem Owf.put{sh:List (Str×Sh)}{f:Str}{x:D}{y:V}{N:List Addr}(s:Ow Y B H x ((sh.lookup f).getD .fz) y N)(v:N.Nodup):∀{fs:List (Str×V)} {ds:List D} {A:List Addr},Owf Y B H ds (fs.map (·.1)) sh (fs.map (·.2)) A->A.Nodup->(∀a∈N,a∉A)->
 ∃i,Owf Y B H (if cF (fs.map (·.1)) f=true then dL (fs.map (·.1)) ds f x else ds++[x]) ((fD f y fs).map (·.1)) sh ((fD f y fs).map (·.2)) i/\i.Nodup/\∀a∈i,a∈A\/a∈N
 | [],ds,A,h,nd,hd=>by
   cases ds with
   |nil=>
     refine⟨N,?_,v,λa c=>.inr c⟩;show Owf Y B H [x] [f] sh [y] N;rw[Owf];exact⟨f,[],y,[],N,[],rfl,rfl,by rw[Um],s,by rw[Owf];exact⟨rfl,rfl⟩⟩
   |cons d ds=>
     rw[Owf]at h;obtain⟨_,_,_,_,_,_,e,_⟩:=h;cases e
 | p::fs,ds,A,h,nd,hd=>by
   obtain⟨g,z⟩:=p;cases ds with
   |nil=>
     rw[Owf]at h;cases h.1
   |cons d ds=>
     rw[List.map_cons,List.map_cons,Owf]at h;obtain⟨n,J,u,r,E,I,K,h0,M,L,G⟩:=h;cases K;cases h0;subst M;obtain⟨o,j,m⟩:=List.nodup_append.mp nd;unfold fD;by_cases q:g=f
     · have t:cF (((g,z)::fs).map (·.1)) f=true:=by
        unfold cF;rw[List.map_cons,List.any_cons,decide_eq_true q,Bool.true_or]
       rw[Tq q,t,Tq rfl,Tr,dL,Tq q,Tr,Tr];refine⟨N++I,?_,Uf.mpr ⟨v,j,λa c b k e=>hd a c (Tw _ (e▸k))⟩,λa c=>?_⟩
       ·rw[Owf];exact⟨g,_,y,_,N,I,rfl,rfl,rfl,by rw[q];exact s,G⟩
       · rcases TY.mp c with z|z
         ·exact .inr z
         ·exact .inl (Tw _ z)
     · obtain⟨i,w,l,F⟩:=Owf.put s v G j (λa c k=>hd a c (Tw _ k))
       have t:cF (((g,z)::fs).map (·.1)) f=cF (fs.map (·.1)) f:=by
        unfold cF;rw[List.map_cons,List.any_cons,decide_eq_false q,Bool.false_or]
       rw[on q,t,Tr,Tr,Tr,dL,on q]
       have C:∀a∈E,∀b∈i,a≠b:=λa c b k e=>by
        rcases F b k with z|z
        ·exact m a c b z e
        ·exact hd b z (TL _ (e▸c))
       refine⟨E++i,?_,Uf.mpr ⟨o,l,C⟩,λa c=>?_⟩
       · have:(if cF (fs.map (·.1)) f=true then d::dL (fs.map (·.1)) ds f x else (d::ds)++[x])=d::(if cF (fs.map (·.1)) f=true then dL (fs.map (·.1)) ds f x else ds++[x]):=by split<;>rfl
         rw[this,Owf];exact⟨g,_,z,_,E,i,rfl,rfl,rfl,L,w⟩
       · rcases TY.mp c with z|z
         ·exact .inl (TL _ z)
         · rcases F a z with z|z
           ·exact .inl (Tw _ z)
           ·exact .inr z
def cL(c:Nat)(f:Str)(i:Nat)(me:L4->Out D):L4->SO:=λT=>io (me T) λx a=>match rg a i with
 |some d=>(match lX c f x d with|some d'=>.nx (a.set i (some d'))|none=>.bad)
 |none=>.bad
theorem I9{K':KT D V}{c:Nat}{f:Str}{i:Nat}{sh:List (Str×Sh)}{te:TE}{me:L4->Out D}(hc:Cls K (Y c))(hn:NoAttr K (Y c) f)(hm:M.getD i .F= .O (.ob sh))(he:MJ Y K' E M te me)
 (r:∀B U H d v N,K' d v B U H N->∃N',(N'=[]\/N'=N)/\Ow Y B H d ((sh.lookup f).getD .fz) v N'):SJ Y E Kr pr M (GV K (cR i) te f) (cL c f i me):=by
 intro B U I Z H T D R P;refine he.bndS R P λx s y B1 U1 g H1 N m e1 n1 hx W=>?_;obtain⟨N',hN,ow⟩:=r _ _ _ _ _ _ hx
 have J:NewM N' U1 g:=by
  rcases hN with e|e
  ·subst e;exact NewM.nil
  ·subst e;exact n1
 have l:=m.lo i;cases e:rg s i with
 |none=>rw[e]at W;exact W.elim
 |some d=>
   rw[e]at W;replace W:So Y E Kr pr M B1 U1 Z (match lX c f x d with|some d'=>.nx (s.set i (some d'))|none=>.bad) D:=W;rw[e,hm]at l;obtain⟨v,hv,w⟩:=l;cases d with
   |obj p ns vs=>
     have ep:lX c f x (.obj p ns vs)=if p=c/\ns.length<900 then some (if cF ns f=true then .obj p ns (dL ns vs f x) else .obj p (ns++[f]) (vs++[x])) else none:=rfl
     rw[ep]at W;by_cases q:p=c/\ns.length<900
     · rw[Tq q]at W;obtain⟨q1,q2⟩:=q;subst q1;have w:Ow Y B1 H1 (.obj p ns vs) (.ob sh) v (g i):=w;rw[Ow]at w;obtain⟨a,dx,fs,A',rfl,h1,h2,X,h4⟩:=w;subst h2;have nd:=m.nd i;rw[X]at nd;obtain⟨nd1,nd2⟩:=T3.mp nd;have n:a∈g i:=by rw[X];exact Tu
       obtain⟨o,w2,nda,hA⟩:=Owf.put ow J.nd h4 nd2 (λb h A=>J.ap b h i (by rw[X];exact Tt _ A))
       have S:a∉o:=λz=>by
        rcases hA a z with z|z
        ·exact nd1 z
        ·exact J.ap a z i n
       refine⟨.ref a,b9 hv,a,_,dx,fs,rfl,h1,hc,hn,by rw[Tv]at q2;omega,?_⟩
       have w3:Ow Y B1 (upd H1 a (.ins (Y p) dx (fD f y fs))) (if cF (fs.map (·.1)) f=true then .obj p (fs.map (·.1)) (dL (fs.map (·.1)) vs f x) else .obj p (fs.map (·.1)++[f]) (vs++[x])) (.ob sh) (.ref a) (a::o):=by
        have C:=Owf.mono (H':=upd H1 a (.ins (Y p) dx (fD f y fs))) (Same.refl B1) (λb h=>ay (λz:b=a=>S (z▸h))) w2;have G:=qH (f:=f) (y:=y) (fs:=fs);by_cases k:cF (fs.map (·.1)) f=true
        ·rw[Tq k]at G C ⊢;rw[Ow];rw[G]at C;exact⟨a,dx,_,o,rfl,aM,G,rfl,C⟩
        ·rw[on k]at G C ⊢;rw[Ow];rw[G]at C;exact⟨a,dx,_,o,rfl,aM,G,rfl,C⟩
       have hi:i<s.length:=(TW.mp (b9 e)).1;refine W Z B1 U1 (λj=>if j=i then a::o else g j) _ ⟨m.bu,λb u z=>?_,λj=>?_,λj k b Q h r=>?_,λj b h=>?_,λj=>?_,by rw[T5];exact m.len,m.tb⟩ (Ex.refl _ _) (Kp.refl _ _)
       ·rw[ay (bf z (m.un i a n))];exact m.uh b u z
       · show(if j=i then a::o else g j).Nodup;split
         ·exact T3.mpr ⟨S,nda⟩
         ·exact m.nd j
       · replace h:b∈(if j=i then a::o else g j):=h;replace r:b∈(if k=i then a::o else g k):=r
         have L:∀{j},j≠i->b∈a::o->b∈g j->False:=λ{j} hj A t=>by
          rcases Tz.mp A with z|z
          ·exact m.dj i j b (Va hj) (by rw[z];exact n) t
          · rcases hA b z with z|z
            ·exact m.dj i j b (Va hj) (by rw[X];exact Tt _ z) t
            ·exact J.ap b z j t
         split at h
         · rename_i z1;split at r
           ·rename_i z2;exact Q (z1.trans z2.symm)
           ·rename_i z2;exact L z2 h r
         · rename_i z1;split at r
           ·exact L z1 r h
           ·exact m.dj j k b Q h r
       · replace h:b∈(if j=i then a::o else g j):=h;split at h
         · rcases Tz.mp h with z|z
           ·rw[z];exact m.un i a n
           · rcases hA b z with z|z
             ·exact m.un i b (by rw[X];exact Tt _ z)
             ·exact J.un b z
         ·exact m.un j b h
       · rw[dJ];show Lo Y B1 U1 _ (M.getD j .F) _ _ (if j=i then a::o else g j);by_cases z:i=j
         ·subst z;rw[Tq ⟨rfl,hi⟩,Tq rfl,hm];exact⟨.ref a,hv,w3⟩
         ·rw[on λy=>z y.1,on λy=>z y.symm];exact(m.lo j).mono (Same.refl _) (Same.refl _) λb h=>ay (λy:b=a=>m.dj i j a z n (y▸h))
     ·rw[on q]at W;exact W.elim
   |_=>exact W.elim
theorem Lp{c:Nat}{f:Str}{i:Nat}{sh:List (Str×Sh)}{te:TE}{me:L4->Out D}(h:Cls K (Y c))(a:NoAttr K (Y c) f)(b:M.getD i .F= .O (.ob sh))(e:(sh.lookup f).getD .fz=.fz)(g:MJ Y (KR Y .F) E M te me):SJ Y E Kr pr M (GV K (cR i) te f) (cL c f i me):=
 I9 h a b g λB U H d v N k=>⟨[],.inl rfl,by rw[e,Ow];exact⟨k,rfl⟩⟩
theorem gj{c:Nat}{f:Str}{i:Nat}{sh:List (Str×Sh)}{s:Sh}{te:TE}{me:L4->Out D}(h:Cls K (Y c))(a:NoAttr K (Y c) f)(b:M.getD i .F= .O (.ob sh))(e:(sh.lookup f).getD .fz=s)(g:MJ Y (KO Y s) E M te me):SJ Y E Kr pr M (GV K (cR i) te f) (cL c f i me):=
 I9 h a b g λB U H d v N k=>⟨N,.inr rfl,by rw[e];exact k⟩
def uq(M:List Md)(a:Nat):Nat->Bool:=λj=>decide (j<a)&&(match M.getD j .F with | .O _=>true|_=>false)
theorem wJ{W:Type}{l:List (Option W)}{n i:Nat}:rg (l++List.replicate n none) i=rg l i:=by
 unfold rg;by_cases h:i<l.length
 ·rw[UB h]
 · rw[Uw (by omega),T4 (show l.length<=i by omega)];by_cases a:i-l.length<n
   ·rw[VO,Tq a];rfl
   ·rw[VO,on a]
def mT(k:Nat)(body:L4->SO)(ds:List D):Out D:=match body (ds.map some++List.replicate (k-ds.length) none) with
 |.rt d T=>.ok d T
 |.exc c T=>.exc c T
 |_=>.bad
theorem Rel.enter{more:List Md}{vs:List V}{ds:List D}{n:Nat}(R:Rel Y M B U I (vs.map some) H (ds.map some))(a:vs.length=M.length):Rel Y (M++more) B U I (vs.map some++List.replicate n none) H (ds.map some++List.replicate n none):=by
 have hd:ds.length=vs.length:=by have:=R.len;rw[Tv,Tv]at this;exact this
 refine⟨R.bu,R.uh,R.nd,R.dj,R.un,λi=>?_,by rw[TU,TU,R.len,Vy,Vy],R.tb⟩;rw[wJ,wJ];have l:=R.lo i;by_cases h:i<M.length
 ·rw[TR,UB h,<-TR];exact l
 · have:rg (ds.map some) i=none:=by rw[d9,T4 (by omega)]
   rw[this]at l ⊢;exact l
theorem Rel.leave{more:List Md}{vs:List V}{d:St}{G:L4}{n:Nat}(h:vs.length=M.length)(R:Rel Y (M++more) B U I d H G)(k:Kp (uq M M.length) (vs.map some++List.replicate n none) d):
 ∃C,Rel Y M B U C (vs.map some) H (gf M G)/\∀N,NewM N U I->NewM N U C:=by
 refine⟨λi=>if uq M M.length i=true then I i else [],⟨R.bu,R.uh,λi=>?_,λi j a g b f=>?_,λi a b=>?_,λi=>?_,?_,R.tb⟩,λN n=>⟨n.nd,n.un,λa b i=>?_⟩⟩
 · show(if uq M M.length i=true then I i else []).Nodup;split
   ·exact R.nd i
   ·exact Uu
 · replace b:a∈(if uq M M.length i=true then I i else []):=b;replace f:a∈(if uq M M.length j=true then I j else []):=f;split at b
   · split at f
     ·exact R.dj i j a g b f
     ·cases f
   ·cases b
 · replace b:a∈(if uq M M.length i=true then I i else []):=b;split at b
   ·exact R.un i a b
   ·cases b
 · show Lo Y B U H (M.getD i .F) (rg (gf M G) i) (rg (vs.map some) i) (if uq M M.length i=true then I i else []);by_cases hi:i<M.length
   · have m:(M++more).getD i .F=M.getD i .F:=by
      rw[TR,UB hi,<-TR]
     cases c:M.getD i .F with
     |O s=>
       have hp:uq M M.length i=true:=by unfold uq;rw[c,decide_eq_true hi];rfl
       rw[Tq hp,lK c];have l:=R.lo i;rw[m,c,k i hp,wJ]at l;exact l
     |F=>
       have hp:uq M M.length i=false:=by unfold uq;rw[c];simp
       have e:rg (gf M G) i=none:=by
        unfold gf rg;rw[List.getElem?_map,List.getElem?_range hi];show(some (match M.getD i .F with | .O _=>_|_=>none)).join=none;rw[c];rfl
       rw[hp,e];exact rfl
     |R=>
       have hp:uq M M.length i=false:=by unfold uq;rw[c];simp
       have e:rg (gf M G) i=none:=by
        unfold gf rg;rw[List.getElem?_map,List.getElem?_range hi];show(some (match M.getD i .F with | .O _=>_|_=>none)).join=none;rw[c];rfl
       rw[hp,e];exact rfl
   · have hp:uq M M.length i=false:=by unfold uq;rw[decide_eq_false hi];rfl
     have e:rg (gf M G) i=none:=by
      unfold gf rg;rw[List.getElem?_eq_none (by rw[List.length_map,List.length_range];omega)];rfl
     rw[hp,e];exact rfl
 ·unfold gf;rw[List.length_map,List.length_map,List.length_range,h]
 · show a∉(if uq M M.length i=true then I i else []);split
   ·exact n.ap a b i
   ·simp
theorem aH{vs:List V}{Q:VK}{b:List D->Out D}(h:dt Y M Kr b vs H Q E):vs.length=M.length:=by
 obtain⟨_,_,_,_,_,a,_⟩:=h;exact a
end
end Mi
namespace Mi
open PySem PySem.Spec L2
mutual
def toPy:D->Option PyData
 |.non=>some .none
 |.bl b=>some (.bool b)
 |.int i=>some (.int i)
 |.str x=>some (.str x)
 |.lst xs=>(toPys xs).map .list
 |.scr xs=>(toPys xs).map .list
 |.tup xs=>(toPys xs).map .tuple
 |.ty _=>none
 |.dK _ _=>none
 |.dT _ _=>none
 |.obj _ _ _=>none
def toPys:List D->Option (List PyData)
 |[]=>some []
 | d::r=>match toPy d,toPys r with
   |some p,some q=>some (p::q)
   |_,_=>none
end
section
variable{Y:Cm}{E:XK}{Kr:KT D V}{pr:Nat->Bool}{M:List Md}{B U H:Hp}{I:Nat->List Addr}{Z:St}{T:L4}{K:F0}
mutual
theorem den_of:∀{d:D} {p:PyData} {v:V},toPy d=some p->Dn Y H d v->L2.Den Y.K H p v
 |.non,p,v,e,h=>by rw[Dn]at h;cases e;rw[L2.Den];exact h
 |.bl _,p,v,e,h=>by rw[Dn]at h;cases e;rw[L2.Den];exact h
 |.int _,p,v,e,h=>by rw[Dn]at h;cases e;rw[L2.Den];exact h
 |.str _,p,v,e,h=>by rw[Dn]at h;cases e;rw[L2.Den];exact h
 | .lst xs,p,v,e,h=>by
   rw[Dn]at h;obtain⟨a,b,rfl,f,c⟩:=h;rw[toPy]at e;obtain⟨ps,e1,rfl⟩:=TQ.mp e;rw[L2.Den];exact⟨a,b,rfl,SqL.of f,dens_of e1 c⟩
 | .scr xs,p,v,e,h=>by
   rw[Dn]at h;obtain⟨a,b,rfl,f,c⟩:=h;rw[toPy]at e;obtain⟨ps,e1,rfl⟩:=TQ.mp e;rw[L2.Den];exact⟨a,b,rfl,f.sq,dens_of e1 c⟩
 | .tup xs,p,v,e,h=>by
   rw[Dn]at h;obtain⟨a,b,rfl,f,c⟩:=h;rw[toPy]at e;obtain⟨ps,e1,rfl⟩:=TQ.mp e;rw[L2.Den];exact⟨a,b,rfl,SqT.of f,dens_of e1 c⟩
 |.ty _,p,v,e,h=>by cases e
 |.dK _ _,p,v,e,h=>by cases e
 |.dT _ _,p,v,e,h=>by cases e
 |.obj _ _ _,p,v,e,h=>by cases e
theorem dens_of:∀{ds:List D} {ps:List PyData} {xs:List V},toPys ds=some ps->Dns Y H ds xs->L2.Dens Y.K H ps xs
 |[],ps,xs,e,h=>by rw[Dns]at h;rw[toPys]at e;cases e;rw[L2.Dens];exact h
 | d::ds,ps,xs,e,h=>by
   rw[Dns]at h;obtain⟨x,r,rfl,c,b⟩:=h;rw[toPys]at e;cases e1:toPy d with
   |none=>rw[e1]at e;cases e
   |some p=>
     cases a:toPys ds with
     |none=>rw[e1,a]at e;cases e
     |some q=>
       rw[e1,a]at e;cases e;rw[L2.Dens];exact⟨x,r,rfl,den_of e1 c,dens_of a b⟩
end
def Gm(neg:Bool)(x y:D):Res D:=match toPy x,toPy y with
 |some p,some q=>if SeqAt.shaped p=true/\SeqAt.shaped q=true then .ok (.bl (neg.xor (PyData.eqv p q))) else .bad
 |_,_=>.bad
theorem nX{neg:Bool}:S2 Y (Dh Y.K neg) (Gm neg):=by
 intro H x y v u b a;unfold Gm;cases e1:toPy x with
 |none=>trivial
 |some p=>
   cases c:toPy y with
   |none=>trivial
   |some q=>
     dsimp only;by_cases z:SeqAt.shaped p=true/\SeqAt.shaped q=true
     ·rw[Tq z];refine⟨.bl _,λ_=>by rw[Dn],λQ h=>⟨p,q,den_of e1 b,den_of c a,z.1,z.2,?_⟩⟩;cases neg<;>simpa using h
     ·rw[on z];trivial
def J8(x y:D):Res D:=match toPy x,toPy y with
 |some p,some (.list xs)=>if SeqAt.shaped p=true/\SeqAt.shaped (.list xs)=true/\(xs.all λz=>SeqAt.noMix z p)=true then .ok (.bl (decide (countIn p xs≠0))) else .bad
 |_,_=>.bad
theorem I8:S2 Y (λx y H Q=>∃d xs,L2.Den Y.K H d x/\L2.Den Y.K H (.list xs) y/\SeqAt.shaped d=true/\SeqAt.shaped (.list xs)=true/\(∀z∈xs,SeqAt.noMix z d=true)/\Q (.bl (decide (countIn d xs≠0))) H) J8:=by
 intro H x y v u b a;unfold J8;cases e1:toPy x with
 |none=>trivial
 |some p=>
   cases c:toPy y with
   |none=>trivial
   |some q=>
     cases q with
     |list xs=>
       dsimp only;by_cases z:SeqAt.shaped p=true/\SeqAt.shaped (.list xs)=true/\(xs.all λz=>SeqAt.noMix z p)=true
       ·rw[Tq z];exact⟨.bl _,λ_=>by rw[Dn],λQ h=>⟨p,xs,den_of e1 b,den_of c a,z.1,z.2.1,λy a=>UY.mp z.2.2 y a,h⟩⟩
       ·rw[on z];trivial
     |_=>trivial
def SC(d:D)(T:L4):Out Bool:=match d with | .bl b=>.ok b T|_=>.bad
def BL(m:L4->Out D):L4->Out Bool:=λT=>(m T).bind SC
theorem QJ{t:TE}{m:L4->Out D}(h:MJ Y (KR Y .X) E M t m):MJ Y KB E M (λZ H Q=>t Z H λx H1=>∃c,x=.bl c/\Q c H1) (BL m):=by
 intro B U I Z H T Q R P;refine h.bnd R P λx G v B1 U1 d H1 N e e1 f a W=>?_;cases x with
 |bl b=>
   have a:Dn Y H1 (.bl b) v:=a;rw[Dn]at a;exact⟨b,a,W _ B1 U1 d H1 [] e (Ex.refl _ _) NewM.nil rfl⟩
 |_=>exact W.elim
theorem SL{t:TE}{m:L4->Out D}(h:MJ Y (KR Y .X) E M t m):MJ Y KB E M (BU t) (BL m):=QJ h
def S9(f:D->D->Res D)(a b:L4->Out D):L4->Out D:=λT=>(a T).bind λx T=>(b T).bind λy T=>(f x y).up T
theorem SU{r:R2}{f:D->D->Res D}{i tb:TE}{l j:L4->Out D}(h:S2 Y r f)(t:MJ Y (KR Y .F) E M i l)(s:MJ Y (KR Y .X) E M tb j):MJ Y (KR Y .F) E M (Ao r i tb) (S9 f l j):=by
 intro B U I Z H T Q R P;refine t.bnd R P λx o v B1 U1 N H1 L J e1 S C W=>s.bnd J W λy n u K G g m V R2 z O A a=>?_;have q:=h m x y v u (Dn.mono (z.b.trans R2.bh) C) A;cases e:f x y with
 |ok d=>
   rw[e]at q a;obtain⟨w,p,k⟩:=q;exact k Q (a w K G g m [] R2 (Ex.refl _ _) NewM.nil (p _))
 |exc c=>rw[e]at q;exact q.elim
 |bad=>rw[e]at a;exact a.elim
def Jx(i:Nat):L4->Out D:=λT=>match rg T i with|some d=>.ok d (T.set i none)|none=>.bad
theorem Rel.take(R:Rel Y M B U I Z H T)(i:Nat):Rel Y M B U (λj=>if j=i then [] else I j) Z H (T.set i none)/\∀a∈I i,U a=none/\∀j,a∉(λj=>if j=i then [] else I j) j:=by
 refine⟨⟨R.bu,R.uh,λj=>?_,λj k a f b d=>?_,λj a b=>?_,λj=>?_,by rw[T5];exact R.len,R.tb⟩,λa b=>⟨R.un i a b,λj c=>?_⟩⟩
 · show(if j=i then [] else I j).Nodup;split
   ·exact Uu
   ·exact R.nd j
 · replace b:a∈(if j=i then [] else I j):=b;replace d:a∈(if k=i then [] else I k):=d;split at b
   ·cases b
   · split at d
     ·cases d
     ·exact R.dj j k a f b d
 · replace b:a∈(if j=i then [] else I j):=b;split at b
   ·cases b
   ·exact R.un j a b
 · show Lo Y B U H (M.getD j .F) (rg (T.set i none) j) (rg Z j) (if j=i then [] else I j);rw[dJ];by_cases e:i=j
   · subst e;rw[Tq rfl];by_cases h:i<T.length
     ·rw[Tq ⟨rfl,h⟩];exact rfl
     · rw[on λz=>h z.2]
       have:rg T i=none:=by unfold rg;rw[List.getElem?_eq_none (by omega)];rfl
       rw[this];exact rfl
   ·rw[on λz=>e z.1,on λz=>e z.symm];exact R.lo j
 · replace c:a∈(if j=i then [] else I j):=c;split at c
   ·cases c
   ·rename_i z;exact R.dj i j a (λq=>z q.symm) b c
theorem Hz{i:Nat}{s:Sh}(g:M.getD i .F= .O s):MJ Y (KO Y s) E M (cR i) (Jx i):=by
 intro B U I Z H T Q R P;unfold Jx at P;have l:=R.lo i;cases e:rg T i with
 |none=>rw[e]at P;exact P.elim
 |some d=>
   rw[e]at P;rw[e,g]at l;obtain⟨v,f,w⟩:=l;obtain⟨R2,c⟩:=R.take i;exact⟨v,b9 f,P v B U _ H (I i) R2 (Ex.refl _ _) ⟨R.nd i,λa b=>(c a b).1,λa b=>(c a b).2⟩ w⟩
def bv:D->Bool | .int _=>true | .bl _=>true | .non=>true | .str _=>true|_=>false
def nQ:D->Bool
 |.lst xs=>xs.all bv
 |.scr xs=>xs.all bv
 |.tup xs=>xs.all bv
 |.dK _ xs=>xs.all bv
 |.dT _ xs=>xs.all bv
 |.obj _ _ xs=>xs.all bv
 |d=>bv d
def v7(m:L4->Res D):L4->Res D:=λT=>(m T).bind λd=>if nQ d=true then .ok d else .bad
theorem f7{G a:Hp}{d:D}{v:V}(h:bv d=true)(q:Dn Y G d v):Dn Y a d v:=by
 cases d with
 |int _=>rw[Dn]at q ⊢;exact q
 |bl _=>rw[Dn]at q ⊢;exact q
 |non=>rw[Dn]at q ⊢;exact q
 |str _=>rw[Dn]at q ⊢;exact q
 |_=>cases h
theorem eE{G c:Hp}:∀{ds:List D} {xs:List V},ds.all bv=true->Dns Y G ds xs->Dns Y c ds xs
 |[],_,_,q=>by rw[Dns]at q ⊢;exact q
 | d::ds,_,h,q=>by
   rw[List.all_cons,VD]at h;rw[Dns]at q ⊢;obtain⟨x,r,e,b,a⟩:=q;exact⟨x,r,e,f7 h.1 b,eE h.2 a⟩
theorem cS{k k':Kd}{t:TE}{m:L4->Res D}(h:PJ Y (KC Y k) E M t m):PJ Y (KC Y k') E M t (v7 m):=by
 intro B U I Z H T Q R P;refine h.bnd R P λx v B1 U1 H1 L _ i e1 j e W=>?_;by_cases z:nQ x=true
 · rw[Tq z]at W;refine W v B1 U1 H1 [] i (Gw.refl _ _ _) New.nil ?_;cases x with
   |lst ds=>obtain⟨a,xs,r,d,b⟩:=e;exact⟨a,xs,r,d,eE z b⟩
   |scr ds=>obtain⟨a,xs,r,d,b⟩:=e;exact⟨a,xs,r,d,eE z b⟩
   |tup ds=>obtain⟨a,xs,r,d,b⟩:=e;exact⟨a,xs,r,d,eE z b⟩
   |dK g ds=>obtain⟨a,xs,r,d,b,f⟩:=e;exact⟨a,xs,r,d,b,eE z f⟩
   |dT g ds=>obtain⟨a,xs,r,d,b,f⟩:=e;exact⟨a,xs,r,d,b,eE z f⟩
   |obj c ns ds=>obtain⟨a,dx,xs,r,d,b,f⟩:=e;exact⟨a,dx,xs,r,d,b,eE z f⟩
   |int _=>exact f7 (G:=hp k B1 U1 H1) z e
   |bl _=>exact f7 (G:=hp k B1 U1 H1) z e
   |non=>exact f7 (G:=hp k B1 U1 H1) z e
   |str _=>exact f7 (G:=hp k B1 U1 H1) z e
   |ty _=>cases z
 ·rw[on z]at W;exact W.elim
theorem rS{k:Kd}{t:TE}{m:L4->Res D}(h:PJ Y (KR Y .X) E M t m):PJ Y (KR Y .F) E M t (λT=>(m T).bind λd=>if bv d=true then .ok d else .bad):=by
 intro B U I Z H T Q R P;refine h.bnd R P λx v B1 U1 H1 L _ b e1 c a W=>?_;by_cases z:bv x=true
 ·rw[Tq z]at W;exact W v B1 U1 H1 [] b (Gw.refl _ _ _) New.nil (f7 z a)
 ·rw[on z]at W;exact W.elim
def kD:aQ->D | .inl i=>.int i | .inr x=>.str x
theorem xK{G:Hp}:∀k:List aQ,Dns Y G (k.map kD) (k.map kV)
 |[]=>by rw[Uz,Uz,Dns]
 | x::k=>by
   rw[Tr,Tr,Dns];refine⟨_,_,rfl,?_,xK k⟩;cases x with
   |inl i=>show Dn Y G (.int i) (.int i);rw[Dn]
   |inr i=>show Dn Y G (.str i) (.str i);rw[Dn]
theorem Dns.of_get{G:Hp}:∀{ds:List D} {xs:List V},ds.length=xs.length->(∀(i:Nat) d x,ds[i]?=some d->xs[i]?=some x->Dn Y G d x)->Dns Y G ds xs
 | [],xs,h,_=>by
   rw[Dns];exact Uh.mp h.symm
 |d::ds,[],h,_=>by cases h
 | d::ds,x::xs,h,k=>by
   rw[Dns];exact⟨x,xs,rfl,k 0 d x rfl rfl,Dns.of_get (by simpa using h) λi d x e1 a=>k (i+1) d x (by simpa using e1) (by simpa using a)⟩
def cu:List D->Option (List Int)
 |[]=>some []
 |.int i::r=>(cu r).map (i::·)
 |_::_=>none
theorem gX{G:Hp}:∀{ds:List D} {ns:List Int} {xs:List V},cu ds=some ns->Dns Y G ds xs->xs=ns.map V.int
 |[],ns,xs,e,h=>by rw[Dns]at h;cases e;rw[h];rfl
 | d::ds,ns,xs,e,h=>by
   rw[Dns]at h;obtain⟨x,r,rfl,a,b⟩:=h;cases d with
   |int i=>
     rw[cu]at e;obtain⟨M,e1,rfl⟩:=TQ.mp e;rw[Dn]at a;rw[gX e1 b,a,Tr]
   |_=>cases e
def cX:List Int->Int->Int
 |[],m=>m
 |x::r,m=>cX r (if x<m then x else m)
def f9:List Int->Int->Int
 |[],m=>m
 |x::r,m=>f9 r (if m<x then x else m)
theorem iU:∀(l:List Int) (m:Int),(cX l m=m\/cX l m∈l)/\cX l m<=m/\∀x∈l,cX l m<=x
 |[],m=>⟨.inl rfl,Int.le_refl _,λ_ h=>(nomatch h)⟩
 | x::r,m=>by
   unfold cX;obtain⟨a,b,d⟩:=iU r (if x<m then x else m);refine⟨?_,?_,λy c=>?_⟩
   · rcases a with a|a
     · by_cases z:x<m
       ·rw[Tq z]at a ⊢;exact .inr (by rw[a];exact Tu)
       ·rw[on z]at a ⊢;exact .inl a
     ·exact .inr (Tt _ a)
   ·split at b<;>split<;>omega
   · rcases Tz.mp c with z|z
     ·subst z;split at b<;>split<;>omega
     ·exact d y z
theorem jG:∀(l:List Int) (m:Int),(f9 l m=m\/f9 l m∈l)/\m<=f9 l m/\∀x∈l,x<=f9 l m
 |[],m=>⟨.inl rfl,Int.le_refl _,λ_ h=>(nomatch h)⟩
 | x::r,m=>by
   unfold f9;obtain⟨a,b,d⟩:=jG r (if m<x then x else m);refine⟨?_,?_,λy c=>?_⟩
   · rcases a with a|a
     · by_cases z:m<x
       ·rw[Tq z]at a ⊢;exact .inr (by rw[a];exact Tu)
       ·rw[on z]at a ⊢;exact .inl a
     ·exact .inr (Tt _ a)
   ·split at b<;>split<;>omega
   · rcases Tz.mp c with z|z
     ·subst z;split at b<;>split<;>omega
     ·exact d y z
def pf(f:List Int->Int->Int)(x d:D):Res D:=match x with
 |.lst ds=>(match cu ds with|some []=>(if bv d=true then .ok d else .bad)|some (n::ns)=>.ok (.int (f ns n))|none=>.bad)
 |_=>.bad
theorem Ji{f:List Int->Int->Int}{ok:Int->Int->Prop}(sp:∀ns n m,m∈n::ns->(∀x∈n::ns,ok m x)->m=f ns n){q o:TE}{s r:L4->Res D}(C:PJ Y (KR Y .X) E M q s)(hd:PJ Y (KR Y .X) E M o r):
 PJ Y (KR Y .F) E M (B8 (λxs A H Q=>∃p ns d,xs=[.ref p]/\A=[d]/\SqL K H p (ns.map V.int)/\(ns=[]->Q d H)/\∀m∈ns,(∀x∈ns,ok m x)->Q (.int m) H) (bz q cT) (bz o cT)) (bn (pf f) s r):=by
 intro B U I Z H T Q R P;refine C.bnd R P λx v B1 U1 H1 L _ N e1 S e W=>hd.bnd N W λy u j g i N2 _ R2 w O J b=>?_;have e:Dn Y H1 x v:=e;cases x with
 |lst ds=>
   rw[Dn]at e;obtain⟨a,xs,rfl,t,G⟩:=e;replace b:Po Y (KR Y .F) E M j g I Z i T (match cu ds with|some []=>(if bv y=true then .ok y else .bad)|some (n::ns)=>.ok (.int (f ns n))|none=>.bad) Q:=b;cases c:cu ds with
   |none=>rw[c]at b;exact b.elim
   |some ns=>
     have ex:=gX c G;subst ex;cases ns with
     |nil=>
       rw[c]at b;replace b:Po Y (KR Y .F) E M j g I Z i T (if bv y=true then .ok y else .bad) Q:=b;by_cases z:bv y=true
       ·rw[Tq z]at b;exact⟨a,[],u,rfl,rfl,SqL.of (w.h _ _ t),λ_=>b u j g i [] R2 (Gw.refl _ _ _) New.nil (f7 z J),λm k=>(nomatch k)⟩
       ·rw[on z]at b;exact b.elim
     |cons n ns=>
       rw[c]at b;refine⟨a,n::ns,u,rfl,rfl,SqL.of (w.h _ _ t),(λz=>by cases z),λm k l=>?_⟩;rw[sp ns n m k l];exact b _ j g i [] R2 (Gw.refl _ _ _) New.nil (show Dn Y _ (.int (f ns n)) _ by rw[Dn])
 |_=>exact b.elim
theorem LQ{c b:TE}{f e:L4->Res D}(k:PJ Y (KR Y .X) E M c f)(hd:PJ Y (KR Y .X) E M b e):
 PJ Y (KR Y .F) E M (B8 (λxs g H Q=>∃p ns d,xs=[.ref p]/\g=[d]/\SqL K H p (ns.map V.int)/\(ns=[]->Q d H)/\∀m∈ns,(∀x∈ns,m<=x)->Q (.int m) H) (bz c cT) (bz b cT)) (bn (pf cX) f e):=Ji (ok:=λm x=>m<=x) (λns n m j a=>by
 obtain⟨i,s2,h⟩:=iU ns n;have l2:=a _ (i.elim (λz=>by rw[z];exact Tu) (Tt _));rcases Tz.mp j with z|z
 ·rw[z]at l2 ⊢;omega
 ·have:=h m z;omega) k hd
theorem LR{c b:TE}{f e:L4->Res D}(k:PJ Y (KR Y .X) E M c f)(hd:PJ Y (KR Y .X) E M b e):
 PJ Y (KR Y .F) E M (B8 (λxs g H Q=>∃p ns d,xs=[.ref p]/\g=[d]/\SqL K H p (ns.map V.int)/\(ns=[]->Q d H)/\∀m∈ns,(∀x∈ns,x<=m)->Q (.int m) H) (bz c cT) (bz b cT)) (bn (pf f9) f e):=Ji (ok:=λm x=>x<=m) (λns n m j a=>by
 obtain⟨i,s2,h⟩:=jG ns n;have l2:=a _ (i.elim (λz=>by rw[z];exact Tu) (Tt _));rcases Tz.mp j with z|z
 ·rw[z]at l2 ⊢;omega
 ·have:=h m z;omega) k hd
def oT:D->Res D
 |.lst ds=>(match cu ds with|some ns=>(if ns.length<4000 then .ok (.int (dd ns).length) else .bad)|none=>.bad)
 |_=>.bad
theorem Dw{d:TE}{e:L4->Res D}(h:PJ Y (KR Y .X) E M d e):PJ Y (KR Y .F) E M
 (GA (λxs H Q=>∃a S n,xs=[.ref a]/\H a=some (.set S n)/\Q (.int n) H) (bz (GA (λxs H Q=>∃p ns,xs=[.ref p]/\SqL K H p (ns.map V.int)/\ns.length<4000/\∀q,H q=none->Q (.ref q) (upd H q (.set (λk=>(dd ns).any (·==k)) (dd ns).length))) (bz d cT)) cT)) (un oT e):=by
 intro B U I Z H T Q R P;refine h.bnd R P λx v B1 U1 H1 L _ g e1 l b W=>?_;have b:Dn Y H1 x v:=b;cases x with
 |lst ds=>
   rw[Dn]at b;obtain⟨a,xs,rfl,j,i⟩:=b;replace W:Po Y (KR Y .F) E M B1 U1 I Z H1 T (match cu ds with|some ns=>(if ns.length<4000 then .ok (.int (dd ns).length) else .bad)|none=>.bad) Q:=W;cases c:cu ds with
   |none=>rw[c]at W;exact W.elim
   |some ns=>
     have ex:=gX c i;subst ex;rw[c]at W;replace W:Po Y (KR Y .F) E M B1 U1 I Z H1 T (if ns.length<4000 then .ok (.int (dd ns).length) else .bad) Q:=W;by_cases z:ns.length<4000
     ·rw[Tq z]at W;exact⟨a,ns,rfl,SqL.of j,z,λq f=>⟨q,_,_,rfl,aM,W _ B1 U1 _ [] (g.new f) (Gw.newO g f) New.nil (show Dn Y _ (.int _) _ by rw[Dn])⟩⟩
     ·rw[on z]at W;exact W.elim
 |_=>exact W.elim
def va:D->Option (Int×Int×List Int)
 |.tup [.int a,.int b,.lst xs]=>(cu xs).map λns=>(a,b,ns)
 |_=>none
theorem AY{x:D}{a b:Int}{ns:List Int}(h:va x=some (a,b,ns)):∃xs,x=.tup [.int a,.int b,.lst xs]/\cu xs=some ns:=by
 unfold va at h;split at h
 ·obtain⟨M,e,c⟩:=TQ.mp h;cases c;exact⟨_,rfl,e⟩
 ·cases h
theorem fP{x:D}{v:V}{a b:Int}{ns:List Int}(e:va x=some (a,b,ns))(c:Dn Y H x v):∃p l,v=.ref p/\SqT K H p [.int a,.int b,.ref l]/\SqL K H l (ns.map V.int):=by
 obtain⟨xs,rfl,q⟩:=AY e;rw[Dn]at c;obtain⟨p,s,rfl,o,i⟩:=c;rw[Dns]at i;obtain⟨w,A,rfl,m,h⟩:=i;rw[Dns]at h;obtain⟨u,z,rfl,k,g⟩:=h;rw[Dns]at g;obtain⟨t,y,rfl,j,f⟩:=g;rw[Dns]at f;rw[Dn]at m;rw[Dn]at k;rw[Dn]at j;obtain⟨l,r,rfl,d,n⟩:=j;subst m k f;rw[gX q n]at d;exact⟨p,l,rfl,SqT.of o,SqL.of d⟩
def Qa(x y:D):Res D:=match toPy x,toPy y with
 |some p,some (.list xs)=>if SeqAt.shaped p=true/\SeqAt.shaped (.list xs)=true/\(xs.all λz=>SeqAt.noMix z p)=true then .ok (.bl (!decide (countIn p xs≠0))) else .bad
 |_,_=>.bad
theorem A6{A:Around}{k:Nat}(a:Room k A):A.units+65<cLine:=by have:=a.un;omega
end
end Mi
namespace Mi
open PySem L2
def jy:List Ap->List Md->Bool
 |[],[]=>true
 |p::ps,m::r=>sW [] true p m&&jy ps r
 |_,_=>false
theorem fw:∀{ps:List Ap} {mc:List Md},jy ps mc=true->ps.length=mc.length
 |[],[],_=>rfl
 |[],_::_,h=>by cases h
 |_::_,[],h=>by cases h
 | p::ps,m::r,h=>by
   have h:(sW [] true p m&&jy ps r)=true:=h;rw[VD]at h;rw[TD,TD,fw h.2]
theorem fy{M:List Md}:∀{ps:List Ap} {mc:List Md},jy ps mc=true->∀(j:Nat) p,ps[j]?=some p->sW M true p (mc.getD j .F)=true
 |[],_,_,_,_,e=>by cases e
 |_::_,[],h,_,_,_=>by cases h
 | p::ps,m::r,h,j,q,e=>by
   have h:(sW [] true p m&&jy ps r)=true:=h;rw[VD]at h;cases j with
   |zero=>
     cases e
     have:=h.1
     cases p <;> cases m <;> first | exact this | cases this
   |succ j=>rw[UU];exact fy h.2 j q (by simpa using e)
def pc(b:List D->Out D)(a:L4->Res (List D)):L4->Res D:=λT=>(a T).bind (fX b)
def pm(c:Nat)(b:Str)(d:List D->Out D)(o:L4->Res D)(a:L4->Res (List D)):L4->Res D:=λT=>(o T).bind λo=>if bI c b o=true then (a T).bind λds=>fX d (o::ds) else .bad
def pk(c:Nat)(b:List D->Out D)(a:L4->Res (List D)):L4->Res D:=λT=>(a T).bind (fL c b)
def mc(ps:List Ap)(b:List D->Out D)(a:L4->Res (List D)):L4->Out D:=λT=>((a T).up T).bind (ci ps b)
def mm(c:Nat)(b:Str)(ps:List Ap)(d:List D->Out D)(o:L4->Res D)(a:L4->Res (List D)):L4->Out D:=λT=>((o T).up T).bind λo T=>if bI c b o=true then ((a T).up T).bind λds T=>ci ps d (o::ds) T else .bad
section
variable{Y:Cm}{Kr:KT D V}{pr:Nat->Bool}{M:List Md}{K:F0}
theorem c8{B U H:Hp}{N:List Addr}:KR Y .F .non .non B U H N:=show Dn Y B .non .non by rw[Dn]
end
theorem rG{Y:Cm}{G:Hp}:∀ns:List Int,Dns Y G (ns.map D.int) (ns.map V.int)
 |[]=>by rw[Uz,Uz,Dns]
 | n::r=>by
   rw[Tr,Tr,Dns];exact⟨_,_,rfl,by rw[Dn],rG r⟩
theorem Nd{Y:Cm}{b:List D->Out D}(h:∀ns:List Int,ns.length<=63->∃T,b [.scr (ns.map D.int)]=.ok (.bl true) T){vs:List V}{H:Hp}{Q:VK}{a:Addr}{ns:List Int}(c:vs=[.ref a])(f:SqF Y.K H a (ns.map V.int))(j:ns.length<=63)(d:∀p∈Y.tb,∃l,H p.1=some (.tbl l)/\p.2∈l)(g:∀H',Q (.bl true) H'):
 dt Y [.R] (KR Y .F) b vs H Q E0:=by
 subst c;obtain⟨T,e⟩:=h ns j;refine⟨H,H,λ_=>[],[.scr (ns.map D.int)],⟨Same.refl _,Same.refl _,λ_=>Uu,λ_ _ _ _ z=>(nomatch z),λ_ _ z=>(nomatch z),λi=>?_,rfl,d⟩,rfl,?_⟩
 · rw[d9,d9];cases i with
   |zero=>exact⟨.ref a,rfl,by show Dn Y H (.scr _) _;rw[Dn];exact⟨a,_,rfl,f,rG ns⟩,rfl⟩
   |succ i=>exact rfl
 ·rw[e];intro v S J C H' N o n m k;have k:Dn Y S (.bl true) v:=k;rw[Dn]at k;rw[k];exact g H'
theorem KM{K:F0}{H:Hp}{a:Addr}{xs:List V}{T:Tbs}(o:Gc T H)(h:SqL K H a xs):SqF K H a xs:=by
 rcases h with (h|h)|h
 · rcases o.2 a with z|⟨ob,b,z⟩|z
   ·rw[z]at h;cases h
   ·rw[z]at h;cases h
   ·rw[z]at h;cases h
 ·exact .inl h
 ·exact .inr h
theorem OF{H:Hp}{T:Tbs}(o:Gc T H):∀p∈T,∃l,H p.1=some (.tbl l)/\p.2∈l:=λp hp=>⟨_,o.1 p hp,Tbs.mem.mpr hp⟩
def yx(m:L4->Res D):L4->Res D:=λT=>(m T).bind λd=>if bv d=true then .ok d else .bad
def Az(xs:List D)(x:D):Option (D×List D):=match toPy x,toPys xs with
 |some d,some ds=>if SeqAt.shaped d=true/\ds.all SeqAt.shaped=true then (ds.findIdx? λe=>PyData.eqv e d).map λj=>(.non,xs.eraseIdx j) else none
 |_,_=>none
def dU:List (List aQ)->List D->List aQ->List (List aQ)×List D
 |k::a,d::ds,j=>if k=j then dU a ds j else (k::(dU a ds j).1,d::(dU a ds j).2)
 |_,_,_=>([],[])
def zo:D->D->Option (D×D)
 |.dT a vs,.tup k=>(bT k).bind λk=>(bC a vs k).map λx=>(x,.dT (dU a vs k).1 (dU a vs k).2)
 |_,_=>none
def vp(set:L4->D->L4)(d:D)(T:L4):Res D->Out D
 |.ok k=>(match zo d k with|some (x,d')=>.ok x (set T d')|none=>.bad)
 |.exc c=>.exc c T
 |.bad=>.bad
def pE(get:L4->Option D)(set:L4->D->L4)(mk:L4->Res D):L4->Out D:=λT=>match get T with
 |some (.dT a vs)=>vp set (.dT a vs) T (mk T)
 |_=>.bad
section
variable{Y:Cm}{E:XK}{M:List Md}{B U H:Hp}{I:Nat->List Addr}{Z:St}{T:L4}{t:TE}{get:L4->Option D}{set:L4->D->L4}
theorem EI{te:TE}{me:L4->Res D}(p:Pth Y M t get set)(v:PJ Y (KR Y .X) E M te me):MJ Y (KR Y .F) E M (OL Y.K "list" (yR Y.K) t (bz te cT)) (qo get set Az me):=
 J0 (f:=Az) p v λB U H a ds xs x u d C Q bu uh A q g b k=>by
  have g:Dn Y H x u:=g;unfold Az at b;cases e1:toPy x with
  |none=>rw[e1]at b;cases b
  |some c=>
    cases n:toPys ds with
    |none=>rw[e1,n]at b;cases b
    |some ps=>
      rw[e1,n]at b;replace b:(if SeqAt.shaped c=true/\ps.all SeqAt.shaped=true then (ps.findIdx? λe=>PyData.eqv e c).map λj=>(D.non,ds.eraseIdx j) else none)=some (d,C):=b;by_cases z:SeqAt.shaped c=true/\ps.all SeqAt.shaped=true
      · rw[Tq z]at b;obtain⟨j,G,I⟩:=TQ.mp b;cases I;obtain⟨o,hp,h⟩:=List.findIdx?_eq_some_iff_getElem.mp G;refine⟨a,xs,u,c,ps,j,rfl,rfl,A,den_of e1 g,dens_of n (Dns.mono (bu.trans uh) q),z.1,λy r=>UY.mp z.2 y r,o,λm e l J=>?_,k .non _ (by rw[Dn]) (q.erase _)⟩;by_cases w:m=j
        ·subst w;rw[TV o]at l;cases l;rw[hp];simp
        · have:=h m (by omega)
          obtain⟨s,i⟩:=TW.mp l;rw[i]at this;rw[Uo w];simpa using this
      ·rw[on z]at b;cases b
theorem pA{G:Hp}{k:List aQ}:∀{kvs:List (List aQ×V)} {ds:List D},Dns Y G ds (kvs.map (·.2))->(eM kvs k).map (·.1)=(dU (kvs.map (·.1)) ds k).1/\Dns Y G (dU (kvs.map (·.1)) ds k).2 ((eM kvs k).map (·.2))
 | [],ds,h=>by
   cases ds<;>exact⟨rfl,by show Dns Y G [] [];rw[Dns]⟩
 | p::kvs,ds,h=>by
   cases ds with
   |nil=>rw[Dns]at h;cases h
   |cons d ds=>
     rw[List.map_cons,Dns]at h;obtain⟨y,r,e,f,c⟩:=h;cases e;obtain⟨b,a⟩:=pA (k:=k) c;unfold eM at b a ⊢;rw[List.map_cons,List.filter_cons,dU];by_cases q:p.1=k
     ·rw[on (by simp[q]),Tq q];exact⟨b,a⟩
     ·rw[Tq (by simpa using q),on q];refine⟨by rw[Tr,b],?_⟩;rw[Tr,Dns];exact⟨_,_,rfl,f,a⟩
theorem xw{r:TE}{mk:L4->Res D}(p:Pth Y M t get set)(S:PJ Y (KR Y .X) E M r mk):MJ Y (KR Y .F) E M (BY t r) (pE get set mk):=by
 intro B U I Z H T Q R P;unfold pE at P;cases e:get T with
 |none=>rw[e]at P;exact P.elim
 |some d=>
   obtain⟨v,A,O,C,hA,cl⟩:=p.rd R e;cases d with
   |dT i vs=>
     rw[e]at P;replace P:Mo Y (KR Y .F) E M B U Z (vp set (.dT i vs) T (mk T)) Q:=P;obtain⟨a,kvs,rfl,z,h2,rfl,h3⟩:=C.dT rfl;refine O _ ⟨a,rfl,.inr ⟨kvs,.inl z⟩,S B U I Z H T _ R ?_⟩;cases o:mk T with
     |exc c=>rw[o]at P;exact λB1 U1 H1 q g=>P B1 U1 I H1 q g.toEx
     |bad=>rw[o]at P;exact P.elim
     |ok l=>
       rw[o]at P;intro u B1 U1 H1 N q g n1 m;have m:Dn Y H1 l u:=m;replace P:Mo Y (KR Y .F) E M B U Z (match zo (.dT i vs) l with|some (x,d')=>.ok x (set T d')|none=>.bad) Q:=P;cases f:zo (.dT i vs) l with
       |none=>rw[f]at P;exact P.elim
       |some xd=>
         obtain⟨x,d'⟩:=xd;rw[f]at P;cases l with
         |tup J=>
           replace f:((bT J).bind λk=>(bC i vs k).map λx=>(x,D.dT (dU i vs k).1 (dU i vs k).2))=some (x,d'):=f;obtain⟨n,ek,f⟩:=VP.mp f;obtain⟨y,ey,f⟩:=TQ.mp f;cases f;rw[Dn]at m;obtain⟨b,xs,rfl,W,V⟩:=m;have ex:=fN ek V;subst ex;subst h2;have j:Dns Y B1 vs (kvs.map (·.2)):=h3.mono g.b;have s:=gG (Y:=Y) (G:=B1) n j;rw[ey]at s;obtain⟨w,ew,dw⟩:=s;obtain⟨L,K⟩:=pA (Y:=Y) (G:=B1) (k:=n) j;refine⟨kvs,n,b,w,g.h _ _ z,rfl,W,ew,?_⟩;refine P w B1 U1 I _ [] (cl B1 U1 H1 q g.b g.h a Tu _ _ ?_) g.toEx NewM.nil dw;rw[<-L];exact Ow.dT' aM K
         |_=>cases f
   |_=>rw[e]at P;exact P.elim
end
section
variable{Y:Cm}{E:XK}{M:List Md}
theorem zi{b:TE}{a:L4->Res D}(f:PJ Y (KR Y .F) E M b a):PJ Y (KI Y .F .U) E M (q9 Y.K b) (nH a):=by
 intro B U I Z H T Q R P;refine HN f B U I Z H T Q R ?_;cases e:nH a T with
 |ok ds=>
   rw[e]at P;intro J B1 U1 H1 N d g n ⟨vs,h,hd⟩;exact P J B1 U1 H1 N d g n ⟨vs,λi s=>h i (d.bu.trans s),hd⟩
 |exc c=>rw[e]at P;exact P
 |bad=>rw[e]at P;exact P
end
theorem Nn{k:Nat}{A:Around}(r:Room k A):A.units+66<cLine:=by have:=r.un;omega
end Mi
namespace L2
open PySem PySem.Spec PyProof.Rows
section
variable{X:Cx}(K:F0)
theorem cB(h:X.K=K):Se X (GZ K):=by subst h;exact HL
theorem fq(h:X.K=K):Se X (LA K):=by subst h;exact Nk
theorem bK(h:X.K=K):fe X (.builtin "len") (λxs H Q=>∃p a,xs=[.ref p]/\(SqL K H p a\/SqT K H p a)/\Q (.int a.length) H):=by subst h;exact uf
theorem qq(h:X.K=K):fe X (.type "list") (λxs H Q=>∃p a,xs=[.ref p]/\(SqL K H p a\/SqT K H p a)/\∀l,H l=none->Q (.ref l) (upd H l (.lst a))):=by subst h;exact ue
theorem pZ(h:X.K=K):fe X (.type "tuple") (λxs H Q=>∃p a,xs=[.ref p]/\((SqL K H p a/\∀l,H l=none->Q (.ref l) (upd H l (.tup a)))\/(SqT K H p a/\Q (.ref p) H))):=by subst h;exact qp
theorem yb(h:X.K=K)(a:X.calm=true):fe X (.type "set") (λxs H Q=>∃p ns,xs=[.ref p]/\SqL K H p (ns.map V.int)/\ns.length<4000/\∀q,H q=none->Q (.ref q) (upd H q (.set (λk=>(dd ns).any (·==k)) (dd ns).length))):=by subst h;exact Bn a
theorem yd(h:X.K=K)(b:X.calm=true):jg X (.builtin "min") ["default"] (λxs a H Q=>∃p ns d,xs=[.ref p]/\a=[d]/\SqL K H p (ns.map V.int)/\(ns=[]->Q d H)/\∀m∈ns,(∀x∈ns,m<=x)->Q (.int m) H):=by subst h;exact Bs b
theorem ye(h:X.K=K)(b:X.calm=true):jg X (.builtin "max") ["default"] (λxs a H Q=>∃p ns d,xs=[.ref p]/\a=[d]/\SqL K H p (ns.map V.int)/\(ns=[]->Q d H)/\∀m∈ns,(∀x∈ns,x<=m)->Q (.int m) H):=by subst h;exact Bt b
theorem sC(h:X.K=K)(a:X.A.units+64<cLine):mR X (compareOp .Eq) (Dh K false):=by subst h;exact L7 a
theorem yW(h:X.K=K)(a:X.A.units+64<cLine):mR X (compareOp .NotEq) (Dh K true):=by subst h;exact L5 a
theorem yX(h:X.K=K)(a:X.A.units+65<cLine):mR X (compareOp .In) (λx y H Q=>∃d xs,Den K H d x/\Den K H (.list xs) y/\SeqAt.shaped d=true/\SeqAt.shaped (.list xs)=true/\(∀z∈xs,SeqAt.noMix z d=true)/\Q (.bl (decide (countIn d xs≠0))) H):=by subst h;exact L6 a
theorem aw{e:Expr}{a:TE}{f:Str}{pos:Pos}(h:X.K=K)(b:PE X e a)(c:attributeBase e f X.env (eval e X.env)=eval e X.env):PE X (.Attribute e f pos) (qd K a f):=by subst h;exact LL b c
theorem gD{b l:Expr}{a:TE}(h:X.K=K)(c:PE X l a):PI X b l (q9 K a):=by subst h;exact G9 c
end
end L2
namespace Mi
open PySem L2
def spT(K:F0)(T:Tbs):Sp:=λvs H Q _=>∃(a:Addr) (ns:List Int),vs=[.ref a]/\SqF K H a (ns.map V.int)/\ns.length<=63/\(∀p∈T,∃l,H p.1=some (.tbl l)/\p.2∈l)/\∀H',Q (.bl true) H'
def il:List D->Option (List Bool)
 |[]=>some []
 |.bl b::r=>(il r).map (b::·)
 |_::_=>none
def uj:D->Res D
 |.lst ds=>(match il ds with|some bs=>.ok (.bl (bs.any id))|none=>.bad)
 |_=>.bad
def gJ:List D->Option (List (Int×Int×List Int))
 |[]=>some []
 |d::r=>match va d,gJ r with|some k,some a=>some (k::a)|_,_=>none
def uW(x d:D):Res D:=match x with
 |.lst []=>if bv d=true then .ok d else .bad
 | .lst (e::r)=>(match gJ (e::r) with
   |some a=>(match (e::r)[PySem.argBest (λi j=>eI (a.getD i (0,0,[])) (a.getD j (0,0,[]))) r.length]? with|some y=>.ok y|none=>.bad)
   |none=>.bad)
 |_=>.bad
section
variable{Y:Cm}{E:XK}{M:List Md}{K:F0}
theorem mQ{G:Hp}:∀{ds:List D} {bs:List Bool} {xs:List V},il ds=some bs->Dns Y G ds xs->xs=bs.map V.bl
 |[],ns,xs,e,h=>by rw[Dns]at h;cases e;rw[h];rfl
 | d::ds,ns,xs,e,h=>by
   rw[Dns]at h;obtain⟨x,r,rfl,a,b⟩:=h;cases d with
   |bl i=>
     rw[il]at e;obtain⟨M,e1,rfl⟩:=TQ.mp e;rw[Dn]at a;rw[mQ e1 b,a,Tr]
   |_=>cases e
theorem Pc:S1 Y (λv H Q=>∃p,∃bs:List Bool,[v]=[.ref p]/\SqL K H p (bs.map V.bl)/\Q (.bl (bs.any id)) H) uj:=by
 intro H x v c;cases x with
 |lst ds=>
   rw[Dn]at c;obtain⟨a,xs,rfl,f,d⟩:=c;cases e:il ds with
   |none=>
     have b:uj (.lst ds)=.bad:=by simp only[uj,e]
     rw[b];trivial
   |some bs=>
     have b:uj (.lst ds)=.ok (.bl (bs.any id)):=by simp only[uj,e]
     rw[b];have ex:=mQ e d;subst ex;exact⟨.bl _,λ_=>by rw[Dn],λQ q=>⟨a,bs,rfl,SqL.of f,q⟩⟩
 |_=>trivial
theorem qU:∀{ds:List D} {a:List (Int×Int×List Int)},gJ ds=some a->ds.length=a.length
 |[],a,e=>by cases e;rfl
 | d::r,a,e=>by
   unfold gJ at e;cases e1:va d with
   |none=>rw[e1]at e;cases e
   |some k=>
     cases b:gJ r with
     |none=>rw[e1,b]at e;cases e
     |some l=>rw[e1,b]at e;cases e;rw[TD,TD,qU b]
theorem u9:∀{ds:List D} {a:List (Int×Int×List Int)} {i:Nat} {d:D},gJ ds=some a->ds[i]?=some d->va d=some (a.getD i (0,0,[]))
 |[],a,i,d,e,h=>by cases h
 | x::r,a,i,d,e,h=>by
   unfold gJ at e;cases e1:va x with
   |none=>rw[e1]at e;cases e
   |some k=>
     cases b:gJ r with
     |none=>rw[e1,b]at e;cases e
     |some l=>
       rw[e1,b]at e;cases e;cases i with
       |zero=>cases h;exact e1
       |succ i=>rw[UU];exact u9 b (by simpa using h)
theorem LP{N J:TE}{S O:L4->Res D}(ha:PJ Y (KC Y .F) E M N S)(hd:PJ Y (KR Y .X) E M J O):
 PJ Y (KR Y .F) E M (B8 (λxs zs H Q=>∃p vs d,∃f:List (Int×Int×List Int),xs=[.ref p]/\zs=[d]/\SqL K H p vs/\vs.length=f.length/\(∀i v,vs[i]?=some v->Oq K H v (f.getD i (0,0,[])))/\
  (vs=[]->Q d H)/\∀v,vs[PySem.argBest (λi j=>eI (f.getD i (0,0,[])) (f.getD j (0,0,[]))) (vs.length-1)]?=some v->Q v H) (bz N cT) (bz J cT)) (bn uW S O):=by
 intro B U I Z H T Q R P;refine ha.bnd R P λx v B1 U1 H1 L _ R1 e1 n1 o W=>hd.bnd R1 W λy u t q s N2 _ R2 V n2 d2 c=>?_;have o:Cn Y B1 H1 x v:=o;cases x with
 |lst ds=>
   have o:∃a xs,v=.ref a/\H1 a=some (.lst xs)/\Dns Y B1 ds xs:=o;obtain⟨a,xs,rfl,h1,G⟩:=o;have n:=V.h _ _ h1;have m:=G.mono V.b;cases ds with
   |nil=>
     rw[Dns]at G;subst G;replace c:Po Y (KR Y .F) E M t q I Z s T (if bv y=true then .ok y else .bad) Q:=c;by_cases z:bv y=true
     ·rw[Tq z]at c;exact⟨a,[],u,[],rfl,rfl,SqL.of n,rfl,λi v e=>(nomatch e),λ_=>c u t q s [] R2 (Gw.refl _ _ _) New.nil (f7 z d2),λv e=>by cases e⟩
     ·rw[on z]at c;exact c.elim
   |cons e r=>
     replace c:Po Y (KR Y .F) E M t q I Z s T (match gJ (e::r) with
      |some f=>(match (e::r)[PySem.argBest (λi j=>eI (f.getD i (0,0,[])) (f.getD j (0,0,[]))) r.length]? with|some y=>.ok y|none=>.bad)
      |none=>.bad) Q:=c
     cases A:gJ (e::r) with
     |none=>rw[A]at c;exact c.elim
     |some f=>
       rw[A]at c;replace c:Po Y (KR Y .F) E M t q I Z s T (match (e::r)[PySem.argBest (λi j=>eI (f.getD i (0,0,[])) (f.getD j (0,0,[]))) r.length]? with|some y=>.ok y|none=>.bad) Q:=c;have C:=m.len;refine⟨a,xs,u,f,rfl,rfl,SqL.of n,by rw[<-C,qU A],λi v w=>?_,λz=>?_,λv w=>?_⟩
       ·obtain⟨d,k,g⟩:=m.geti w;obtain⟨p,l,rfl,q1,q2⟩:=fP (K:=K) (u9 A k) (Dn.mono R2.bh g);exact⟨p,l,rfl,q1,q2⟩
       ·subst z;cases C
       ·rw[<-C,TD,Nat.add_sub_cancel]at w;obtain⟨d,k,g⟩:=m.geti w;rw[k]at c;exact c v t q s [] R2 (Gw.refl _ _ _) New.nil g
 |_=>exact c.elim
end
section
variable{Y:Cm}{E:XK}{M:List Md}
theorem fF(i:Nat)(a:M.getD i .F= .F:=by rfl):PJ Y (KR Y .F) E M (cR i) (vr i):=xF a
theorem fR(i:Nat)(a:M.getD i .F= .R:=by rfl):PJ Y (KR Y .U) E M (cR i) (vr i):=xR a
theorem fO(i:Nat){sh:Sh}(a:M.getD i .F= .O sh:=by rfl):PJ Y (KR Y .X) E M (cR i) (vr i):=xO a
theorem fC(i:Nat)(a:M.getD i .F= .O (.ct .fz):=by rfl):PJ Y (KC Y .F) E M (cR i) (vr i):=xC a
end
theorem E8{k:Nat}{A:Around}(r:Room k A):A.units+101<cLine:=by have:=r.un;omega
end Mi
namespace L2
open PySem PySem.Spec PyProof.Rows
section
variable{X:Cx}(K:F0)
theorem Bq(h:X.K=K)(a:X.calm=true):fe X (.builtin "any") (λxs H Q=>∃p,∃bs:List Bool,xs=[.ref p]/\SqL K H p (bs.map V.bl)/\Q (.bl (bs.any id)) H):=by subst h;exact Br a
theorem wj(h:X.K=K)(e:X.calm=true)(c:X.A.units+101<cLine):jg X (.builtin "min") ["default"] (λxs b H Q=>∃p vs d,∃a:List (Int×Int×List Int),xs=[.ref p]/\b=[d]/\SqL K H p vs/\vs.length=a.length/\(∀i v,vs[i]?=some v->Oq K H v (a.getD i (0,0,[])))/\
 (vs=[]->Q d H)/\∀v,vs[PySem.argBest (λi j=>eI (a.getD i (0,0,[])) (a.getD j (0,0,[]))) (vs.length-1)]?=some v->Q v H):=by subst h;exact yc e c
end
end L2
namespace Gd
open PySem L2
theorem Oc:bootBuiltins "any" = some (.builtin "any"):=by decide +kernel
end Gd
namespace Mi
open PySem L2
def wL:D->D->Res D
 |.lst xs,.int k=>if (0<=k/\k<=1000000)/\xs.length*k.toNat<=ao then .ok (.lst (List.replicate k.toNat xs).flatten) else .bad
 |_,_=>.bad
section
variable{Y:Cm}{E:XK}{M:List Md}
theorem Dns.rep{B:Hp}{ds:List D}{xs:List V}(h:Dns Y B ds xs):∀k:Nat,Dns Y B (List.replicate k ds).flatten (List.replicate k xs).flatten
 |0=>by rw[List.replicate_zero,List.replicate_zero,List.flatten_nil,List.flatten_nil,Dns]
 |k+1=>by rw[Ul,Ul,UD,UD];exact Dns.append h (Dns.rep h k)
theorem Pk{f tb:TE}{i g:L4->Res D}(o:PJ Y (KC Y .F) E M f i)(n:PJ Y (KR Y .X) E M tb g):PJ Y (KO Y (.ct .fz)) E M (Ao Pi f tb) (bn wL i g):=by
 intro B U I Z H T Q R P;refine o.bnd R P λx v B1 U1 H1 L _ s e1 A d W=>n.bnd s W λy u t r m C _ R2 l w e c=>?_;have d:Cn Y B1 H1 x v:=d;have e:Dn Y m y u:=e;cases x with
 |lst ds=>
   have d:∃a xs,v=.ref a/\H1 a=some (.lst xs)/\Dns Y B1 ds xs:=d;obtain⟨a,xs,rfl,q,j⟩:=d;cases y with
   |int k=>
     rw[Dn]at e;subst e;replace c:Po Y (KO Y (.ct .fz)) E M t r I Z m T (if (0<=k/\k<=1000000)/\ds.length*k.toNat<=ao then .ok (.lst (List.replicate k.toNat ds).flatten) else .bad) Q:=c;by_cases z:(0<=k/\k<=1000000)/\ds.length*k.toNat<=ao
     ·rw[Tq z]at c;refine⟨a,k,xs,rfl,rfl,l.h _ _ q,by omega,by omega,?_,λp hp=>fK R2 c ((j.mono l.b).rep _) hp⟩;rw[<-j.len];exact Uk z.2 (by decide)
     ·rw[on z]at c;exact c.elim
   |_=>exact c.elim
 |_=>exact c.elim
end
end Mi
namespace L2
open PySem
theorem QP{P:List Value->Prop}(h:P []):∀us:List Value,us.length=0->P us:=by
 intro us a;rw[Uh.mp a];exact h
theorem jv{P:List Value->Prop}(h:∀c:Value,P [c]):∀us:List Value,us.length=1->P us:=by
 intro us b;cases us with
 |nil=>cases b
 |cons a us=>exact QP (P:=λus=>P (a::us)) (h a) us (VV b)
theorem fM{P:List Value->Prop}(h:∀d c:Value,P [d,c]):∀us:List Value,us.length=2->P us:=by
 intro us b;cases us with
 |nil=>cases b
 |cons a us=>exact jv (P:=λus=>P (a::us)) (h a) us (VV b)
theorem gd{P:List Value->Prop}(h:∀e d c:Value,P [e,d,c]):∀us:List Value,us.length=3->P us:=by
 intro us b;cases us with
 |nil=>cases b
 |cons a us=>exact fM (P:=λus=>P (a::us)) (h a) us (VV b)
theorem EM{P:List Value->Prop}(h:∀f e d c:Value,P [f,e,d,c]):∀us:List Value,us.length=4->P us:=by
 intro us b;cases us with
 |nil=>cases b
 |cons a us=>exact gd (P:=λus=>P (a::us)) (h a) us (VV b)
theorem QO{P:List Value->Prop}(h:∀g f e d c:Value,P [g,f,e,d,c]):∀us:List Value,us.length=5->P us:=by
 intro us b;cases us with
 |nil=>cases b
 |cons a us=>exact EM (P:=λus=>P (a::us)) (h a) us (VV b)
theorem QN{P:List Value->Prop}(h:∀i g f e d c:Value,P [i,g,f,e,d,c]):∀us:List Value,us.length=6->P us:=by
 intro us b;cases us with
 |nil=>cases b
 |cons a us=>exact QO (P:=λus=>P (a::us)) (h a) us (VV b)
end L2
namespace L2
open PySem PySem.Spec PyProof.Rows
section
variable{P:Program}{w:World}{H H':Hp}{h h':Heap}{a:Addr}{o:HO}
theorem ObjOk.ex(x:ObjOk P w H h a o):∃u,h.get? a=some u:=by
 cases o with
 |lst xs=>obtain⟨_,_,_,_,e⟩:=x;exact⟨_,e⟩
 |tup xs=>obtain⟨_,_,_,_,e,_⟩:=x;exact⟨_,e⟩
 |dK kvs=>obtain⟨_,_,_,_,o,_,_,e,_⟩:=x;exact⟨_,e⟩
 |dT kvs=>obtain⟨_,_,_,_,o,_,_,e,_⟩:=x;exact⟨_,e⟩
 |set S n=>obtain⟨o,_,_,_,e,_⟩:=x;exact⟨_,e⟩
 |ins C dx fs=>obtain⟨_,_,_,e,_⟩:=x;exact⟨_,e⟩
 |own y=>obtain⟨_,e⟩:=x;exact⟨_,e⟩
 |xd fs=>obtain⟨_,⟨_,_,_,e,_⟩,_⟩:=x;exact⟨_,e⟩
 |rng lo hi=>obtain⟨_,_,_,e⟩:=x;exact⟨_,e⟩
 |frz ob u=>obtain⟨e,_⟩:=x;exact⟨_,e⟩
 |tbl l=>obtain⟨_,_,e,_⟩:=x;exact⟨_,e⟩
 |met f y=>exact⟨_,show h.get? a=some _ from x⟩
 |ext b=>obtain⟨_,⟨_,e⟩,_⟩:=x;exact⟨_,e⟩
theorem HOk.none(x:HOk P w H h)(e:h.get? a=Option.none):H a=Option.none:=by
 cases q:H a with
 |none=>rfl
 |some u=>obtain⟨v,r⟩:=(x a u q).ex;rw[e]at r;cases r
theorem HOk.hide(x:HOk P w H h){l:List Addr}(d:∀b∈l,H b=Option.none):HOk P w H (PySem.W.hideAll h l):=λa o e=>
 (x a o e).stay (λb u c q=>Vm l q λz=>by
   have n:=d b z;rcases c with rfl|c
   ·rw[n]at e;cases e
   ·rw[n]at c;cases c) (λ_ q=>q) λ_ _ q=>q
end
def dR(P:Program)(w:World):ym:=λouter H s E e s'=>∃(a C:Addr) (d:Value) (B:Heap) (H':Hp),e=.ref a/\s'.os=s.os/\AllBare s'.gens/\Un (jp outer) (jp outer) H H' s.heap B/\HOk P w H' B/\
 Heap.FlyingW B outer a (.ref C) d s'.heap/\(∀b∈jp outer,∀o,s.heap.get? b=some o->∃c,s'.heap.get? b=some {o with slots:=c})/\(∀b∈jp outer,H' b=none)/\E (.ref C) none H'
theorem Un.cut{fs:List Addr}{l:Addr}{i H H':Hp}{h0 h B:Heap}(a:Un fs [] i H h0 h)(b:Un (l::fs) (l::fs) H H' h B)(n:h0.get? l=none):Un fs fs i H' h0 B:=by
 have ne:∀c o,h0.get? c=some o->c∉fs->c∉l::fs:=λc o q e z=>by
  rcases Tz.mp z with rfl|z
  ·rw[n]at q;cases q
  ·exact e z
 refine⟨λc o q f e _=>b.keep c o (a.keep c o q f e (by simp)) (a.free c o q f (by simp)) (ne c o q e) (ne c o q e),λc o q f e g=>absurd e g,λc o q f g=>?_,λc o q g=>?_,λc xs q=>b.tups c xs (a.tups c xs q),λc o u q=>b.frzs c o u (a.frzs c o u q),
  λc xs q=>⟨(b.tbls c xs (a.tbls c xs q).1).1,λd o e1 m=>let ⟨k,j⟩:=(a.tbls c xs q).2 d o e1 m;(b.tbls c xs (a.tbls c xs q).1).2 d o k j⟩⟩
 ·obtain⟨o',e1⟩:=a.there c o q (by simp);exact b.free c o' e1 (a.free c o q f (by simp)) (ne c o q g)
 ·obtain⟨o',e1⟩:=a.there c o q (by simp);exact b.there c o' e1 (ne c o q g)
theorem Un.hide{fs:List Addr}{P:Program}{w:World}{H:Hp}{h:Heap}(hok:HOk P w H h)(n:∀b∈fs,H b=none):Un fs fs H H h (PySem.W.hideAll h fs):=
 ⟨λc o q f e _=>Vm fs q e,λc o q f e a=>absurd e a,λc o q f a=>f,λc o q a=>⟨o,Vm fs q a⟩,λ_ _ q=>q,λ_ _ _ q=>q,
  λc xs q=>⟨q,λd o e1 g=>⟨e1,Vm fs g λz=>by rw[n d z]at e1;cases e1⟩⟩⟩
theorem Un.fly{fs:List Addr}{H H':Hp}{h B h':Heap}(u:Un fs fs H H' h B)(st:B.StaysIn h')(a:∀b∈fs,∀o,h.get? b=some o->∃a,h'.get? b=some {o with slots:=a})(fr:∀b∈fs,H' b=none):Un fs [] H H' h h':=
 ⟨λc o q f g _=>st _ _ (u.keep c o q f g g),λc o q f g _=>a c g o q,λc o q f _=>by
  by_cases z:c∈fs
  ·exact fr c z
  ·exact u.free c o q f z,λc o q _=>by
  by_cases z:c∈fs
  ·obtain⟨x,e⟩:=a c z o q;exact⟨_,e⟩
  ·obtain⟨o',e⟩:=u.there c o q z;exact⟨_,st _ _ e⟩,u.tups,u.frzs,λc xs q=>⟨(u.tbls c xs q).1,λd o e1 k=>let ⟨j,i⟩:=(u.tbls c xs q).2 d o e1 k;⟨j,st _ _ i⟩⟩⟩
structure Own (X:Cx) (E:XK):Prop where
 xe:X.xe=λe s'=>wpAny (model X.prog X.w) X.A («leaving» X.env e) (λ_ s''=>dR X.prog X.w X.outer X.H₀ X.s₀ E e s'') (λe' s''=>dR X.prog X.w X.outer X.H₀ X.s₀ E e' s'')  s'
 ex:X.ex=[]
 stk:X.stack=X.env::X.outer
 fr:X.env.frame=some X.env.locals
theorem eV{P:Program}{w:World}{K:F0}{mg:Str->Option Value}{base:Heap}{N:List Str}{qual:Str}{scope:Scope}{f:Addr}{a:Value}{A:Around}{outer:List Env}{s:Shared}{H:Hp}{E:XK}:
 Own (pF (dR P w) P w K mg base N qual scope f a A outer s H E) E:=⟨rfl,rfl,rfl,rfl⟩
theorem o7{env:Env}{l:List Env}{L:Addr}(h:env.frame=some L):jp (env::l)=L::jp l:=by
 unfold jp;rw[List.filterMap_cons,h]
theorem nL{h h':Heap}{base:Heap}{l:List Env}{b:Addr}{o:Obj}(u:h.UpToSlots h')(g:h.FunFrames base l)(f:b∈jp l)(e:h.get? b=some o):∃c,h'.get? b=some {o with slots:=c}:=by
 obtain⟨_,o',a,d⟩:=g.mem f;rw[e]at a;cases a;exact u b o e d
section
variable{X:Cx}{E:XK}{pins:L0}{Z:St}{H:Hp}{s:Shared}
theorem Inv.above(I:Inv X pins Z H s):X.s₀.heap.get? X.env.locals=none:=Heap.get?_none_of_le I.ok.above
theorem Own.passes(O:Own X E):im (dR X.prog X.w) X E:=by
 intro pins Z H s e s' I h;obtain⟨j,C,m,B,H',rfl,os,bare,un,hok,c,d,fr,q⟩:=h;rw[O.xe];rw[O.stk]at un c d fr;rw[o7 O.fr]at un d fr;have p:=c.2.2.1;refine wpAny_leaves_onW (by rw[<-O.stk];exact I.ok.frames) O.fr c λh' f up=>?_;have g:Un (jp X.outer) [] X.H₀ H X.s₀.heap s.heap:=by have:=I.base;rw[O.ex]at this;exact this
 refine⟨j,C,m,B,H',rfl,os.trans I.os,bare,g.cut un I.above,hok,f,λb a o e=>?_,λb a=>fr b (Tt _ a),q⟩;obtain⟨n,e1⟩:=g.slot b o e (I.ok.frf b a) a (by simp);obtain⟨l2,l⟩:=d b (Tt _ a) _ e1;obtain⟨i,k⟩:=nL up c.2.2.1.2.2 a l;exact⟨i,k⟩
theorem Own.raised(O:Own X E){h':Heap}{d C:Addr}{vs:List Value}(I:Inv X pins Z H s)(m:Heap.MadeExcOf s.heap h' d (.ref C) vs)(q:E (.ref C) none H):X.xe (.ref d) {s with heap:=h'}:=by
 rw[O.xe];have f:Un (jp X.outer) [] X.H₀ H X.s₀.heap s.heap:=by have:=I.base;rw[O.ex]at this;exact this
 have fs:=I.stack;rw[O.stk]at fs;have c:∀b∈jp (X.env::X.outer),H b=none:=by have:=I.stkFree;rw[O.stk]at this;exact this
 have k:s.heap.FunFrames (PySem.W.hideAll s.heap (jp (X.env::X.outer))) (X.env::X.outer):=PySem.W.funFrames_hide fs λenv i b a=>V9.mpr ⟨env,i,a⟩;refine wpAny_leaves_madeW (h:=s.heap) (base:=PySem.W.hideAll s.heap (jp (X.env::X.outer))) (by rw[<-O.stk];exact I.ok.frames) O.fr (λb o e=>PySem.W.of_hideAll _ e) k m λw t j r u up=>?_
 have un:Un (X.env.locals::jp X.outer) (X.env.locals::jp X.outer) H H s.heap (PySem.W.hideAll s.heap (jp (X.env::X.outer))):=by
  have:=Un.hide I.hok c
  rw[o7 O.fr]at this ⊢;exact this
 refine⟨d,C,.ref t,_,H,rfl,I.os,I.bare,f.cut un I.above,I.hok.hide c,j,λb a o e=>?_,λb a=>c b (by rw[o7 O.fr];exact Tt _ a),q⟩;obtain⟨v,e1⟩:=f.slot b o e (I.ok.frf b a) a (by simp);have p:=m.keeps _ _ e1;have l:h'.FunFrames X.base X.outer:=I.funs.of_keeps λb o e _=>⟨o,m.keeps _ _ e,rfl⟩;obtain⟨g,n⟩:=nL up l a p;exact⟨g,n⟩
theorem Own.own(O:Own X E):PassesOwn (model X.prog X.w) X.A X.env X.xe:=by
 rw[O.xe];exact PassesOwn.leaving
end
def gr(K:F0)(C:Addr):List Value:=match K.lookup C with
 |some ⟨_,_,.cls a,_⟩=>a.mro
 |_=>[]
abbrev vBm:List Value:=[.type "ValueError",.type "Exception",.type "BaseException",.type "object"]
def iZ(K:F0)(C:Addr):Bool:=PySem.W.excIn K C vBm "ValueError.__new__"
theorem sY{K:F0}{h:Heap}{C:Addr}(X:K.In h)(q:iZ K C=true):∃(bm:List Value) (N:Addr) (nm c:Str) (bs:List Value) (hdct:Bool) (sn:List Str) (sub:List Value) (ab:Bool) (col:Option Bool) (dd:Option Addr) (k0 k1 k2 k3 k5:Option Value) (mN:Str->Option Value),
 h.get? C=some (excClassObj nm c C N bs bm hdct sn sub ab col dd k0 k1 k2 k3 k5 "ValueError.__new__")/\h.Ns N mN/\mN "__init__" = none/\OwnTail h vBm bm/\gr K C=.ref C::bm:=by
 unfold iZ PySem.W.excIn at q;split at q
 · rename_i dd p g j;split at q
   · rename_i k bm k0 k1 k2 k3 n k5 f i;simp only[Bool.and_eq_true,beq_iff_eq,Bool.not_eq_true']at q;obtain⟨⟨⟨⟨⟨rfl,rfl⟩,a⟩,o⟩,hok⟩,b⟩:=q;have e:gr K k=.ref k::bm:=by unfold gr;rw[j];exact f
     obtain⟨nm,bs,m,ns,c,hd,sn,sub,ab,col,del⟩:=p;dsimp only at f a hok b;subst f a
     have d:g=#[k0,k1,k2,k3,some (.builtin "ValueError.__new__"),k5]:=by
      obtain⟨l⟩:=g;simp only at i;rw[i]
     subst d;exact⟨bm,ns,nm,c,bs,hd,sn,sub,ab,col,dd,k0,k1,k2,k3,k5,_,X _ _ j,.of_isNs (PySem.W.isNs_of_in X hok),PySem.W.nsMap_none_of_in X hok b,PySem.W.tail_of_in X o,e⟩
   ·cases q
 ·cases q
section
variable{X:Cx}{E:XK}{x:Str}{C:Addr}{np cpos pos:Pos}{e₀:Expr}{t:TA}
def BV(E:XK)(C:Addr)(t:TA):TS:=λ_ Z H=>t Z H λvs H'=>vs.length<=1000/\E (.ref C) none H'
theorem c9(O:Own X E)(r:X.calm=true)(p:Gl X x)(l:X.mg x=some (.ref C))(o:iZ X.K C=true)(u:PA X [e₀] t)(hd:(x==("__debug__" : Str))=false:=by decide)
 (f:starEach [e₀] X.env=(false,eval e₀ X.env)::starEach [] X.env:=by rfl) (c:(backTo cpos (starEach [] X.env)).any (·.1)=false:=by rfl):
 PS X (.Raise (some (.Call (.Name x np) [e₀] [] cpos)) none pos) (BV E C t):=by
 intro a s Z H D I h;obtain⟨bm,N,nm,j,bs,hdct,sn,sub,ab,col,dd,k0,k1,k2,k3,k5,mN,w,v,d,T,_⟩:=sY I.ok.mod.kin o
 refine wpAny_Raise_call_subT (C:=C) (nm:=nm) (q:=j) (N:=N) (bs:=bs) (bm:=bm) (hdct:=hdct) (sn:=sn) (sub:=sub) (ab:=ab) (col:=col) (dd:=dd) (k0:=k0) (k1:=k1) (k2:=k2) (k3:=k3) (k5:=k5)
  PySem.F.excBase_ValueError (mN:=mN) (T.hasType PySem.F.excBase_ValueError.hasBase) (I.ok.hd r) (by rw[f];show(false||(backTo cpos (starEach [] X.env)).any (·.1))=false;rw[c];rfl) d (kx I p l ⟨rfl,?_⟩ hd)
 have g:=u cpos a s Z H _ I h;rw[f]at g ⊢;refine UI (bE g λus s2 ⟨vs,y,b,i,n,k⟩=>⟨rfl,?_,b.bk _ _ w,v.keeps b.bk,T.keeps b.bk,λh' e m=>O.raised b m k⟩);rw[<-i.length];exact UK (Av n)
end
def PSf(X:Cx)(a:L0)(Z:St)(st:List Stmt)(t:TS):Prop:=∀(s:Shared) (H:Hp) (D:Ends),Inv X a Z H s->t D Z H->wpAny (model X.prog X.w) X.A (execs st X.env) (SP X a D) X.xe s
def PEf(X:Cx)(a:L0)(Z:St)(e:Expr)(t:TE):Prop:=∀(s:Shared) (H:Hp) (Q:VK),Inv X a Z H s->t Z H Q->wpAny (model X.prog X.w) X.A (eval e X.env) (EP X a Z Q) X.xe s
def Pf(CX:ym)(X:Cx)(a:L0)(Z:St)(E:XK):Prop:=∀(H:Hp) (s:Shared) (e:Value) (s':Shared),Inv X a Z H s->CX X.stack H s E e s'->X.xe e s'
def TB(X:Cx)(st:List Stmt)(tb:XK->TS):Prop:=∀(q:L1) (a:L0) (Z:St) (E:XK),Pf (dR X.prog X.w) (X.wish q) a Z E->PSf (X.wish q) a Z st (tb E)
def Th(X:Cx)(e:Expr)(te:XK->TE):Prop:=∀(q:L1) (a:L0) (Z:St) (E:XK),Pf (dR X.prog X.w) (X.wish q) a Z E->PEf (X.wish q) a Z e (te E)
section
variable{X:Cx}{q:L1}
theorem PA.wish{b:List Expr}{t:TA}(h:PA X.nox b t):PA (X.wish q) b t:=λpos a s Z H Q I c=>
 Ve (h pos a s Z H Q (I.unwish.wish _) c) (λ_ _ ⟨v,H',d,r,z⟩=>⟨v,H',d.unwish.wish _,r,z⟩) λ_ _ z=>False.elim z
theorem PE.wish{e:Expr}{t:TE}(h:PE X.nox e t):PE (X.wish q) e t:=λa s Z H Q I b=>
 Ve (h a s Z H Q (I.unwish.wish _) b) (λ_ _ ⟨v,H',c,r,z⟩=>⟨v,H',c.unwish.wish _,r,z⟩) λ_ _ z=>False.elim z
theorem PT.wish{e:Expr}{t:TT}(h:PT X.nox e t):PT (X.wish q) e t:=λa s Z H Q I b=>
 Ve (h a s Z H Q (I.unwish.wish _) b) (λ_ _ ⟨H',c,z⟩=>⟨H',c.unwish.wish _,z⟩) λ_ _ z=>False.elim z
end
section
variable{X:Cx}{CX:ym}{k:Nat}{f C:Addr}{fd:FuncData}{ps:List Str}{sp:Sp}{dvs:List V}{ds:List Value}{E:XK}{x m:Str}{p pos apos:Pos}{e o:Expr}{es:List Expr}{ta:TE}{t:TA}
theorem yA{a:L0}{Z:St}{H:Hp}{s:Shared}{Q:VK}{us:List Value}{vs:List V}(F:FnOk X.prog X.w X.K X.mg X.base CX k f fd ps sp)(g:Room k X.A)(j:Binds X.K fd ps ds)(hd:Vals dvs ds)(d:Pf CX X a Z E)
 (I:Inv X a Z H s) (r:Vals vs us) (h:sp (vs++dvs) H Q E):wpAny (model X.prog X.w) X.A (call (.ref f) us) (EP X a Z Q) X.xe s:=by
 have c:Vals (vs++dvs) (us++ds):=r.append hd;have i:(us++ds).length=ps.length:=by rw[<-c.length];exact F.len _ _ _ _ h
 refine wpAny_call (VR (F.run X.A X.stack s H ⟨us,[]⟩ (us++ds) (vs++dvs) Q E g I.env0 (j s us I.kIn i) c h) λr s' b=>?_);cases r with
 |error e=>exact d H s e s' I b
 |ok l=>
   cases l with
   |ret u=>exact I.after b
   |next=>exact False.elim b
   |brk=>exact False.elim b
   |cont=>exact False.elim b
theorem rX{pl:Sem Bool}(G:PE X.nox o ta)(c:Cls X.K C)(i:Meth X.K C m f)(F:FnOk X.prog X.w X.K X.mg X.base (dR X.prog X.w) k f fd ps sp)(D:Room k X.A)(J:Binds X.K fd ps ds)(hd:Vals dvs ds)(L:PA X.nox (e::es) t)
 (d:starEach (e::es) X.env=(false,eval e X.env)::starEach es X.env:=by rfl) (g:(backTo pos (starEach es X.env)).any (·.1)=false:=by rfl)
 (B:eval (.Call (.Attribute o m apos) (e::es) [] pos) X.env=(do
   let ov <-eval o X.env
   standAt apos.atName
   let (f,first) <-holding [ov] (getMethod ov m pl)
   callWith pos f first (backTo pos (starEach (e::es) X.env)) (backToKw pos (keywordEach [] X.env))):=by rfl):
 Th X (.Call (.Attribute o m apos) (e::es) [] pos) (λE=>gy C m sp dvs E ta t):=by
 intro q b Z E z s H Q I h;refine Vv (pl:=pl) (bE (PE.wish (q:=q) G b s Z H _ I h) λu p ⟨x,H1,n,v,a,dx,fs,ex,M,l,q⟩=>?_) B;subst ex;obtain rfl:u=Value.ref a:=v;refine g6 n M c i l ?_;refine VN (first:=[.ref a]) (h₀:=X.base) I.ok.mod.kin i.kp (bE (PA.wish L pos b p Z H1 _ n q) λus s2 ⟨vs,N,j,r,y⟩=>⟨j.kIn,?_⟩) d g;exact yA (us:=.ref a::us) (vs:=.ref a::vs) F D J hd z j (.cons rfl r) y
theorem nh{te:XK->TE}(f:Th X e te)(d:swapsWith e none pos.line X.env=pure false:=by rfl):TB X [.Expr e pos] (λE=>yo (te E)):=by
 intro q a Z E c s H D I h;refine VX ?_;exact wpAny_Expr_any (bE (f q a Z E c s H _ I h) λv i ⟨x,H1,g,j,b⟩=>UR ⟨Z,H1,g,b⟩) I.quiet d
theorem BR{c:Expr}{a b:List Stmt}{g:TT}{t u:XK->TS}(m:PT X.nox c g)(o:TB X a t)(n:TB X b u):TB X [.If c a b pos] (λE=>Gz g (t E) (u E)):=by
 intro q e Z E k s H D I h;refine VX ?_;refine wpAny_If (bE (PT.wish (q:=q) m e s Z H _ I h) λd i ⟨H1,l,j⟩=>?_);cases d with
 |true=>
   refine bE (o q e Z E k i H1 D l j) λf s2 z=>?_;cases f with
   |next=>exact UR z
   |_=>exact z
 |false=>
   refine bE (n q e Z E k i H1 D l j) λf s2 z=>?_;cases f with
   |next=>exact UR z
   |_=>exact z
end
abbrev Cx.hand(X:Cx)(a:Addr)(b:Obj):Cx:={X with A:=X.A.mark (some (.ref a)),calm:=false,pn:=(a,b)::X.pn,xe:=λ_ _=>False}
section
variable{X:Cx}{pins:L0}{Z:St}{H:Hp}{s:Shared}{ea:Addr}{oe:Obj}
theorem Cx.Ok.hand(ok:X.Ok):(X.hand ea oe).Ok:=⟨ok.mod,ok.kind,ok.glob,ok.blt,ok.above,ok.inj,ok.has,ok.cab,λz=>(nomatch z),ok.frames,ok.stk,ok.exf,ok.bs,ok.bsz,ok.noex,ok.exfs,ok.funs,ok.frf⟩
theorem Inv.hand(I:Inv X pins Z H s){vs:Array Value}(c:s.heap.get? ea=some oe)(e:H ea=none)(hd:oe.data=.fields vs):Inv (X.hand ea oe) pins Z H s:=by
 refine⟨I.ok.hand,I.os,I.bare,I.base,I.loc,I.cell,I.free,I.freeC,λp hp=>?_,I.hok,I.len⟩;rcases Tz.mp (show p∈(ea,oe)::(X.pn++pins) from hp) with rfl|hp
 · refine⟨c,e,λz=>?_,λz=>?_,λv z=>by rw[hd]at z;cases z⟩
   ·obtain⟨m,⟨o,f,ep,a,b,_⟩,_⟩:=I.loc;replace z:ea=X.env.locals:=z;rw[z,a]at c;cases c;rw[hd]at b;cases b
   ·obtain⟨_,o,a,d⟩:=I.funs.mem z;replace a:s.heap.get? ea=some o:=a;rw[c]at a;cases a;exact d _ hd
 ·exact I.pin p hp
theorem Inv.unhand(I:Inv (X.hand ea oe) pins Z H s)(ok:X.Ok):Inv X pins Z H s:=
 ⟨ok,I.os,I.bare,I.base,I.loc,I.cell,I.free,I.freeC,λp hp=>I.pin p (Tt _ hp),I.hok,I.len⟩
theorem Inv.exc(I:Inv (X.hand ea oe) pins Z H s):s.heap.get? ea=some oe:=(I.pin (ea,oe) Tu).1
theorem Inv.fly{s':Shared}{B:Heap}{H':Hp}(I:Inv X pins Z H s)(un:Un (jp X.stack) (jp X.stack) H H' s.heap B)(hok:HOk X.prog X.w H' B)(st:B.StaysIn s'.heap)
 (a:∀b∈jp X.stack,∀o,s.heap.get? b=some o->∃a,s'.heap.get? b=some {o with slots:=a}) (fr:∀b∈jp X.stack,H' b=none) (os:s'.os=s.os) (bare:AllBare s'.gens):Inv X pins Z H' s':=
 I.call' os (un.fly st a fr) (hok.kept st) bare λb z=>absurd z (by simp)
theorem nl{M:Model}{A:Around}{E:L1}{n:Str}{j:Nat}{pos:Pos}{Q:Unit->Shared->Prop}(I:Inv X pins Z H s)(W:X.N.Nodup)(J:X.N[j]?=some n)(V:X.env.kindOf n=some .local)
 (h:∀s',Inv X pins (Z.set j none) H s'->Q () s'):wpAny M A (do bindName X.env n .none;unbindBehindTheSuite X.env n pos) Q E s:=by
 obtain⟨m,T,U⟩:=id I.loc;have B:(X.env.scope.kind == .class||(X.env.scope.kind == .module&&X.env.locals != X.env.globals))=false:=by rw[I.ok.kind];rfl
 have x:j<Z.length:=by rw[I.len];exact(TW.mp J).1
 have cne:=I.cne;refine wpAny_nameGoes_keeps V T B λh' v D g=>?_
 have a:HOk X.prog X.w H h':=λb ob e=>by
  refine(I.hok b ob e).stay (λc G C q=>(g.2 c ?_).trans q) (λ_ q=>q) λ_ _ q=>q;rintro rfl;have f:=I.free;rcases C with rfl|C
  ·rw[f]at e;cases e
  ·rw[f]at C;cases C
 refine h _ ⟨I.ok,I.os,I.bare,⟨λb o e n F u=>?_,λb o e n F u=>?_,I.base.free,λb o e u=>?_,I.base.tups,I.base.frzs,λb l q=>⟨(I.base.tbls b l q).1,λc o e1 t=>let ⟨K,Y⟩:=(I.base.tbls b l q).2 c o e1 t;⟨K,(g.2 c (bf K I.free)).trans Y⟩⟩⟩,⟨_,D,λi y L e1 t e3=>?_⟩,λy c e=>?_,I.free,I.freeC,λp hp=>?_,a,by simpa using I.len⟩
 ·exact(g.2 b (T8 (T1 (TH e) I.ok.above))).trans (I.base.keep b o e n F u)
 ·obtain⟨P,e1⟩:=I.base.slot b o e n F u;exact⟨P,(g.2 b (T8 (T1 (TH e) I.ok.above))).trans e1⟩
 ·obtain⟨o',e1⟩:=I.base.there b o e u;exact⟨o',(g.2 b (T8 (T1 (TH e) I.ok.above))).trans e1⟩
 · by_cases r:i=j
   ·subst r;rw[UV x]at t;cases t
   · rw[VA (Va r)]at t;obtain⟨O,R,q⟩:=U i y L e1 t e3;refine⟨O,R,?_⟩;rcases q with ⟨k,e⟩|⟨k,c,e,z⟩
     · refine .inl ⟨k,?_⟩
       have:y≠n:=λe=>r (oB W e1 (e▸J))
       simp[this,e]
     ·exact .inr ⟨k,c,e,z.sameBut g (cne y c e)⟩
 ·obtain⟨G,z⟩:=I.cell y c e;exact⟨G,z.sameBut g (cne y c e)⟩
 ·obtain⟨e,n,ne,S,d⟩:=I.pin p hp;exact⟨(g.2 p.1 ne).trans e,n,ne,S,d⟩
end
theorem ph{M:Model}{A:Around}{E:L1}{K:F0}{C G:Addr}{h:Heap}{g:Array GenState}{d:Drawn}{t:Nat}{os:OsState}{e:Addr}{k:Obj}{Q:Bool->Shared->Prop}
 (X:K.In h) (kC:iZ K C=true) (v:iZ K G=true) (x:h.get? e=some k) (a:k.cls=.ref C) (l:(gr K C).contains (.ref G)=true)
 (w:Q true ⟨h,g,d,t,os⟩):wpAny M A (excMatches (.ref e) (.ref G)) Q E ⟨h,g,d,t,os⟩:=by
 obtain⟨bm,N,nm,D,bs,hdct,sn,sub,ab,col,dd,k0,k1,k2,k3,k5,mN,n,_,_,R,u⟩:=sY X kC;obtain⟨i,S,r,q,z,b,p,j,B,o,y,P,O,L,J,I,s,m,_,_,TG,H⟩:=sY X v;rw[u]at l;have c:(Value.ref G::i).contains (.type "BaseException")=true:=by rw[List.contains_cons,TG.hasType PySem.F.excBase_ValueError.hasBase,Bool.or_true]
 have f:=tc_notTuple;unfold excMatches
 repeat (first | (with_reducible refine Wm x ?_;rw[a]) | with_reducible refine Wm m ?_ | with_reducible refine Wm n ?_ | (with_reducible refine wpAny_isSubtype_exc m ?_;rw[c]) | (with_reducible refine wpAny_isSubtype_exc n ?_;rw[l]) | wp_step)
 exact w
section
variable{X:Cx}{st:List Stmt}{tb:XK->TS}{x n:Str}{G:Addr}{j:Nat}{np hp pos:Pos}{b₀:Stmt}{suite:List Stmt}{th:Addr->Addr->TS}{ok:Addr->Prop}
def tH(K:F0)(G:Addr)(ok:Addr->Prop)(g:Addr->Addr->Hp->Prop):XK:=λb _ H'=>∃C,b=.ref C/\iZ K C=true/\(gr K C).contains (.ref G)=true/\ok C/\∀a,H' a=none->g a C H'
def BS(K:F0)(G:Addr)(ok:Addr->Prop)(j:Nat)(tb:XK->TS)(th:Addr->Addr->TS):TS:=λD Z H=>
 tb (tH K G ok λb C H'=>th b C {nx:=λa H1=>D.nx (a.set j none) H1,rt:=D.rt,bk:=λa H1=>D.bk (a.set j none) H1,ct:=λa H1=>D.ct (a.set j none) H1} (Z.set j (some (.ref b))) H') D Z H
theorem Dk(g:X.stack=X.env::X.outer)(hfr:X.env.frame=some X.env.locals)(P:TB X st tb)(hg:Gl X x)(hm:X.mg x=some (.ref G))(hG:iZ X.K G=true)(Q:X.N.Nodup)(M:X.N[j]?=some n)
 (U:X.env.kindOf n=some .local) (hx:Sd X.env.scope n) (hs:∀c oe C,oe.cls=.ref C->ok C->Gb (X.hand c oe) (b₀::suite) (th c C)) (hd:(x==("__debug__" : Str))=false:=by decide)
 (hf:X.fn n=true\/X.env.scope.names.lookup n=some .local:=by first | exact .inl rfl | exact .inr rfl | assumption):
 PS X (.Try st [.ExceptHandler (some (.Name x np)) (some n) (b₀::suite) hp] [] [] pos) (BS X.K G ok j tb th):=by
 intro a s Z H D I h;refine wpAny_Try_except ?_;refine Ve (P (λe E=>wpAny (model X.prog X.w) X.A (noteFrame e X.env) (λ_ y=>wpAny (model X.prog X.w) X.A (setFlight e none) (λ_ t=>wpAny (model X.prog X.w) X.A (handleBy e X.env [.ExceptHandler (some (.Name x np)) (some n) (b₀::suite) hp]) (SP X a D) X.xe t) X.xe y) X.xe E) a Z _ ?_ s H D (I.wish _) h) (λd T z=>?_) (λe T z=>z)
 rotate_left
 · cases d with
   |next=>exact UR z.unwish
   |ret v=>exact z.unwish
   |brk=>exact z.unwish
   |cont=>exact z.unwish
 · intro H1 T e s' V hcx;obtain⟨c,C,a0,B,H',rfl,os,bare,un,hok,d,sl,fr,C',hCv,kC,L,kok,hh⟩:=hcx;cases hCv;replace V:=V.unwish;replace un:Un (jp X.stack) (jp X.stack) H1 H' T.heap B:=un;replace d:Heap.FlyingW B X.stack c (.ref C) a0 s'.heap:=d;rw[g]at d;have ff:=d.2.2.1;have hH:H' c=none:=hok.none d.2.1;show wpAny _ _ (noteFrame (.ref c) X.env) _ _ _;refine wpAny_looks_onW (by rw[<-g];exact I.ok.frames) hfr d λh4 fl4 up4=>?_;refine wpAny_landsW fl4 λh5 l Y=>?_;have up:=up4.trans Y
   have F:∀{k:Heap},s'.heap.UpToSlots k->∀b∈jp X.stack,∀o,T.heap.get? b=some o->∃sl,k.get? b=some {o with slots:=sl}:=λ{k} u b P o e=>by
    obtain⟨l1,e1⟩:=sl b P o e;rw[g]at P;obtain⟨l2,e2⟩:=nL u ff P e1;exact⟨l2,e2⟩
   have I5:Inv X a Z H' { s' with heap:=h5 }:=V.fly (s':={ s' with heap:=h5 }) un hok l.1 (F up) fr os bare;obtain⟨o5,v5,O,hc5,hd5,_⟩:=l.first;have S:Inv (X.hand c o5) a Z H' { s' with heap:=h5 }:=I5.hand O hH hd5;refine wpAny_handleBy_cons (codeAny_handlers_test ?_) (by intro z;cases z);refine kx (X:=X.hand c o5) S hg hm ?_ hd;refine ph (K:=X.K) S.kIn kC hG O hc5 L ?_;show codeAny _ _ _ _ _;refine codeAny_handlers_suite_as ?_;refine lands_againW l λk R W=>?_;have I6:Inv X a Z H' { s' with heap:=k }:=V.fly (s':={ s' with heap:=k }) un hok R.1 (F (up.trans W)) fr os bare;obtain⟨o6,v6,he6,hc6,hd6,_⟩:=R.first;have I6h:Inv (X.hand c o6) a Z H' { s' with heap:=k }:=I6.hand he6 hH hd6;refine nG (X:=X.hand c o6) (i:=j) (v:=.ref c) I6h Q M hx rfl (λs7 I7=>?_) hf;refine Ve (hs c o6 C hc6 kok a s7 _ H' _ I7 (hh c hH)) (λd s8 z=>?_) λ_ _ z=>z.elim;show wpAny _ _ _ _ _ _;cases d with
   |next=>obtain⟨f,p,J,q⟩:=z;exact nl (J.unhand I.ok) Q M U λs9 m=>⟨_,p,m,q⟩
   |brk=>obtain⟨f,p,J,q⟩:=z;exact nl (J.unhand I.ok) Q M U λs9 m=>⟨_,p,m,q⟩
   |cont=>obtain⟨f,p,J,q⟩:=z;exact nl (J.unhand I.ok) Q M U λs9 m=>⟨_,p,m,q⟩
   |ret u=>obtain⟨v,f,p,J,r,q⟩:=z;exact nl (J.unhand I.ok) Q M U λs9 m=>⟨v,_,p,m,r,q⟩
end
end L2
namespace PySem.W
open PySem PySem.Spec PySem.Calls PyProof.Rows
open Builtin Builtin.ObjectAttr Builtin.Getset_descriptor in
theorem HX{prog:Program}{w:World}{A:Around}{R:Result->Shared->Prop}{s:Shared}{x C:Addr}{a:Value}(e:Looks (model prog w) s.heap (typeOf (.ref x)) (.ref C))(d:Looks (model prog w) s.heap (isSubtype (.ref C) (.type "object")) true)
 (h:R (.ok (.ret (.ref C))) s):codeAny (model prog w) A (.call (.builtin "getset_descriptor.__get__") ⟨[.builtin "object.__class__",.ref x,a],[]⟩) R s:=by
 obtain⟨b,g,c,t,os⟩:=s;refine codeAny_call_builtin KF.slot_gs.plain KF.entry_gs (KF.slot_gs.check _ _ _ _ _ _ _ _ KF.type_class (KF.args_gs _ _ _) ?_);unfold Builtin.«getset_descriptor.__get__» descrGet;rw[dga_obj];refine wpAny_bind (wpAny_pure ?_);unfold descrGetter descrCheckInstance descrNameAndClass isInstance;simp only[KF.owner_class]
 repeat lk
 refine⟨Code.quiet_builtin _ (by decide +kernel),codeAny_builtin KF.entry_class ?_⟩;unfold Builtin.«object.__class__» shownTypeOf
 repeat lk
 exact h
open Builtin Builtin.ObjectAttr Builtin.Getset_descriptor in
theorem Bd{prog:Program}{w:World}{A:Around}{E:L1}{s:Shared}{K:Frag}{x D:Addr}{m:Obj}{Q:Option Value->Shared->Prop}(X:K.In s.heap)(n:s.heap.get? x=some m)(r:m.cls=.ref D)
 (k:findIn K (.ref D) "__getattribute__" = some (some (.builtin "BaseException.__getattribute__"))) (j:findIn K (.ref D) "__getattr__" = some none) (v:findIn K (.ref D) "__class__" = some (some (.builtin "object.__class__")))
 (o:specialIn K (.builtin "object.__class__") "__get__" = some (some (.builtin "getset_descriptor.__get__"))) (i:takesIn K (.builtin "object.__class__")=some true) (p:mroIn K D (.type "object")=some true) (u:mroIn K D (.type "BaseException")=some true)
 (h:Q (some (.ref D)) {s with toks:=s.toks+1}):wpAny (model prog w) A (getAttr? (.ref x) "__class__") Q E s:=by
 obtain⟨c,g,d,t,os⟩:=s;have e:Looks (model prog w) c (typeOf (.ref x)) (.ref D):=r▸(Looks.ld n).andThen .now;have H:=looks_findIn (M:=model prog w) X k;have L2:=looks_findIn (M:=model prog w) X j;have G:=looks_findIn (M:=model prog w) X v;have C:=looks_mroIn (M:=model prog w) X u;unfold getAttr? getAttrBy? getAttrBy;refine wpAny_bind (wpAny_mkText (wpAny_bind (wpAny_attempt (wpAny_holding (wpAny_bind (e.at (wpAny_bind (H.at ?_))))))));have y:=PySem.F.excAttr_ValueError.ga.bind (.ref x);have f:(Value.builtin "BaseException.__getattribute__" == Value.builtin "object.__getattribute__")=false:=by decide +kernel
 show wpAny _ _ (if _ then _ else _) _ _ _;rw[if_neg (by rw[f];simp)];unfold getAttrByItsOwn hookBefore;rw[if_pos (show onTheHeap (Value.ref D)=true from rfl)];refine wpAny_bind (L2.at ?_);refine wpAny_bind (wpAny_attempt (wpAny_holding ?_));unfold callGetattribute;refine wpAny_bind (wpAny_of_eq y ?_);have q:builtinKind "BaseException.__getattribute__" = some .slot:=by decide +kernel
 have b:splitId "BaseException.__getattribute__" = some ("BaseException","__getattribute__"):=by decide +kernel
 have l:=PySem.F.args_bexc_ga (.ref x) (.str (Str.ofString "__class__") t);have z:Looks (model prog w) c (isInstance (.ref x) (.type "BaseException")) true:=e.andThen C;show wpAny _ _ (call (.builtin "BaseException.__getattribute__") [.ref x,.str (Str.ofString "__class__") t]) _ _ _;refine wpAny_call (codeAny_call_builtin PySem.F.excAttr_ValueError.ga.plain PySem.F.entry_bexc_ga ?_);simp only[checkBuiltinCall,q,b];refine wpAny_bind (z.at ?_);rw[if_neg (by decide)];refine wpAny_of_eq (a:=()) l ?_
 have B:Looks (model prog w) c (Builtin.ObjectAttr.find (.ref x) (.ref D) "__class__") (.bind (.builtin "getset_descriptor.__get__") (.builtin "object.__class__")):=
  G.andThen ((show Looks (model prog w) c (getOf (some (.builtin "object.__class__"))) (some (.builtin "getset_descriptor.__get__")) from looks_specialIn X o).andThen
   ((show Looks (model prog w) c (dataDescriptor? (some (.builtin "object.__class__")) (some (.builtin "getset_descriptor.__get__"))) (some (.builtin "getset_descriptor.__get__",.builtin "object.__class__")) from(looks_takesIn (M:=model prog w) X i).andThen .now).andThen (Looks.tag .now)))
 refine wpAny_bind (wpAny_pure ?_);dsimp only;refine wpAny_bind (wpAny_pure (wpAny_bind (e.at (wpAny_bind (B.at ?_)))));show wpAny _ _ (Builtin.ObjectAttr.bindTo _ _ _ _) _ _ _;show wpAny _ _ (holding [Value.builtin "object.__class__"] (call (Value.builtin "getset_descriptor.__get__") [Value.builtin "object.__class__",Value.ref x,Value.ref D]) >>= ret) _ _ _;refine wpAny_bind (wpAny_holding (wpAny_call (HX (s:=⟨c,g,d,t+1,os⟩) e (looks_mroIn (M:=model prog w) X p) ?_)));refine wpAny_pure ?_;exact handed_on rfl (wpAny_pure h)
def excAt(K:Frag)(D:Addr):Bool:=findIn K (.ref D) "__getattribute__" == some (some (.builtin "BaseException.__getattribute__"))&&(findIn K (.ref D) "__getattr__" == some none&&(findIn K (.ref D) "__class__" == some (some (.builtin "object.__class__")) &&
 (specialIn K (.builtin "object.__class__") "__get__" == some (some (.builtin "getset_descriptor.__get__"))&&(takesIn K (.builtin "object.__class__")==some true&&(mroIn K D (.type "object")==some true&&(mroIn K D (.type "BaseException")==some true&&(clsIn K D).isSome))))))
theorem kitx_exc{K:Frag}{x D:Addr}{i:Obj}(j:i.cls=.ref D)(e:excAt K D=true):KitX K (.ref x) (.ref D) (λh=>h.get? x=some i):=by
 unfold excAt at e;simp only[Bool.and_eq_true,beq_iff_eq]at e;obtain⟨e1,w,v,u,t,s,r,p⟩:=e;obtain⟨A,d⟩:=Option.isSome_iff_exists.mp p
 have o:∃a b c,K.lookup D=some ⟨a,b,.cls A,c⟩:=by
  unfold clsIn at d;split at d
  ·rename_i C d' y m f;cases d;exact⟨_,_,_,f⟩
  ·cases d
 obtain⟨a,b,c,f⟩:=o;refine⟨λM h _ I=>j▸(Looks.ld I).andThen .now,λM h X _=>?_,λh l dd its n B X g=>?_,λX I k=>Bd X I j e1 w v u t s r k⟩
 ·intro F Q' E s' k q;unfold isType loadHead;exact wpAny_bind (wpAny_loadPart (k _ _ (X _ _ f)) (wpAny_pure q))
 ·refine Bool.eq_false_iff.mpr λq=>?_;have e:D=l:=Value.ref.inj (VY.mp q);subst e;have z:=(X _ _ f).symm.trans g;cases z
end PySem.W
namespace L2
open PySem PySem.Spec PyProof.Rows
section
variable{X:Cx}{ea C:Addr}{oe:Obj}{g:V}{c:Value}
def rIs(ea:Addr)(g:V)(b:Bool):List V->Hp->VK->Prop:=λxs H Q=>xs=[.ref ea,g]/\Q (.bl b) H
theorem jd{b:Bool}(l:oe.cls=.ref C)(j:∀u,RelV g u->u=c)(k:PySem.W.excAt X.K C=true)(e:PySem.W.kitOne X.K (.ref C) c=some b):fe (X.hand ea oe) (.builtin "isinstance") (rIs ea g b):=by
 intro a s Z H xs us Q I r h;obtain⟨rfl,q⟩:=h;obtain⟨u,m,rfl,i,f⟩:=BH r;obtain rfl:u=Value.ref ea:=i;obtain rfl:=j _ f;exact PySem.W.kia_one (PySem.W.kitx_exc l k) I.kIn I.exc e (λz=>nomatch z) λd=>⟨.bl b,H,I.tok d,rfl,q⟩
end
section
variable{P:Program}{w:World}{K:F0}{mg:Str->Option Value}{base:Heap}
theorem Fun.okX{x qual:Str}{st:Stmt}{f:Addr}{fd:FuncData}{N ps:List Str}{k:Nat}{sp:Sp}(F:Fun K x qual st f fd)(S:FnScope N ps (am st))(len:∀vs H Q E,sp vs H Q E->vs.length=ps.length)
 (b:∀(a:Value) (A:Around) (outer:List Env) (s:Shared) (H:Hp) (vs:List V) (Q:VK) (E:XK),Room k (A.deeper (envOfC qual (am st) s.heap.objs.size f a))->sp vs H Q E->
   ∃t,Gb (pF (dR P w) P w K mg base N qual (am st) f a A outer s H E) (eC st) t/\t {nx:=λ_ H'=>Q .non H',rt:=Q} (ip N vs) H):FnOk P w K mg base (dR P w) (k+1) f fd ps sp:=by
 obtain⟨oc,i,kV,h,pm,an,a,ct,e,rfl,lk,d⟩:=F.ex;exact fn_of lk d S len λA outer s H vs Q E g c=>b a A outer s H vs Q E g c
theorem aZ{N:List Str}{qual:Str}{scope:Scope}{f:Addr}{a:Value}{A:Around}{outer:List Env}{s:Shared}{H:Hp}{E:XK}:im (dR P w) (pF (dR P w) P w K mg base N qual scope f a A outer s H E) E:=eV.passes
theorem wT{N:List Str}{qual:Str}{scope:Scope}{f:Addr}{a:Value}{A:Around}{outer:List Env}{s:Shared}{H:Hp}{E:XK}:PassesOwn (model P w) (pF (dR P w) P w K mg base N qual scope f a A outer s H E).A (pF (dR P w) P w K mg base N qual scope f a A outer s H E).env (pF (dR P w) P w K mg base N qual scope f a A outer s H E).xe:=eV.own
theorem no1{P:Program}{w:World}{outer:List Env}{H:Hp}{s s':Shared}{e:Value}(h:dR P w outer H s E0 e s'):False:=by
 obtain⟨_,_,_,_,_,_,_,_,_,_,_,_,_,q⟩:=h;exact q
theorem Dt{X:Cx}:im (dR P w) X E0:=λ_ _ _ _ _ _ _ h=>(no1 h).elim
theorem FnOk.calm{k:Nat}{f:Addr}{fd:FuncData}{ps:List Str}{sp:Sp}(F:FnOk P w K mg base (dR P w) k f fd ps sp):FnOk P w K mg base To k f fd ps (λvs H Q _=>sp vs H Q E0):=
 ⟨λvs H Q E h=>F.len vs H Q E0 h,λA outer s H args us vs Q E c e0 d a b=>VR (F.run A outer s H args us vs Q E0 c e0 d a b) λr s' h=>by
  cases r with
  |error e=>exact no1 h
  |ok g=>cases g<;>exact h⟩
end
end L2
namespace Mi
open PySem L2
def dC(c:Nat):L4->SO:=λT=>.exc c T
def jK(T:L4):Option Nat->Bool
 |none=>true
 | some j=>match T[j]? with
   |some none=>true
   |_=>false
theorem q5{T:L4}{j:Nat}(h:jK T (some j)=true):j<T.length/\rg T j=none:=by
 unfold jK at h;dsimp only at h;cases e:T[j]? with
 |none=>rw[e]at h;cases h
 |some x=>
   cases x with
   |none=>exact⟨(List.getElem?_eq_some_iff.mp e).1,by unfold rg;rw[e];rfl⟩
   |some y=>rw[e]at h;cases h
def S4(j:Option Nat):SO->SO
 |.nx T=>if jK T j=true then .nx T else .bad
 |_=>.bad
def BM(j:Option Nat)(a:Nat->Bool)(d:L4->SO)(b:Nat->L4->SO):L4->SO:=λT=>match d T with
 |.exc c G=>if a c=true/\jK G j=true then S4 j (b c G) else .bad
 |.nx G=>.nx G
 |_=>.bad
section
variable{Y:Cm}{Kr:KT D V}{E:XK}{pr:Nat->Bool}{M:List Md}{K:F0}
theorem d8{c:Nat}{v:V}:SJ Y E Kr pr M (BV E (Y c) (bz (tC v) cT)) (dC c):=λB U I Z H T D R P=>⟨(by decide:1<=1000),P Z B U I H R (Ex.refl _ _) (Kp.refl _ _) none⟩
def Tf(Y:Cm)(E:XK)(M:List Md)(B U:Hp)(Z:St)(r:SO)(D:Ends):Prop:=match r with
 |.nx G=>∀S J C H',Rel Y M S J C Z H' G->Ex B U S J->D.nx Z H'
 |.exc c G=>∀S J C H',Rel Y M S J C Z H' G->Ex B U S J->∀a,E (.ref (Y c)) a H'
 |_=>False
def R8(Y:Cm)(M:List Md)(tb:XK->TS)(m:L4->SO):Prop:=∀E B U I Z H T D,Rel Y M B U I Z H T->Tf Y E M B U Z (m T) D->tb E D Z H
theorem sX{f:KT D V}{te:XK->TE}{m:L4->Out D}(h:∀E,MJ Y f E M (te E) m):R8 Y M (λE=>yo (te E)) (bb m):=by
 intro E B U I Z H T D R P;refine h E B U I Z H T _ R ?_;unfold bb at P;cases e:m T with
 |ok d G=>rw[e]at P;exact λv S J C H' N b a g k=>P S J C H' b a
 |exc c G=>rw[e]at P;exact P
 |bad=>rw[e]at P;exact P
theorem Tf.at{B U B1 U1:Hp}{Z:St}{r:SO}{D:Ends}(P:Tf Y E M B U Z r D)(e:Ex B U B1 U1):Tf Y E M B1 U1 Z r D:=by
 cases r with
 |nx G=>exact λS J C H' b a=>P S J C H' b (e.trans a)
 |exc c G=>exact λS J C H' b a=>P S J C H' b (e.trans a)
 |_=>exact P
theorem Nr{c:TT}{t u:XK->TS}{mc:L4->Out Bool}{m n:L4->SO}(g:∀E,MJ Y KB E M c mc)(h:R8 Y M t m)(k:R8 Y M u n):R8 Y M (λE=>Gz c (t E) (u E)) (gx mc m n):=by
 intro E B U I Z H T D R P;refine g E B U I Z H T _ R ?_;unfold gx at P;cases e:mc T with
 |ok b G=>
   rw[e]at P;intro v S J C H' N d a i f;cases f;cases b with
   |true=>exact h E S J C Z H' G D d (Tf.at P a)
   |false=>exact k E S J C Z H' G D d (Tf.at P a)
 |exc c G=>rw[e]at P;exact P
 |bad=>rw[e]at P;exact P
def N9(l:List Nat):Nat->Bool:=λc=>l.contains c
theorem Rel.slot{B U H:Hp}{I:Nat->List Addr}{Z:St}{T:L4}{j:Nat}{x:Option V}(R:Rel Y M B U I Z H T)(h:rg T j=none):Rel Y M B U I (Z.set j x) H T:=by
 refine⟨R.bu,R.uh,R.nd,R.dj,R.un,λi=>?_,by rw[T5];exact R.len,R.tb⟩;have l:=R.lo i;by_cases z:i=j
 ·subst z;rw[h]at l ⊢;exact l
 · have:rg (Z.set j x) i=rg Z i:=by unfold rg;rw[List.getElem?_set_ne (Ne.symm z)]
   rw[this];exact l
theorem Kp.slot{Z a:St}{j:Nat}{x:Option V}(k:Kp pr Z a)(hp:pr j=false):Kp pr Z (a.set j x):=λi hi=>by
 have:i≠j:=λz=>by rw[z,hp]at hi;cases hi
 have e:rg (a.set j x) i=rg a i:=by unfold rg;rw[List.getElem?_set_ne (Ne.symm this)]
 rw[e];exact k i hi
def EX(K:F0)(C:Addr)(c:Value):Bool:=(PySem.W.kitOne K (.ref C) c).getD false
def Od(K:F0)(C:Addr)(a:List Value):List Bool:=a.map (EX K C)
def Ax:List Bool->TA
 |[]=>cT
 |b::l=>bz (tC (.bl b)) (Ax l)
def okL(K:F0)(a:List Value)(C:Addr):Prop:=PySem.W.excAt K C=true/\∀c∈a,(PySem.W.kitOne K (.ref C) c).isSome=true
theorem okL.kit{a:List Value}{C:Addr}{c:Value}(h:okL K a C)(n:Nat)(e:a[n]?=some c):PySem.W.kitOne K (.ref C) c=some (EX K C c):=by
 have:=h.2 c (Ux e)
 unfold EX;cases q:PySem.W.kitOne K (.ref C) c with
 |none=>rw[q]at this;cases this
 |some b=>rfl
theorem cD{C:Addr}:(∀c∈([]:List Value),(PySem.W.kitOne K (.ref C) c).isSome=true)/\Od K C []=[]:=⟨λ_ h=>(nomatch h),rfl⟩
theorem ar{C:Addr}{c:Value}{b:Bool}{a:List Value}{l:List Bool}(e:PySem.W.kitOne K (.ref C) c=some b)(h:(∀c∈a,(PySem.W.kitOne K (.ref C) c).isSome=true)/\Od K C a=l):(∀x∈c::a,(PySem.W.kitOne K (.ref C) x).isSome=true)/\Od K C (c::a)=b::l:=
 ⟨λx d=>by
  rcases Tz.mp d with rfl|d
  ·rw[e];rfl
  ·exact h.1 x d,by
  unfold Od at h ⊢;rw[List.map_cons,h.2];unfold EX
  rw[e];rfl⟩
def isE(K:F0)(a C:Addr)(j:Nat)(g:V)(v:Value):TE:=GA (rIs a g (EX K C v)) (bz (cR j) (bz (tC g) cT))
def GW(K:F0)(a C:Addr)(j:Nat):List (V×Value)->TA
 |[]=>cT
 |p::l=>bz (isE K a C j p.1 p.2) (GW K a C j l)
theorem r0{a C:Addr}{j:Nat}{Z:St}(b:Z[j]?=some (some (.ref a))):∀{L:List (V×Value)} {H:Hp} {Q:List V->Hp->Prop},Ax (Od K C (L.map (·.2))) Z H Q->GW K a C j L Z H Q
 |[],_,_,h=>h
 |p::l,H,Q,h=>⟨.ref a,b,rfl,r0 (L:=l) b (Q:=λvs c=>Q (_::vs) c) h⟩
def HJ(Y:Cm)(K:F0)(Kr:KT D V)(E:XK)(pr:Nat->Bool)(M:List Md)(g j:Nat)(ok:Addr->Prop)(d:Addr->Addr->TS)(e:Nat->L4->SO)(l:List Nat):Prop:=∀c∈l,(iZ K (Y c)=true/\(gr K (Y c)).contains (.ref (Y g))=true/\ok (Y c))/\
 ∃a:TS,SJ Y E Kr pr M a (e c)/\∀b D Z H,Z[j]?=some (some (.ref b))->a D Z H->d b (Y c) D Z H
theorem QV{g j:Nat}{ok:Addr->Prop}{a:Addr->Addr->TS}{b:Nat->L4->SO}:HJ Y K Kr E pr M g j ok a b []:=λ_ h=>(nomatch h)
theorem lM{g j c:Nat}{ok:Addr->Prop}{a:Addr->Addr->TS}{d:Nat->L4->SO}{l:List Nat}(b:TS)(o:iZ K (Y c)=true)(n:(gr K (Y c)).contains (.ref (Y g))=true)(m:ok (Y c))(k:SJ Y E Kr pr M b (d c))
 (i:∀f D Z H,Z[j]?=some (some (.ref f))->b D Z H->a f (Y c) D Z H) (h:HJ Y K Kr E pr M g j ok a d l):HJ Y K Kr E pr M g j ok a d (c::l):=λx e=>by
 rcases Tz.mp e with rfl|e
 ·exact⟨⟨o,n,m⟩,b,k,i⟩
 ·exact h x e
theorem GR{g j:Nat}{l:List Nat}{ok:Addr->Prop}{tb:XK->TS}{n:Addr->Addr->TS}{h:L4->SO}{f:Nat->L4->SO}(u:R8 Y M tb h)(hp:pr j=false)(t:HJ Y K Kr E pr M g j ok n f l):
 SJ Y E Kr pr M (BS K (Y g) ok j tb n) (BM (some j) (N9 l) h f):=by
 intro B U I Z H T D R P;refine u _ B U I Z H T D R ?_;unfold BM at P;cases e:h T with
 |nx G=>rw[e]at P;exact λS J C H' d k=>P Z S J C H' d k (Kp.refl _ _)
 |exc c G=>
   rw[e]at P;dsimp only at P;intro S J C H' d k L;split at P
   · rename_i z;obtain⟨⟨k1,k2,k3⟩,F,v,p⟩:=t c (List.contains_iff_mem.mp z.1);obtain⟨b,s⟩:=q5 z.2;refine⟨Y c,rfl,k1,k2,k3,λw r=>?_⟩;have i:j<Z.length:=by rw[<-d.len];exact b
     refine p _ _ _ _ (by rw[UV i]) (v S J C (Z.set j (some (.ref w))) H' G _ (d.slot s) ?_);cases q:f c G with
     |nx a=>
       rw[q]at P;replace P:So Y E Kr pr M B U Z (if jK a (some j)=true then .nx a else .bad) D:=P;split at P
       ·rename_i y;intro o B1 U1 m H1 A e1 kp;exact P _ B1 U1 m H1 (A.slot (x:=none) (q5 y).2) (k.trans e1) ((((Kp.refl pr Z).slot hp).trans kp).slot hp)
       ·exact P.elim
     |_=>rw[q]at P;exact P.elim
   ·exact P.elim
 |_=>rw[e]at P;exact P
theorem aN{more:List Md}{t:TS}{body:L4->SO}{N:List Str}{vs:List V}{Q:VK}{H:Hp}{l:List D->Out D}(q:SJ Y E Kr (uq M M.length) (M++more) t body)(s:N.length=M.length+more.length)(k:l=run N.length body)(p:∀B U H,Kr .non .non B U H [])
 (h:dt Y M Kr l vs H Q E):t {nx:=λ_ H'=>Q .non H',rt:=Q} (L2.ip N vs) H:=by
 obtain⟨B,U,I,ds,R,i,P⟩:=h;subst k;have hd:ds.length=vs.length:=by have:=R.len;rw[Tv,Tv]at this;exact this
 unfold L2.ip;refine q B U I _ H (ds.map some++List.replicate (N.length-vs.length) none) _ (R.enter i) ?_;unfold run at P;rw[hd]at P;cases e:body (ds.map some++List.replicate (N.length-vs.length) none) with
 |nx G=>
   rw[e]at P;intro b S J C H' g f k';obtain⟨a,R2,j⟩:=g.leave i k';exact P .non S J a H' [] R2 f NewM.nil (p _ _ _)
 |rt d G=>
   rw[e]at P;intro v b S J C H' r g f k' n o;obtain⟨a,R2,j⟩:=g.leave i k';exact P v S J a H' r R2 f (j _ n) o
 |exc c G=>
   rw[e]at P;intro b S J C H' g f k' m;obtain⟨a,R2,j⟩:=g.leave i k';exact P S J a H' R2 f m
 |bk G=>rw[e]at P;exact P.elim
 |ct G=>rw[e]at P;exact P.elim
 |bad=>rw[e]at P;exact P.elim
theorem dF{more:List Md}{t:TS}{body:L4->SO}{N:List Str}{vs:List V}{Q:VK}{H:Hp}{l:List D->Out D}(p:SJ Y E Kr (uq M M.length) (M++more) t body)(r:N.length=M.length+more.length)(g:l=mT N.length body)
 (h:dt Y M Kr l vs H Q E):t {nx:=λ_ H'=>Q .non H',rt:=Q} (L2.ip N vs) H:=by
 obtain⟨B,U,I,ds,R,f,P⟩:=h;subst g;have hd:ds.length=vs.length:=by have:=R.len;rw[Tv,Tv]at this;exact this
 unfold L2.ip;refine p B U I _ H (ds.map some++List.replicate (N.length-vs.length) none) _ (R.enter f) ?_;unfold mT at P;rw[hd]at P;cases e:body (ds.map some++List.replicate (N.length-vs.length) none) with
 |nx G=>rw[e]at P;exact P.elim
 |rt d G=>
   rw[e]at P;intro v b S J C H' q j i k' n o;obtain⟨a,R2,k⟩:=j.leave f k';exact P v S J a H' q R2 i (k _ n) o
 |exc c G=>
   rw[e]at P;intro b S J C H' j i k' m;obtain⟨a,R2,k⟩:=j.leave f k';exact P S J a H' R2 i m
 |bk G=>rw[e]at P;exact P.elim
 |ct G=>rw[e]at P;exact P.elim
 |bad=>rw[e]at P;exact P.elim
theorem eU{a:List Md}{c:List D->Out D}{ps:List Ap}{t:TA}{m:L4->Res (List D)}(h:AJ Y E M ps t m)(b:jy ps a=true):PJ Y (KR Y .F) E M (qA (dt Y a (KR Y .F) c) [] E t) (pc c m):=
 DA h (fw b) (fy b) λ_ _ _ _ _ _ _ h=>h
theorem yV{s:Sh}{a:List Md}{c:List D->Out D}{ps:List Ap}{t:TA}{m:L4->Res (List D)}(h:AJ Y E M ps t m)(b:jy ps a=true):PJ Y (KO Y s) E M (qA (dt Y a (KO Y s) c) [] E t) (pc c m):=
 DA h (fw b) (fy b) λ_ _ _ _ _ _ _ h=>h
theorem cV{c:Nat}{d:Str}{a:List Md}{g:List D->Out D}{p:Ap}{ps:List Ap}{b:TE}{e:L4->Res D}{t:TA}{m:L4->Res (List D)}(i:A1J Y E M p b e)(h:AJ Y E M ps t m)(f:jy (p::ps) a=true):
 PJ Y (KR Y .F) E M (gy (Y c) d (dt Y a (KR Y .F) g) [] E b t) (pm c d g e m):=Dv i h (fw f) (fy f) λ_ _ _ _ _ _ _ h=>h
theorem jj{s:Sh}{c:Nat}{d:Str}{a:List Md}{g:List D->Out D}{p:Ap}{ps:List Ap}{b:TE}{e:L4->Res D}{t:TA}{m:L4->Res (List D)}(i:A1J Y E M p b e)(h:AJ Y E M ps t m)(f:jy (p::ps) a=true):
 PJ Y (KO Y s) E M (gy (Y c) d (dt Y a (KO Y s) g) [] E b t) (pm c d g e m):=Dv i h (fw f) (fy f) λ_ _ _ _ _ _ _ h=>h
theorem wQ{c:Nat}{sh:List (Str×Sh)}{a:List Md}{d:List D->Out D}{ps:List Ap}{t:TA}{m:L4->Res (List D)}(h:AJ Y E M ps t m)(b:jy ps a=true):
 PJ Y (KO Y (.ob sh)) E M (BW (Y c) (dt Y (.O (.ob sh)::a) (KR Y .F) d) [] E t) (pk c d m):=
 LS h (by rw[TD,fw b]) rfl λj p e=>by rw[UU];exact fy b j p e
theorem Ht{s:Sh}{a:List Md}{b:List D->Out D}{ps:List Ap}{t:TA}{m:L4->Res (List D)}(h:AJ Y E M ps t m)(c:fitM M ps a)(hd:(dG ps).Nodup)(d:∀i∈jX ps,i∉dG ps):
 MJ Y (KO Y s) E M (qA (dt Y a (KO Y s) b) [] E t) (mc ps b m):=M7 h c hd d λ_ _ _ _ _ _ _ h=>h
theorem cW{c:Nat}{d:Str}{a:List Md}{f:List D->Out D}{p:Ap}{ps:List Ap}{b:TE}{e:L4->Res D}{t:TA}{m:L4->Res (List D)}(k:A1J Y E M p b e)(h:AJ Y E M ps t m)(g:fitM M (p::ps) a)(hd:(dG (p::ps)).Nodup)
 (j:∀i∈jX (p::ps),i∉dG (p::ps)):MJ Y (KR Y .F) E M (gy (Y c) d (dt Y a (KR Y .F) f) [] E b t) (mm c d (p::ps) f e m):=MX k h g hd j λ_ _ _ _ _ _ _ h=>h
end
abbrev DI(X:Type):=List (List Int×X)
section
variable{X:Type}
def bR(f:X->D)(F:DI X):D:=.dT (F.map λp=>p.1.map Sum.inl) (F.map λp=>f p.2)
def DI.get(F:DI X)(k:List Int):Option X:=(F.find? λp=>decide (p.1=k)).map (·.2)
def DI.put(F:DI X)(k:List Int)(v:X):DI X:=if (F.get k).isSome=true then F.map λp=>if p.1=k then (p.1,v) else p else F++[(k,v)]
def DI.del(F:DI X)(k:List Int):DI X:=F.filter λp=>decide (p.1≠k)
theorem gg{j k:List Int}:j.map (Sum.inl:Int->aQ)=k.map Sum.inl↔j=k:=by
 constructor
 · intro h
   induction j generalizing k with
   |nil=>cases k with|nil=>rfl|cons _ _=>cases h
   |cons x j b=>
     cases k with
     |nil=>cases h
     |cons y k=>
       rw[Tr,Tr]at h;injection h with a c
       injection a with a
       rw[a,b c]
 ·intro h;rw[h]
theorem ge:∀k:List Int,bT (k.map D.int)=some (k.map Sum.inl)
 |[]=>rfl
 |x::k=>by rw[Tr,bT,ge k];rfl
theorem kq{f:X->D}{k:List Int}:∀F:DI X,bC (F.map λp=>p.1.map (Sum.inl:Int->aQ)) (F.map λp=>f p.2) (k.map Sum.inl)=(DI.get F k).map f
 |[]=>rfl
 | p::F=>by
   rw[List.map_cons,List.map_cons,bC,kq F];unfold DI.get;rw[List.find?_cons];by_cases h:p.1=k
   ·rw[Tq (gg.mpr h),UO h];rfl
   ·rw[on (λz=>h (gg.mp z)),Uo h]
theorem gK{f:X->D}{F:DI X}{k:List Int}:jx (bR f F) (.tup (k.map D.int))=some ((F.get k).map f):=by
 show(bT (k.map D.int)).map (λk=>bC (F.map λp=>p.1.map (Sum.inl:Int->aQ)) (F.map λp=>f p.2) k)=_;rw[ge,Vt,kq]
theorem zj{k:List Int}:∀F:DI X,cF (F.map λp=>p.1.map (Sum.inl:Int->aQ)) (k.map Sum.inl)=(DI.get F k).isSome
 |[]=>rfl
 | p::F=>by
   have a:=zj (k:=k) F;unfold cF DI.get at *;rw[List.map_cons,List.any_cons,List.find?_cons,a];by_cases h:p.1=k
   ·rw[UO (gg.mpr h),UO h];rfl
   ·rw[Uo (λz=>h (gg.mp z)),Uo h];rfl
theorem uI{f:X->D}{k:List Int}{v:X}:∀F:DI X,iL (F.map λp=>p.1.map (Sum.inl:Int->aQ)) (F.map λp=>f p.2) (k.map Sum.inl) (f v)=(F.map λp=>if p.1=k then (p.1,v) else p).map λp=>f p.2
 |[]=>rfl
 | p::F=>by
   rw[Tr,Tr,iL,uI F,Tr,Tr];by_cases h:p.1=k
   ·rw[Tq (gg.mpr h),Tq h]
   ·rw[on (λz=>h (gg.mp z)),on h]
theorem Fq{f:X->D}{F:DI X}{k:List Int}{v:X}(h:F.length<ao):rD (bR f F) (.tup (k.map D.int)) (f v)=some (bR f (F.put k v)):=by
 show((bT (k.map D.int)).bind λk=>if (F.map λp=>p.1.map (Sum.inl:Int->aQ)).length<ao then some (if cF (F.map λp=>p.1.map (Sum.inl:Int->aQ)) k=true then D.dT (F.map λp=>p.1.map (Sum.inl:Int->aQ)) (iL (F.map λp=>p.1.map (Sum.inl:Int->aQ)) (F.map λp=>f p.2) k (f v)) else D.dT ((F.map λp=>p.1.map (Sum.inl:Int->aQ))++[k]) ((F.map λp=>f p.2)++[f v])) else none)=some (D.dT ((F.put k v).map λp=>p.1.map Sum.inl) ((F.put k v).map λp=>f p.2));rw[ge,Option.bind_some,if_pos (by rw[List.length_map];exact h),zj];unfold DI.put;by_cases q:(DI.get F k).isSome=true
 ·rw[Tq q,Tq q,uI,UG,UG];refine congrArg (λz=>some (D.dT z _)) ?_;refine Vn λp _=>?_;show _=((if p.1=k then (p.1,v) else p).1).map Sum.inl;split<;>rfl
 ·rw[on q,on q,Uj,Uj];rfl
theorem pz{f:X->D}{k:List Int}:∀F:DI X,dU (F.map λp=>p.1.map (Sum.inl:Int->aQ)) (F.map λp=>f p.2) (k.map Sum.inl)=((F.del k).map (λp=>p.1.map Sum.inl),(F.del k).map λp=>f p.2)
 |[]=>rfl
 | p::F=>by
   rw[List.map_cons,List.map_cons,dU,pz F];unfold DI.del;rw[List.filter_cons];by_cases h:p.1=k
   ·rw[Tq (gg.mpr h),on (by simpa using h)]
   ·rw[on (λz=>h (gg.mp z)),Tq (by simpa using h)];rfl
theorem Fs{f:X->D}{F:DI X}{k:List Int}{v:X}(h:F.get k=some v):zo (bR f F) (.tup (k.map D.int))=some (f v,bR f (F.del k)):=by
 show((bT (k.map D.int)).bind λk=>(bC (F.map λp=>p.1.map (Sum.inl:Int->aQ)) (F.map λp=>f p.2) k).map λx=>(x,D.dT (dU (F.map λp=>p.1.map (Sum.inl:Int->aQ)) (F.map λp=>f p.2) k).1 (dU (F.map λp=>p.1.map (Sum.inl:Int->aQ)) (F.map λp=>f p.2) k).2))=some (f v,D.dT ((F.del k).map λp=>p.1.map Sum.inl) ((F.del k).map λp=>f p.2));rw[ge,Option.bind_some,kq,h,Vt,Vt,pz]
theorem nn{F:DI X}{k j:List Int}{v:X}:(F.put k v).get j=if j=k then some v else F.get j:=by
 unfold DI.put;by_cases q:(DI.get F k).isSome=true
 · rw[Tq q]
   have e:∀G:DI X,DI.get (G.map λp=>if p.1=k then (p.1,v) else p) j=if j=k then (DI.get G k).map λ_=>v else DI.get G j:=by
    intro G
    induction G with
    |nil=>unfold DI.get;split<;>rfl
    |cons p G f=>
      unfold DI.get at f ⊢;rw[List.map_cons,List.find?_cons,List.find?_cons,List.find?_cons];by_cases b:p.1=k
      · rw[Tq b];by_cases a:j=k
        ·subst a;simp only[b,decide_true,Tq,Vt]
        ·have c:¬ p.1=j:=λz=>a (z.symm.trans b);simp only[c,WA];rw[f,on a,on a]
      · rw[on b];by_cases c:p.1=j
        ·have a:¬ j=k:=λz=>b (c.trans z);simp only[c,decide_true,on a]
        ·simp only[c,b,WA];exact f
   rw[e];by_cases h:j=k
   ·rw[Tq h,Tq h];obtain⟨x,i⟩:=Vg.mp q;rw[i];rfl
   ·rw[on h,on h]
 · rw[on q]
   have d:DI.get F k=none:=by
    cases z:DI.get F k with
    |none=>rfl
    |some x=>rw[z]at q;exact absurd rfl q
   unfold DI.get at d ⊢;rw[List.find?_append];by_cases h:j=k
   · subst h
     have g:F.find? (λp=>decide (p.1=j))=none:=by
      cases z:F.find? (λp=>decide (p.1=j)) with
      |none=>rfl
      |some x=>rw[z]at d;cases d
     rw[g,Tq rfl];simp
   · rw[on h]
     have:¬ k=j:=λz=>h z.symm
     simp[this]
theorem sS{F:DI X}{k j:List Int}:(F.del k).get j=if j=k then none else F.get j:=by
 unfold DI.del DI.get
 induction F with
 |nil=>split<;>rfl
 |cons p F c=>
   rw[UH];by_cases b:p.1=k
   · rw[on (by simpa using b),c,UL];by_cases h:j=k
     ·rw[Tq h,Tq h]
     ·have a:¬ p.1=j:=λz=>h (z.symm.trans b);rw[on h,on h];simp only[a,WA]
   · rw[Tq (by simpa using b),UL,UL];by_cases a:p.1=j
     ·have d:¬ j=k:=λz=>b (a.trans z);simp only[a,decide_true,on d]
     ·simp only[a,WA];exact c
end
open PySem.Spec (countIn same sameAll)
theorem lq{W:Type}{f:W->D}{g:W->PyData}(h:∀a,toPy (f a)=some (g a)):∀l:List W,toPys (l.map f)=some (l.map g)
 |[]=>rfl
 |a::l=>by rw[Tr,toPys,h a,lq h l];rfl
theorem lu{W:Type}{f:W->D}{g:W->PyData}(h:∀a,toPy (f a)=some (g a))(l:List W):toPy (.lst (l.map f))=some (.list (l.map g)):=by
 rw[toPy,lq h];rfl
theorem wE{W:Type}{g:W->PyData}(h:∀a,(g a).canLay0=true)(f:∀a,(g a).depth<=60)(l:List W):SeqAt.shaped (.list (l.map g))=true:=by
 have c:∀l:List W,PyData.canLayAll0 (l.map g)=true:=by
  intro l
  induction l with
  |nil=>simp[PyData.canLayAll0]
  |cons a l b=>simp[PyData.canLayAll0,h a,b]
 have d:∀l:List W,PyData.depthAll (l.map g)<=60:=by
  intro l
  induction l with
  |nil=>simp[PyData.depthAll]
  |cons a l b=>
    rw[Tr,PyData.depthAll]
    have:=f a
    omega
 have e:PyData.depth (.list (l.map g))<=64:=by rw[PyData.depth];have:=d l;omega
 unfold SeqAt.shaped;rw[Bool.and_eq_true];exact⟨by rw[PyData.canLay0];exact c l,decide_eq_true e⟩
theorem mL{W:Type}[DecidableEq W]{g:W->PyData}(h:∀a b,same (g a) (g b)=decide (a=b))(a:W):∀l:List W,(0<=countIn (g a) (l.map g))/\(countIn (g a) (l.map g)≠0↔a∈l)
 |[]=>by simp[countIn]
 | b::l=>by
   obtain⟨d,c⟩:=mL h a l;rw[Tr,countIn,h b a,Tz];by_cases e:b=a
   ·rw[Tq (by simpa using e)];exact⟨by omega,λ_=>.inl e.symm,λ_=>by omega⟩
   · rw[on (by simpa using e)];refine⟨by omega,λz=>.inr (c.mp (by omega)),λz=>?_⟩;rcases z with z|z
     ·exact absurd z.symm e
     ·have:=c.mpr z;omega
section
variable{W:Type}[DecidableEq W]{f:W->D}{g:W->PyData}
theorem HM(h0:∀a,toPy (f a)=some (g a))(i:∀a,(g a).canLay0=true)(h:∀a,(g a).depth<=60)(k:∀a b,same (g a) (g b)=decide (a=b))(j:∀a b,SeqAt.noMix (g a) (g b)=true)(a:W)(l:List W):
 J8 (f a) (.lst (l.map f))=.ok (.bl (decide (a∈l)))/\Qa (f a) (.lst (l.map f))=.ok (.bl (!decide (a∈l))):=by
 have e:SeqAt.shaped (g a)=true:=by
  unfold SeqAt.shaped;rw[i a,Bool.true_and];exact decide_eq_true (by have:=h a;omega)
 have s2:=wE i h l
 have d:((l.map g).all λz=>SeqAt.noMix z (g a))=true:=by
  rw[WB,UY];exact λb _=>j b a
 have c:decide (countIn (g a) (l.map g)≠0)=decide (a∈l):=by
  have:=(mL k a l).2
  by_cases z:a∈l
  ·rw[UO z,UO (this.mpr z)]
  ·rw[Uo z,Uo (λw=>z (this.mp w))]
 constructor
 ·unfold J8;rw[h0 a,lu h0 l];show(if _ then _ else _)=_;rw[if_pos ⟨e,s2,d⟩,c]
 ·unfold Qa;rw[h0 a,lu h0 l];show(if _ then _ else _)=_;rw[if_pos ⟨e,s2,d⟩,c]
end
end Mi
namespace Cl
open PySem L2 Mi
inductive OutC (Z W:Type) where
 |ok (a:W) (s:Z)|exc (c:Nat) (s:Z)|bad
inductive FlC (Z X:Type) where
 |nx (s:Z)|rt (b:X) (s:Z)|bk (s:Z)|ct (s:Z)|exc (c:Nat) (s:Z)|bad
def SimR{W S:Type}(e:W->S)(r:Res S)(q:Res W):Prop:=match q with
 |.ok a=>r=.ok (e a)
 |.exc x=>r=.exc x
 |.bad=>True
section
variable{Z W X S L:Type}{rep:Z->L4}
def SimO(rep:Z->L4)(e:W->S)(r:Out S)(q:OutC Z W):Prop:=match q with
 |.ok a s=>r=.ok (e a) (rep s)
 |.exc x s=>r=.exc x (rep s)
 |.bad=>True
def SimS(rep:Z->L4)(e:X->D)(r:SO)(q:FlC Z X):Prop:=match q with
 |.nx s=>r=.nx (rep s)
 |.rt b s=>r=.rt (e b) (rep s)
 |.bk s=>r=.bk (rep s)
 |.ct s=>r=.ct (rep s)
 |.exc x s=>r=.exc x (rep s)
 |.bad=>True
def EJ(rep:Z->L4)(e:W->S)(m:L4->Res S)(c:Z->Res W):Prop:=∀s,SimR e (m (rep s)) (c s)
def NJ(rep:Z->L4)(e:W->S)(m:L4->Out S)(c:Z->OutC Z W):Prop:=∀s,SimO rep e (m (rep s)) (c s)
def TJ(rep:Z->L4)(e:X->D)(m:L4->SO)(c:Z->FlC Z X):Prop:=∀s,SimS rep e (m (rep s)) (c s)
theorem SimR.bnd{e:W->S}{b:X->L}{r:Res S}{q:Res W}{k:S->Res L}{l:W->Res X}(h:SimR e r q)(c:∀a,SimR b (k (e a)) (l a)):SimR b (r.bind k) (q.bind l):=by
 cases q with
 |ok a=>rw[show r=_ from h];exact c a
 |exc x=>rw[show r=_ from h];exact rfl
 |bad=>trivial
@[elab_as_elim] theorem SimR.el{e:W->S}{r:Res S}{q:Res W}{P:Res S->Res W->Prop}(h:SimR e r q)(ok:∀a,P (.ok (e a)) (.ok a))(exc:∀x,P (.exc x) (.exc x))(bad:∀r,P r .bad):P r q:=by
 cases q with
 |ok a=>rw[show r=_ from h];exact ok a
 |exc x=>rw[show r=_ from h];exact exc x
 |bad=>exact bad r
theorem SimR.calm{e:W->S}{r:Res S}{q:Res W}(h:SimR e r q):SimR e r.calm q.calm:=by
 cases q with
 |ok a=>rw[show r=_ from h];exact rfl
 |exc x=>trivial
 |bad=>trivial
@[simp] def vC(g:Z->Option W):Z->Res W:=λs=>match g s with|some a=>.ok a|none=>.bad
@[simp] def pC(g:Z->W):Z->Res W:=λs=>.ok (g s)
@[simp] def kC(a:W):Z->Res W:=λ_=>.ok a
@[simp] def bF(f:W->Res X)(c:Z->Res W):Z->Res X:=λs=>(c s).bind f
@[simp] def bx(f:W->X->Res S)(a:Z->Res W)(b:Z->Res X):Z->Res S:=λs=>(a s).bind λx=>(b s).bind λy=>f x y
theorem Nt{e:W->D}{i:Nat}{g:Z->Option W}(h:∀s,rg (rep s) i=(g s).map e):EJ rep e (vr i) (vC g):=λs=>by
 unfold vC vr;rw[h s];cases g s with
 |none=>trivial
 |some a=>exact rfl
theorem Nx{e:W->D}{i:Nat}{g:Z->W}(h:∀s,rg (rep s) i=some (e (g s))):EJ rep e (vr i) (pC g):=λs=>by
 unfold vr pC;rw[h s];exact rfl
theorem Fl{e:W->D}{d:D}{a:W}(h:e a=d):EJ rep e (aW d) (kC a):=λs=>by subst h;exact rfl
theorem bq{e:W->D}{b:X->D}{F:D->Res D}{f:W->Res X}{m:L4->Res D}{c:Z->Res W}(h:∀a,SimR b (F (e a)) (f a))(d:EJ rep e m c):EJ rep b (un F m) (bF f c):=λs=>(d s).bnd h
theorem ak{e:W->D}{e1:X->D}{d:S->D}{F:D->D->Res D}{f:W->X->Res S}{m n:L4->Res D}{c:Z->Res W}{g:Z->Res X}(h:∀a b,SimR d (F (e a) (e1 b)) (f a b))(j:EJ rep e m c)(i:EJ rep e1 n g):EJ rep d (bn F m n) (bx f c g):=λs=>(j s).bnd λa=>(i s).bnd λb=>h a b
theorem cH{e:W->D}{d:X->D}{m:L4->Res D}{c:Z->Res W}{f:W->Res X}(h:∀a,SimR d (.ok (e a)) (f a))(b:EJ rep e m c):EJ rep d m (bF f c):=λs=>by
 have b:=b s;unfold bF;cases q:c s with
 |ok a=>rw[q]at b;rw[show m (rep s)=_ from b];exact h a
 |exc x=>rw[q]at b;exact b
 |bad=>trivial
def eN:Unit->D:=λ_=>.non
def eL(e:W->D):List W->D:=λxs=>.lst (xs.map e)
def eS:List Int->D:=λxs=>.scr (xs.map D.int)
def pw(e:W->D):List W->D:=λxs=>.tup (xs.map e)
def Ia(e:W->D)(a:X->D):W×X->D:=λp=>.tup [e p.1,a p.2]
def rA(e:W->D)(b:X->D)(a:S->D):W×X×S->D:=λp=>.tup [e p.1,b p.2.1,a p.2.2]
def eO(e:W->D):Option W->D:=λo=>match o with|none=>.non|some a=>e a
abbrev eK:Int×Int×List Int->D:=rA D.int D.int (eL D.int)
@[simp] def wU(o:Option W):Res W:=match o with|some a=>.ok a|none=>.bad
@[simp] def yw(a:W):Res (Option W):=.ok (some a)
@[simp] def Sv(a:W):Res W:=.ok a
theorem jt{e:W->D}(o:Option W):SimR e (.ok (eO e o)) (wU o):=by cases o<;>trivial
theorem yh{e:W->D}(a:W):SimR (eO e) (.ok (e a)) (yw a):=rfl
theorem Kh{e:W->D}{F:(L4->Res D)->L4->Res D}{m:L4->Res D}{c:Z->Res W}(hF:∀T a,m T=.ok (e a)->F m T=.ok (e a))(b:∀T x,m T=.exc x->F m T=.exc x)(h:EJ rep e m c):EJ rep e (F m) c:=λs=>by
 have h:=h s;cases q:c s with
 |ok a=>rw[q]at h;exact hF _ _ h
 |exc x=>rw[q]at h;exact b _ _ h
 |bad=>trivial
theorem g8{e:W->D}{m:L4->Res D}{c:Z->Res W}(b:∀a,bv (e a)=true)(h:EJ rep e m c):EJ rep e (yx m) c:=
 Kh (F:=yx) (λT a q=>by unfold yx;rw[q];show(if _ then _ else _)=_;rw[if_pos (b a)]) (λT x q=>by unfold yx;rw[q];rfl) h
theorem xJ{e:W->D}{m:L4->Res D}{c:Z->Res W}(b:∀a,nQ (e a)=true)(h:EJ rep e m c):EJ rep e (v7 m) c:=
 Kh (F:=v7) (λT a q=>by unfold v7;rw[q];show(if _ then _ else _)=_;rw[if_pos (b a)]) (λT x q=>by unfold v7;rw[q];rfl) h
theorem wp{e:W->D}(h:∀a,bv (e a)=true)(xs:List W):(xs.map e).all bv=true:=by
 rw[WB,UY];exact λa _=>h a
theorem Ck{e:W->D}(h:∀a,bv (e a)=true)(xs:List W):nQ (eL e xs)=true:=wp h xs
theorem KS(xs:List Int):nQ (eS xs)=true:=wp (λ_=>rfl) xs
theorem KU{e:W->D}(h:∀a,nQ (e a)=true)(o:Option W):nQ (eO e o)=true:=by
 cases o with
 |none=>rfl
 |some a=>exact h a
theorem E5{e:W->D}(h:∀a,bv (e a)=true)(o:Option W):bv (eO e o)=true:=by
 cases o with
 |none=>rfl
 |some a=>exact h a
@[simp] def uk(a b:Int):Res Int:=.ok (a+b)
@[simp] def KG(a b:Int):Res Int:=.ok (a-b)
@[simp] def My(a b:Int):Res Int:=if (-(2 ^ 64)<a/\a<2 ^ 64)\/(-(2 ^ 64)<b/\b<2 ^ 64) then .ok (a*b) else .bad
@[simp] def pe(a b:Int):Res Int:=if 0<b/\b<1073741824 then .ok (a / b) else .bad
@[simp] def mW(a b:Int):Res Int:=if 0<b then .ok (a%b) else .bad
@[simp] def OP(a b:Int):Res Int:=if 0<=b then .ok (a / 2 ^ b.toNat) else .bad
@[simp] def uX(a b:Int):Res Int:=.ok (if b<a then b else a)
@[simp] def u4(a b:Int):Res Int:=.ok (if b>a then b else a)
@[simp] def QK(a b:Int):Res Bool:=.ok (decide (a<b))
@[simp] def S0(a b:Int):Res Bool:=.ok (decide (b<a))
@[simp] def S3(a b:Int):Res Bool:=.ok (decide (b<=a))
@[simp] def Mx(a:Int):Res Int:=.ok (-a)
@[simp] def Hn(a:Bool):Res Bool:=.ok (!a)
@[simp] def gQ[DecidableEq W](neg:Bool)(a b:W):Res Bool:=.ok (neg.xor (decide (a=b)))
theorem oz(a b:Int):SimR D.int (qt (.int a) (.int b)) (uk a b):=rfl
theorem Jr(a b:Int):SimR D.int (B9 (.int a) (.int b)) (KG a b):=rfl
theorem SimR.ite{e:W->S}{p:Prop}[Decidable p]{r a:Res S}{q b:Res W}(h:SimR e r q)(h':SimR e a b):SimR e (if p then r else a) (if p then q else b):=by
 by_cases z:p
 ·rw[Tq z,Tq z];exact h
 ·rw[on z,on z];exact h'
theorem Jt(a b:Int):SimR D.int (AM (.int a) (.int b)) (My a b):=by rw[DT];exact SimR.ite rfl trivial
theorem lF(a b:Int):SimR D.int (jz (.int a) (.int b)) (pe a b):=by rw[Bc];exact SimR.ite rfl trivial
theorem iQ(a b:Int):SimR D.int (jH (.int a) (.int b)) (mW a b):=by rw[D7];exact SimR.ite rfl trivial
theorem PP(a b:Int):SimR D.int (Cj (.int a) (.int b)) (OP a b):=by rw[Ci];exact SimR.ite rfl trivial
theorem ot(a b:Int):SimR D.int (ql (.int a) (.int b)) (uX a b):=rfl
theorem ou(a b:Int):SimR D.int (qm (.int a) (.int b)) (u4 a b):=rfl
theorem Hj(a b:Int):SimR D.bl (HF (.int a) (.int b)) (QK a b):=rfl
theorem PY(a b:Int):SimR D.bl (No (.int a) (.int b)) (S0 a b):=rfl
theorem PZ(a b:Int):SimR D.bl (QW (.int a) (.int b)) (S3 a b):=rfl
theorem Js(a:Int):SimR D.int (Ho (.int a)) (Mx a):=rfl
theorem PV(a:Bool):SimR D.bl (Mt (.bl a)) (Hn a):=rfl
theorem dg(neg:Bool)(a b:Int):SimR D.bl (jq neg (.int a) (.int b)) (gQ neg a b):=rfl
theorem l5(neg:Bool)(a b:Str):SimR D.bl (jq neg (.str a) (.str b)) (gQ neg a b):=rfl
@[simp] def E4(neg:Bool)(f:W->Bool)(a:W):Res Bool:=.ok (neg.xor (f a))
theorem tq{e:W->D}{m:L4->Res D}{c:Z->Res W}{neg:Bool}{f:W->Bool}(h:∀a,oZ (e a)=f a)(b:EJ rep e m c):EJ rep D.bl (bn (vd neg) m (aW .non)) (bF (E4 neg f) c):=λs=>(b s).bnd λa=>by
 show vd neg (e a) .non=.ok (.bl (neg.xor (f a)));rw[<-h a];rfl
@[simp] def DQ(o:Option W):Bool:=o.isNone
theorem zg{e:W->D}(h:∀a,oZ (e a)=false)(o:Option W):oZ (eO e o)=DQ o:=by
 cases o with
 |none=>rfl
 |some a=>exact h a
theorem aJ{m:L4->Res D}{c:Z->Res Bool}(h:EJ rep D.bl m c):EJ rep (id:Bool->Bool) (di m) c:=λs=>by
 have h:=h s;cases q:c s with
 |ok a=>rw[q]at h;have h:m (rep s)=.ok (.bl a):=h;show di m (rep s)=.ok a;unfold di;rw[h];rfl
 |exc x=>rw[q]at h;have h:m (rep s)=.exc x:=h;show di m (rep s)=.exc x;unfold di;rw[h];rfl
 |bad=>trivial
@[simp] def p5(a b:Z->Res Bool):Z->Res Bool:=λs=>(a s).bind λc=>if c=true then b s else .ok false
@[simp] def Ou(a b:Z->Res Bool):Z->Res Bool:=λs=>(a s).bind λc=>if c=true then .ok true else b s
theorem eB{a b:L4->Res Bool}{c d:Z->Res Bool}(f:EJ rep (id:Bool->Bool) a c)(e:EJ rep (id:Bool->Bool) b d):EJ rep (id:Bool->Bool) (na a b) (p5 c d):=λs=>(f s).bnd λt=>SimR.ite (e s) rfl
theorem pq{a b:L4->Res Bool}{c d:Z->Res Bool}(f:EJ rep (id:Bool->Bool) a c)(e:EJ rep (id:Bool->Bool) b d):EJ rep (id:Bool->Bool) (BE a b) (Ou c d):=λs=>(f s).bnd λt=>SimR.ite rfl (e s)
theorem HZ{a:L4->Res Bool}{c:Z->Res Bool}(b:EJ rep (id:Bool->Bool) a c):EJ rep (id:Bool->Bool) (Ms a) (bF Hn c):=λs=>(b s).bnd λt=>rfl
structure Dat (e:W->D) [DecidableEq W] where
 py:W->PyData
 dep:Nat
 h0:∀a,toPy (e a)=some (py a)
 lay:∀a,(py a).canLay0=true
 depth:∀a,(py a).depth<=dep
 eqv:∀a b,PyData.eqv (py a) (py b)=decide (a=b)
 nomix:∀a b,SeqAt.noMix (py a) (py b)=true
theorem Dat.same{e:W->D}[DecidableEq W](A:Dat e)(a b:W):PySem.Spec.same (A.py a) (A.py b)=decide (a=b):=by rw[<-A.eqv,SeqAt.same_eq_eqv _ _ (A.nomix a b)]
theorem Dat.shp{e:W->D}[DecidableEq W](A:Dat e)(hd:A.dep<=64)(a:W):SeqAt.shaped (A.py a)=true:=by
 unfold SeqAt.shaped;rw[A.lay a,Bool.true_and];exact decide_eq_true (Nat.le_trans (A.depth a) hd)
theorem uP{e:W->D}[DecidableEq W](A:Dat e)(hd:A.dep<=64)(neg:Bool)(a b:W):SimR D.bl (Gm neg (e a) (e b)) (gQ neg a b):=by
 show Gm neg (e a) (e b)=.ok (.bl (neg.xor (decide (a=b))));unfold Gm;rw[A.h0,A.h0];show(if _ then _ else _)=_;rw[if_pos ⟨A.shp hd a,A.shp hd b⟩,A.eqv]
@[simp] def SX[DecidableEq W](neg:Bool)(a:W)(l:List W):Res Bool:=.ok (neg.xor (decide (a∈l)))
theorem Ju{e:W->D}[DecidableEq W](A:Dat e)(hd:A.dep<=60)(a:W)(l:List W):SimR D.bl (J8 (e a) (eL e l)) (SX false a l):=by
 have:=(HM A.h0 A.lay (λa=>Uk (A.depth a) hd) A.same A.nomix a l).1
 show J8 (e a) (.lst (l.map e))=.ok (.bl (false.xor (decide (a∈l))));rw[this,Bool.false_xor]
def gi:Dat D.int:=⟨PyData.int,1,λ_=>rfl,λa=>by simp[PyData.canLay0],λa=>by simp[PyData.depth],λa b=>by simp only[PyData.eqv];exact Vx _ _,λa b=>by simp[SeqAt.noMix]⟩
def Q7:Dat D.bl:=⟨PyData.bool,1,λ_=>rfl,λa=>by simp[PyData.canLay0],λa=>by simp[PyData.depth],λa b=>by simp only[PyData.eqv];exact Vx _ _,λa b=>by simp[SeqAt.noMix]⟩
theorem pp{g:W->PyData}[DecidableEq W](h:∀a b,PyData.eqv (g a) (g b)=decide (a=b)):∀t u:List W,PyData.eqvAll (t.map g) (u.map g)=decide (t=u)
 |[],[]=>by simp[PyData.eqvAll]
 |[],_::_=>by simp[PyData.eqvAll]
 |_::_,[]=>by simp[PyData.eqvAll]
 | r::t,q::u=>by
   rw[Tr,Tr,PyData.eqvAll,h,pp h t u];by_cases d:r=q<;>by_cases c:t=u<;>simp[d,c]
end
section
variable{Z W X S L:Type}{rep:Z->L4}
theorem km{g:W->PyData}(h:∀a b,SeqAt.noMix (g a) (g b)=true):∀t u:List W,SeqAt.noMixAll (t.map g) (u.map g)=true
 |[],[]=>by simp[SeqAt.noMixAll]
 |[],_::_=>by simp[SeqAt.noMixAll]
 |_::_,[]=>by simp[SeqAt.noMixAll]
 |r::t,q::u=>by rw[Tr,Tr,SeqAt.noMixAll,h,km h t u];rfl
theorem oV{g:W->PyData}(h:∀a,(g a).canLay0=true):∀l:List W,PyData.canLayAll0 (l.map g)=true
 |[]=>by simp[PyData.canLayAll0]
 |a::l=>by simp[PyData.canLayAll0,h a,oV h l]
theorem kO{g:W->PyData}{n:Nat}(h:∀a,(g a).depth<=n):∀l:List W,PyData.depthAll (l.map g)<=n
 |[]=>by simp[PyData.depthAll]
 |a::l=>by rw[Tr,PyData.depthAll];have:=h a;have:=kO h l;omega
def i4{e:W->D}[DecidableEq W](A:Dat e):Dat (eL e):=⟨λl=>.list (l.map A.py),A.dep+1,λl=>lu A.h0 l,λl=>by rw[PyData.canLay0];exact oV A.lay l,λl=>by rw[PyData.depth];have:=kO A.depth l;omega,λa b=>by rw[PyData.eqv];exact pp A.eqv a b,λa b=>by rw[SeqAt.noMix];exact km A.nomix a b⟩
def xL{e:W->D}{c:X->D}[DecidableEq W][DecidableEq X](A:Dat e)(B:Dat c):Dat (Ia e c):=⟨λp=>.tuple [A.py p.1,B.py p.2],A.dep+B.dep+1,λp=>by
 show(toPys [e p.1,c p.2]).map PyData.tuple=_;rw[toPys,toPys,toPys,A.h0,B.h0];rfl,λp=>by rw[PyData.canLay0];simp[PyData.canLayAll0,A.lay,B.lay],λp=>by
 rw[PyData.depth];simp only[PyData.depthAll];have:=A.depth p.1;have:=B.depth p.2;omega,λa b=>by
 rw[PyData.eqv];simp only[PyData.eqvAll,A.eqv,B.eqv];obtain⟨j,i⟩:=a;obtain⟨h,g⟩:=b
 by_cases f:j=h<;>by_cases d:i=g<;>simp[f,d],λa b=>by rw[SeqAt.noMix];simp[SeqAt.noMixAll,A.nomix,B.nomix]⟩
theorem kK{d:PyData}(h:d≠ .none):PyData.eqv .none d=false/\PyData.eqv d .none=false/\SeqAt.noMix .none d=true/\SeqAt.noMix d .none=true:=by
 cases d with
 |none=>exact absurd rfl h
 |_=>simp[PyData.eqv,SeqAt.noMix]
def vB{e:W->D}[DecidableEq W](A:Dat e)(F:∀a,A.py a≠ .none):Dat (eO e):=⟨λo=>match o with|none=>.none|some a=>A.py a,A.dep+1,λo=>by
 cases o with
 |none=>rfl
 |some a=>exact A.h0 a,λo=>by
 cases o with
 |none=>simp[PyData.canLay0]
 |some a=>exact A.lay a,λo=>by
 cases o with
 |none=>simp[PyData.depth]
 |some a=>exact Wl (A.depth a),λa b=>by
 cases a with
 |none=>
   cases b with
   |none=>simp[PyData.eqv]
   |some b=>exact(kK (F b)).1.trans (by simp)
 |some a=>
   cases b with
   |none=>exact(kK (F a)).2.1.trans (by simp)
   |some b=>exact(A.eqv a b).trans (by simp),λa b=>by
 cases a with
 |none=>
   cases b with
   |none=>simp[SeqAt.noMix]
   |some b=>exact(kK (F b)).2.2.1
 |some a=>
   cases b with
   |none=>exact(kK (F a)).2.2.2
   |some b=>exact A.nomix a b⟩
theorem i3{e:W->D}[DecidableEq W](A:Dat e)(a:List W):(i4 A).py a≠ .none:=λh=>PyData.noConfusion (show PyData.list (a.map A.py)=.none from h)
@[simp] def DP(_:Unit):Res (Option W):=.ok none
theorem Aa{e:W->D}(u:Unit):SimR (eO e) (.ok (eN u)) (DP u):=rfl
@[simp] def jF:Z->Res (List W):=λ_=>.ok []
@[simp] def cP(a:Z->Res W)(r:Z->Res (List W)):Z->Res (List W):=λs=>(a s).bind λx=>(r s).bind λxs=>.ok (x::xs)
theorem dN{e:W->D}:EJ rep (List.map e) bj (jF:Z->Res (List W)):=λs=>rfl
theorem bJ{e:W->D}{m:L4->Res D}{n:L4->Res (List D)}{c:Z->Res W}{d:Z->Res (List W)}(g:EJ rep e m c)(f:EJ rep (List.map e) n d):EJ rep (List.map e) (aE m n) (cP c d):=λs=>(g s).bnd λa=>(f s).bnd λb=>rfl
@[simp] def wY(c:Z->Res (List W)):Z->Res (List W):=λs=>(c s).bind λxs=>if xs.length<=ao then .ok xs else .bad
theorem dO{e:W->D}{m:L4->Res (List D)}{c:Z->Res (List W)}(h:EJ rep (List.map e) m c):EJ rep (eL e) (nj m) (wY c):=λs=>(h s).bnd λxs=>by rw[Tv];exact SimR.ite rfl trivial
@[simp] def gw(a:Z->Res W)(b:Z->Res X):Z->Res (W×X):=λs=>(a s).bind λx=>(b s).bind λy=>.ok (x,y)
@[simp] def oU(xs:List W):Res Int:=.ok xs.length
theorem iR{e:W->D}(xs:List W):SimR D.int (mX (eL e xs)) (oU xs):=by show Res.ok (D.int _)=Res.ok (D.int _);rw[Tv]
theorem Mq(xs:List Int):SimR D.int (mX (eS xs)) (oU xs):=by show Res.ok (D.int _)=Res.ok (D.int _);rw[Tv]
theorem Io{e:W->S}(xs:List W)(i:Int):lp (xs.map e) i=(lp xs i).map e:=by
 unfold lp;rw[List.length_map];cases qc xs.length i with
 |none=>rfl
 |some j=>simp only[Option.bind_some,Ue]
@[simp] def sP(xs:List W)(i:Int):Res W:=match lp xs i with|some a=>.ok a|none=>.bad
theorem yg{e:W->D}(xs:List W)(i:Int):SimR e (Ip (xs.map e) i) (sP xs i):=by
 unfold Ip sP;rw[Io];cases lp xs i<;>trivial
theorem oy{e:W->D}(xs:List W)(i:Int):SimR e (E3 (eL e xs) (.int i)) (sP xs i):=yg xs i
theorem PX(xs:List Int)(i:Int):SimR D.int (E3 (eS xs) (.int i)) (sP xs i):=yg xs i
theorem sD{e:W->D}(xs:List W)(i:Int):SimR e (ze (pw e xs) (.int i)) (sP xs i):=yg xs i
@[simp] def Bb(p:W×X):Res W:=.ok p.1
@[simp] def qO(p:W×X×S):Res X:=.ok p.2.1
@[simp] def OD(p:W×X×S):Res S:=.ok p.2.2
theorem rs{e:W->D}{b:X->D}{F:D->D->Res D}{f:W->Res X}{k:D}{m:L4->Res D}{c:Z->Res W}(h:∀a,SimR b (F (e a) k) (f a))(d:EJ rep e m c):EJ rep b (bn F m (aW k)) (bF f c):=λs=>(d s).bnd λa=>h a
theorem PU{e:W->D}{b:X->D}{a:S->D}(p:W×X×S):SimR e (ze (rA e b a p) (.int 0)) (Bb p):=rfl
theorem PR{e:W->D}{b:X->D}{a:S->D}(p:W×X×S):SimR b (ze (rA e b a p) (.int 1)) (qO p):=rfl
theorem SG{e:W->D}{b:X->D}{a:S->D}(p:W×X×S):SimR a (ze (rA e b a p) (.int 2)) (OD p):=rfl
@[simp] def Ij(xs a:List W):Res (List W):=if xs.length+a.length<=ao then .ok (xs++a) else .bad
theorem Jv{e:W->D}(xs a:List W):SimR (eL e) (F5 (eL e xs) (eL e a)) (Ij xs a):=by
 show SimR (eL e) (if (xs.map e).length+(a.map e).length<=ao then .ok (.lst (xs.map e++a.map e)) else .bad) (Ij xs a);rw[Tv,Tv];exact SimR.ite (by show Res.ok (D.lst _)=Res.ok (D.lst _);rw[Uj]) trivial
theorem Mp{e:W->D}(xs:List W):SimR (eL e) (sL (eL e xs)) (Sv xs):=rfl
theorem PN{e:W->D}(xs:List W):SimR (pw e) (Kx (eL e xs)) (Sv xs):=rfl
noncomputable def GY(xs:List W)(k:Int):Res (List W):=@ite _ ((0<=k/\k<=1000000)/\xs.length*k.toNat<=ao) (Classical.propDecidable _) (.ok (List.replicate k.toNat xs).flatten) .bad
theorem C2{xs:List W}{k:Int}(h0:0<=k)(b:k<=1000000)(a:xs.length*k.toNat<=ao):GY xs k=.ok (List.replicate k.toNat xs).flatten:=by unfold GY;rw[if_pos ⟨⟨h0,b⟩,a⟩]
theorem y9{e:W->S}(xs:List W):∀k:Nat,(List.replicate k (xs.map e)).flatten=((List.replicate k xs).flatten).map e
 |0=>rfl
 |k+1=>by rw[Ul,Ul,UD,UD,Uj,y9 xs k]
theorem PQ{e:W->D}(xs:List W)(k:Int):SimR (eL e) (wL (eL e xs) (.int k)) (GY xs k):=by
 show SimR _ (if (0<=k/\k<=1000000)/\(xs.map e).length*k.toNat<=ao then Res.ok (D.lst (List.replicate k.toNat (xs.map e)).flatten) else Res.bad) _;rw[Tv,y9];by_cases h:(0<=k/\k<=1000000)/\xs.length*k.toNat<=ao
 ·rw[Tq h,C2 h.1.1 h.1.2 h.2];rfl
 ·unfold GY;rw[if_neg h,if_neg h];trivial
@[simp] def cN(p:W×W):Res (List W):=.ok [p.1,p.2]
theorem bP{e:W->D}(p:W×W):SimR (pw e) (.ok (Ia e e p)) (cN p):=rfl
@[simp] def vt(neg:Bool)(k:List Int)(F:DI X):Res Bool:=.ok (neg.xor (F.get k).isSome)
@[simp] def Sz(F:DI X)(k:List Int):Res X:=match F.get k with|some b=>.ok b|none=>.bad
@[simp] def S6(F:DI X)(k:List Int)(x:X):Res X:=.ok ((F.get k).getD x)
@[simp] def Q6(F:DI X)(k:List Int):Res (Option X):=.ok (F.get k)
theorem uQ{e:X->D}(neg:Bool)(k:List Int)(F:DI X):SimR D.bl (m8 neg (pw D.int k) (bR e F)) (vt neg k F):=by
 show m8 neg (.tup (k.map D.int)) (bR e F)=.ok (.bl (neg.xor (F.get k).isSome));unfold m8;rw[gK];simp
theorem Mr{e:X->D}(F:DI X)(k:List Int):SimR e (rH (bR e F) (pw D.int k)) (Sz F k):=by
 show SimR e (rH (bR e F) (.tup (k.map D.int))) _;unfold rH Sz;rw[gK];cases F.get k<;>trivial
@[simp] def Kf(a:Z->Res (DI X))(ck:Z->Res (List Int))(cx:Z->Res X):Z->Res X:=λs=>(a s).bind λF=>(ck s).bind λk=>(cx s).bind λx=>S6 F k x
theorem H8{e:X->D}{b mk a:L4->Res D}{c:Z->Res (DI X)}{ck:Z->Res (List Int)}{cx:Z->Res X}(g:EJ rep (bR e) b c)(f:EJ rep (pw D.int) mk ck)(d:EJ rep e a cx):
 EJ rep e (Fd b mk a) (Kf c ck cx):=λs=>(g s).bnd λF=>by
 show SimR e (if true=true then _ else _) _;rw[if_pos rfl];refine(f s).bnd λk=>(d s).bnd λx=>?_;show gu (bR e F) (.tup (k.map D.int)) (e x)=.ok (e ((F.get k).getD x));unfold gu;rw[gK];cases F.get k<;>rfl
theorem H9{e:X->D}{a mk:L4->Res D}{b:Z->Res (DI X)}{ck:Z->Res (List Int)}(d:EJ rep (bR e) a b)(c:EJ rep (pw D.int) mk ck):EJ rep (eO e) (rh a mk) (bx Q6 b ck):=λs=>(d s).bnd λF=>by
 show SimR (eO e) (if true=true then _ else _) _;rw[if_pos rfl];refine(c s).bnd λk=>?_;show gu (bR e F) (.tup (k.map D.int)) .non=.ok (eO e (F.get k));unfold gu;rw[gK];cases F.get k<;>rfl
@[simp] def EZ(F:DI X):Res (List (List Int)):=.ok (F.map (·.1))
@[simp] def EO(xs:List Int)(d:Int):Res Int:=.ok (match xs with | []=>d|x::r=>cX r x)
@[simp] def JY(xs:List Int)(d:Int):Res Int:=.ok (match xs with | []=>d|x::r=>f9 r x)
theorem dZ:∀l:List Int,cu (l.map D.int)=some l
 |[]=>rfl
 |x::l=>by rw[Tr,cu,dZ l];rfl
theorem Hk(xs:List Int)(d:Int):SimR D.int (pf cX (eL D.int xs) (.int d)) (EO xs d):=by
 show pf cX (.lst (xs.map D.int)) (.int d)=_;unfold pf;dsimp only;rw[dZ];cases xs<;>rfl
theorem Mm(xs:List Int)(d:Int):SimR D.int (pf f9 (eL D.int xs) (.int d)) (JY xs d):=by
 show pf f9 (.lst (xs.map D.int)) (.int d)=_;unfold pf;dsimp only;rw[dZ];cases xs<;>rfl
@[simp] def sN(xs:List Int):Res Int:=if xs.length<4000 then .ok (dd xs).length else .bad
theorem DN(xs:List Int):SimR D.int (oT (eL D.int xs)) (sN xs):=by
 show SimR D.int (oT (.lst (xs.map D.int))) _;unfold oT sN;dsimp only;rw[dZ];exact SimR.ite rfl trivial
theorem mP:∀l:List Bool,il (l.map D.bl)=some l
 |[]=>rfl
 |x::l=>by rw[Tr,il,mP l];rfl
@[simp] def RW(xs:List Bool):Res Bool:=.ok (xs.any id)
theorem P5(xs:List Bool):SimR D.bl (uj (eL D.bl xs)) (RW xs):=by
 show uj (.lst (xs.map D.bl))=_;unfold uj;dsimp only;rw[mP]
theorem E1(k:Int×Int×List Int):va (eK k)=some k:=by
 show(cu (k.2.2.map D.int)).map (λns=>(k.1,k.2.1,ns))=some k;rw[dZ];rfl
theorem qV:∀l:List (Int×Int×List Int),gJ (l.map eK)=some l
 |[]=>rfl
 |k::l=>by rw[Tr,gJ,E1,qV l]
def sI:List (Int×Int×List Int)->Option (Int×Int×List Int)
 |[]=>none
 |k::r=>some (r.foldl (λb x=>if eI x b=true then x else b) k)
theorem lS(a:Nat->Nat->Bool)(n:Nat):PySem.argBest a (n+1)=if a (n+1) (PySem.argBest a n)=true then n+1 else PySem.argBest a n:=rfl
theorem ug:∀(n:Nat) (k:Int×Int×List Int) (r:List (Int×Int×List Int)),r.length=n->
 (k::r)[PySem.argBest (λi j=>eI ((k::r).getD i (0,0,[])) ((k::r).getD j (0,0,[]))) n]?=sI (k::r):=by
 intro n
 induction n with
 |zero=>
   intro k r h
   have:r=[]:=Uh.mp h
   subst this;rfl
 |succ n l=>
   intro k r h
   obtain⟨q,x,rfl⟩:∃q x,r=q++[x]:=by
    rcases List.eq_nil_or_concat r with z|⟨q,x,z⟩
    ·subst z;cases h
    ·exact⟨q,x,by rw[z,List.concat_eq_append]⟩
   have e:q.length=n:=by simpa using h
   have a:=l k q e
   have g:∀i,i<=n->(k::(q++[x])).getD i (0,0,[])=(k::q).getD i (0,0,[]):=λi hi=>by
    rw[<-VE,TR,TR,UB (by simp;omega)]
   have ab:∀m,m<=n->PySem.argBest (λi j=>eI ((k::(q++[x])).getD i (0,0,[])) ((k::(q++[x])).getD j (0,0,[]))) m=PySem.argBest (λi j=>eI ((k::q).getD i (0,0,[])) ((k::q).getD j (0,0,[]))) m:=by
    intro m
    induction m with
    |zero=>intro _;rfl
    |succ m d=>
      intro o;rw[lS,lS,d (by omega)];have f:=jY (λi j=>eI ((k::q).getD i (0,0,[])) ((k::q).getD j (0,0,[]))) m;rw[g (m+1) o,g _ (by omega)]
   rw[lS,ab n (TM _)];have f:=jY (λi j=>eI ((k::q).getD i (0,0,[])) ((k::q).getD j (0,0,[]))) n;generalize PySem.argBest (λi j=>eI ((k::q).getD i (0,0,[])) ((k::q).getD j (0,0,[]))) n=b at a f
   have e1:(k::(q++[x])).getD (n+1) (0,0,[])=x:=by
    rw[UU,TR,Uw (by omega),e,V7];rfl
   rw[e1,g b f]
   have c:sI (k::q)=some ((k::q).getD b (0,0,[])):=by
    rw[<-a,TR,TV (by simp;omega)];rfl
   unfold sI at c ⊢;dsimp only at c ⊢;injection c with c
   rw[List.foldl_append,V4,List.foldl_nil,c];by_cases z:eI x ((k::q).getD b (0,0,[]))=true
   ·rw[Tq z,Tq z,Vo,Uw (by omega),e,V7];rfl
   ·rw[on z,on z,<-VE,UB (by simp;omega),TV (by simp;omega),TR,TV (by simp;omega)];rfl
@[simp] def JZ(xs:List (Int×Int×List Int)):Res (Option (Int×Int×List Int)):=.ok (sI xs)
theorem Mn(xs:List (Int×Int×List Int)):SimR (eO eK) (uW (eL eK xs) .non) (JZ xs):=by
 cases xs with
 |nil=>rfl
 |cons k r=>
   have a:gJ (eK k::r.map eK)=some (k::r):=qV (k::r);show uW (.lst (eK k::r.map eK)) .non=.ok (eO eK (sI (k::r)));simp only[uW,a];rw[Tv,show eK k::r.map eK=(k::r).map eK from rfl,Ue,ug _ k r rfl];rfl
end
section
variable{Z σ' W X S L:Type}{rep:Z->L4}{Y:σ'->L4}
def Pe(rep:Z->L4)(e:W->D)(ix:List Nat):W×Z->L4:=λp=>some (e p.1)::d5 (rep p.2) ix
def ia(b:W->Res Bool)(te:W->Res X):List W->Res (List X)
 |[]=>.ok []
 |a::r=>(b a).calm.bind λc=>if c=true then (te a).calm.bind λx=>(ia b te r).bind λxs=>.ok (x::xs) else ia b te r
def fW(src:Z->Res (List W))(b:W×Z->Res Bool)(te:W×Z->Res X):Z->Res (List X):=λs=>(src s).bind λxs=>if xs.length<ao then ia (λa=>b (a,s)) (λa=>te (a,s)) xs else .bad
theorem jr{e:W->D}{h:X->D}{ix:List Nat}{src:L4->Res (List D)}{f:L4->Res Bool}{te:L4->Res D}{b:Z->Res (List W)}{c:W×Z->Res Bool}{d:W×Z->Res X}
 (k:EJ rep (List.map e) src b) (j:EJ (Pe rep e ix) (id:Bool->Bool) f c) (m:EJ (Pe rep e ix) h te d):EJ rep (eL h) (iD src ix f te) (fW b c d):=λs=>(k s).bnd λxs=>by
 rw[Tv];refine SimR.ite ?_ trivial
 have g:∀l:List W,SimR (List.map h) (bD f te (d5 (rep s) ix) (l.map e)) (ia (λa=>c (a,s)) (λa=>d (a,s)) l):=by
  intro l
  induction l with
  |nil=>rfl
  |cons a l i=>
    rw[List.map_cons];unfold bD ia;refine SimR.bnd (j (a,s)).calm λt=>SimR.ite (SimR.bnd (m (a,s)).calm λx=>SimR.bnd i λxs=>?_) i;rfl
 have:=g xs
 exact SimR.el this (λ_=>rfl) (λ_=>rfl) λ_=>trivial
theorem sZ:EJ rep (id:Bool->Bool) (λ_=>.ok true) (λ_=>.ok true):=λs=>rfl
theorem kL{e:W->D}{m:L4->Res D}{c:Z->Res (List W)}(h:EJ rep (eL e) m c):EJ rep (List.map e) (nH m) c:=λs=>by
 have h:=h s;unfold nH;exact SimR.el h (λ_=>rfl) (λ_=>rfl) λ_=>trivial
def dQ(lo hi:Int):List Int:=(List.range (hi-lo).toNat).map λi:Nat=>lo+i
noncomputable def mU(lo hi:Int):Res (List Int):=@ite _ (-(2 ^ 62)<=lo/\lo<2 ^ 62/\-(2 ^ 62)<=hi/\hi<2 ^ 62) (Classical.propDecidable _) (.ok (dQ lo hi)) .bad
theorem GX(lo hi:Int):(dQ lo hi).map D.int=rng lo hi:=by unfold dQ rng;rw[List.map_map];rfl
theorem ka{lo hi:Int}(d:-(2 ^ 62)<=lo)(c:lo<2 ^ 62)(b:-(2 ^ 62)<=hi)(a:hi<2 ^ 62):mU lo hi=.ok (dQ lo hi):=by unfold mU;rw[if_pos ⟨d,c,b,a⟩]
theorem Fk{a b:L4->Res D}{d c:Z->Res Int}(f:EJ rep D.int a d)(e:EJ rep D.int b c):EJ rep (List.map D.int) (Ca a b) (bx mU d c):=λs=>(f s).bnd λi=>(e s).bnd λj=>by
 show SimR _ (if -(2 ^ 62)<=i/\i<2 ^ 62/\-(2 ^ 62)<=j/\j<2 ^ 62 then _ else _) _;by_cases h:-(2 ^ 62)<=i/\i<2 ^ 62/\-(2 ^ 62)<=j/\j<2 ^ 62
 ·rw[Tq h,ka h.1 h.2.1 h.2.2.1 h.2.2.2];exact congrArg Res.ok (GX i j).symm
 ·unfold mU;rw[if_neg h,if_neg h];trivial
theorem nu{b:L4->Res D}{c:Z->Res Int}(d:EJ rep D.int b c):EJ rep (List.map D.int) (iq b) (bF (mU 0) c):=λs=>Fk (Fl (a:=(0:Int)) rfl) d s
def OutC.res:OutC Z W->Res W
 |.ok a _=>.ok a
 |.exc x _=>.exc x
 |.bad=>.bad
@[simp] theorem Lx(a:W)(s:Z):(OutC.ok a s).res=.ok a:=rfl
@[simp] theorem Sk(x:Nat)(s:Z):(OutC.exc x s:OutC Z W).res=.exc x:=rfl
@[simp] theorem Sl:(OutC.bad:OutC Z W).res=.bad:=rfl
@[simp] def bndO(r:Res W)(s:Z)(k:W->OutC Z X):OutC Z X:=match r with
 |.ok a=>k a
 |.exc x=>.exc x s
 |.bad=>.bad
theorem SimO.res{e:W->D}{b:List D->Out D}{ds:List D}{q:OutC Z W}(h:SimO rep e (b ds) q):SimR e (fX b ds) q.res:=by
 unfold fX;cases q with
 |ok a s=>rw[show b ds=_ from h];rfl
 |exc x s=>rw[show b ds=_ from h];rfl
 |bad=>trivial
theorem SimO.bndO{e:W->S}{b:X->L}{s:Z}{r:Res S}{q:Res W}{k:S->L4->Out L}{l:W->OutC Z X}(h:SimR e r q)(c:∀a,SimO rep b (k (e a) (rep s)) (l a)):SimO rep b ((r.up (rep s)).bind k) (Cl.bndO q s l):=by
 cases q with
 |ok a=>rw[show r=_ from h];exact c a
 |exc x=>rw[show r=_ from h];exact rfl
 |bad=>trivial
@[simp] def OB(w:σ'->Z->Z)(s:Z):OutC σ' W->OutC Z W
 |.ok a s'=>.ok a (w s' s)
 |.exc x s'=>.exc x (w s' s)
 |.bad=>.bad
theorem SimO.wb{b:List Ap}{c:List D->Out D}{ds:List D}{e:W->D}{q:OutC σ' W}{w:σ'->Z->Z}(d:∀s' s,cI b 0 (Y s') (rep s)=rep (w s' s))(h:SimO Y e (c ds) q)(s:Z):SimO rep e (ci b c ds (rep s)) (OB w s q):=by
 unfold ci;cases q with
 |ok a s'=>rw[show c ds=_ from h];show Out.ok _ _=Out.ok _ _;rw[d]
 |exc x s'=>rw[show c ds=_ from h];show Out.exc _ _=Out.exc _ _;rw[d]
 |bad=>trivial
theorem n0{e:W->D}{eR:S->L}{m:L4->Res D}{r:L4->Res (List D)}{k:List D->Res L}{c:Z->Res W}{l:W->Res S}{s:Z}(h:EJ rep e m c)(g:∀x,SimR eR ((r (rep s)).bind λds=>k (e x::ds)) (l x)):SimR eR ((aE m r (rep s)).bind k) ((c s).bind l):=by
 have h:=h s;unfold aE;refine SimR.el h (λx=>?_) (λ_=>rfl) λ_=>trivial;have g:=g x;simp only[Res.bind];cases z:r (rep s)<;>rw[z]at g<;>exact g
theorem Ly{e:W->D}{eR:S->L}{m:L4->Res D}{r:L4->Res (List D)}{k:List D->L4->Out L}{c:Z->Res W}{l:W->OutC Z S}{s:Z}(h:EJ rep e m c)(g:∀x,SimO rep eR (((r (rep s)).up (rep s)).bind λds T=>k (e x::ds) T) (l x)):SimO rep eR (((aE m r (rep s)).up (rep s)).bind k) (bndO (c s) s l):=by
 have h:=h s;unfold aE;refine SimR.el h (λx=>?_) (λ_=>rfl) λ_=>trivial;have g:=g x;simp only[Res.bind];cases z:r (rep s)<;>rw[z]at g<;>exact g
theorem RT{r:Res W}{f:W->Res X}{g:X->Res S}:(r.bind f).bind g=r.bind λx=>(f x).bind g:=by cases r<;>rfl
theorem br{e:W->D}{f:X->D}{m n:L4->Res D}{c:Z->Res W}{d:Z->Res X}(h:EJ rep e m c)(g:EJ rep f n d):EJ rep (Ia e f) (jZ (aE m (aE n bj))) (gw c d):=λs=>n0 h λa=>n0 g λb=>by simp only[bj,Res.bind];rw[Tq (by show 2<=ao;decide)];rfl
theorem zn{e:W->D}{h:X->D}{g:S->D}{m n o:L4->Res D}{c:Z->Res W}{d:Z->Res X}{f:Z->Res S}(k:EJ rep e m c)(j:EJ rep h n d)(i:EJ rep g o f):EJ rep (rA e h g) (jZ (aE m (aE n (aE o bj)))) (gw c (gw d f)):=λs=>n0 k λa=>by
 show SimR _ _ (((d s).bind λy=>(f s).bind λz=>.ok (y,z)).bind λy=>.ok (a,y));rw[RT];exact n0 j λb=>by rw[RT];exact n0 i λz=>by simp only[bj,Res.bind];rw[Tq (by show 3<=ao;decide)];rfl
theorem Do{e:W->D}{eR:S->D}{c:Nat}{b:Str}{d:List D->Out D}{m:L4->Res D}{r:L4->Res (List D)}{q:Z->Res W}{l:W->Res S}{s:Z}(f:∀a,bI c b (e a)=true)(h:EJ rep e m q)(g:∀x,SimR eR ((r (rep s)).bind λds=>fX d (e x::ds)) (l x)):SimR eR (pm c b d m r (rep s)) ((q s).bind l):=(h s).bnd λx=>by rw[Tq (f x)];exact g x
theorem D9{e:W->D}{eR:S->D}{c:Nat}{d:Str}{b:List Ap}{f:List D->Out D}{m:L4->Res D}{r:L4->Res (List D)}{q:Z->Res W}{l:W->OutC Z S}{s:Z}(i:∀a,bI c d (e a)=true)(h:EJ rep e m q)(g:∀x,SimO rep eR (((r (rep s)).up (rep s)).bind λds T=>ci b f (e x::ds) T) (l x)):SimO rep eR (mm c d b f m r (rep s)) (bndO (q s) s l):=SimO.bndO (h s) λx=>by rw[Tq (i x)];exact g x
variable{α0 α1 α2 α3 α4 α5:Type}{e0:α0->D}{e1:α1->D}{e2:α2->D}{e3:α3->D}{e4:α4->D}{e5:α5->D}{m0 m1 m2 m3 m4 m5:L4->Res D}{c0:Z->Res α0}{c1:Z->Res α1}{c2:Z->Res α2}{c3:Z->Res α3}{c4:Z->Res α4}{c5:Z->Res α5}{eR:S->D}{fm:List D->Out D}{w:σ'->Z->Z}{plan:List Ap}{c:Nat}{mn:Str}
@[simp] def mV(f:α0->OutC σ' S)(c0:Z->Res α0):Z->Res S:=λs=>(c0 s).bind λa=>(f a).res
@[simp] def QH(f:α0->OutC σ' S)(w:σ'->Z->Z)(c0:Z->Res α0):Z->OutC Z S:=λs=>bndO (c0 s) s λa=>OB w s (f a)
@[simp] def G8(f:α0->Res S)(c0:Z->Res α0):Z->Res S:=λs=>(c0 s).bind λa=>f a
theorem tm{f:α0->OutC σ' S}(b:∀a,SimO Y eR (fm [e0 a]) (f a))(h0:EJ rep e0 m0 c0):EJ rep eR (pc fm (aE m0 bj)) (mV f c0):=λs=>n0 h0 λa=>(b a).res
theorem xI{f:α0->Res S}(b:∀a,SimR eR (fL c fm [e0 a]) (f a))(h0:EJ rep e0 m0 c0):EJ rep eR (pk c fm (aE m0 bj)) (G8 f c0):=λs=>n0 h0 λa=>b a
theorem tj{f:α0->OutC σ' S}(d:∀a,bI c mn (e0 a)=true)(e:∀b,SimO Y eR (fm [e0 b]) (f b))(h0:EJ rep e0 m0 c0):EJ rep eR (pm c mn fm m0 bj) (mV f c0):=λs=>Do d h0 λb=>(e b).res
theorem Mv{f:α0->OutC σ' S}(e:∀a,bI c mn (e0 a)=true)(d:∀s' s,cI plan 0 (Y s') (rep s)=rep (w s' s))(g:∀b,SimO Y eR (fm [e0 b]) (f b))(h0:EJ rep e0 m0 c0):NJ rep eR (mm c mn plan fm m0 bj) (QH f w c0):=λs=>D9 e h0 λb=>SimO.wb d (g b) s
@[simp] def gS(f:α0->α1->OutC σ' S)(c0:Z->Res α0)(c1:Z->Res α1):Z->Res S:=λs=>(c0 s).bind λb=>(c1 s).bind λa=>(f b a).res
@[simp] def Ed(f:α0->α1->OutC σ' S)(w:σ'->Z->Z)(c0:Z->Res α0)(c1:Z->Res α1):Z->OutC Z S:=λs=>bndO (c0 s) s λb=>bndO (c1 s) s λa=>OB w s (f b a)
@[simp] def LD(f:α0->α1->Res S)(c0:Z->Res α0)(c1:Z->Res α1):Z->Res S:=λs=>(c0 s).bind λb=>(c1 s).bind λa=>f b a
theorem Pd{eR:S->L}{k:List D->Res L}{f:α0->α1->Res S}(c:∀b a,SimR eR (k [e0 b,e1 a]) (f b a))(h0:EJ rep e0 m0 c0)(d:EJ rep e1 m1 c1):EJ rep eR (λT=>(((aE m0 (aE m1 bj))) T).bind k) (LD f c0 c1):=λs=>n0 h0 λb=>n0 d λa=>c b a
theorem i0{f:α0->α1->OutC σ' S}(c:∀b a,SimO Y eR (fm [e0 b,e1 a]) (f b a))(h0:EJ rep e0 m0 c0)(d:EJ rep e1 m1 c1):EJ rep eR (pc fm (aE m0 (aE m1 bj))) (gS f c0 c1):=λs=>n0 h0 λb=>n0 d λa=>(c b a).res
theorem g9{f:α0->α1->OutC σ' S}(e:∀a,bI c mn (e0 a)=true)(g:∀d b,SimO Y eR (fm [e0 d,e1 b]) (f d b))(h0:EJ rep e0 m0 c0)(h:EJ rep e1 m1 c1):EJ rep eR (pm c mn fm m0 (aE m1 bj)) (gS f c0 c1):=λs=>Do e h0 λd=>n0 h λb=>(g d b).res
theorem sF{f:α0->α1->OutC σ' S}(g:∀a,bI c mn (e0 a)=true)(e:∀s' s,cI plan 0 (Y s') (rep s)=rep (w s' s))(h:∀d b,SimO Y eR (fm [e0 d,e1 b]) (f d b))(h0:EJ rep e0 m0 c0)(i:EJ rep e1 m1 c1):NJ rep eR (mm c mn plan fm m0 (aE m1 bj)) (Ed f w c0 c1):=λs=>D9 g h0 λd=>Ly i λb=>SimO.wb e (h d b) s
@[simp] def oh(f:α0->α1->α2->OutC σ' S)(c0:Z->Res α0)(c1:Z->Res α1)(c2:Z->Res α2):Z->Res S:=λs=>(c0 s).bind λc=>(c1 s).bind λb=>(c2 s).bind λa=>(f c b a).res
@[simp] def oJ(f:α0->α1->α2->OutC σ' S)(w:σ'->Z->Z)(c0:Z->Res α0)(c1:Z->Res α1)(c2:Z->Res α2):Z->OutC Z S:=λs=>bndO (c0 s) s λc=>bndO (c1 s) s λb=>bndO (c2 s) s λa=>OB w s (f c b a)
theorem Nw{f:α0->α1->α2->OutC σ' S}(d:∀c b a,SimO Y eR (fm [e0 c,e1 b,e2 a]) (f c b a))(h0:EJ rep e0 m0 c0)(g:EJ rep e1 m1 c1)(e:EJ rep e2 m2 c2):EJ rep eR (pc fm (aE m0 (aE m1 (aE m2 bj)))) (oh f c0 c1 c2):=λs=>n0 h0 λc=>n0 g λb=>n0 e λa=>(d c b a).res
theorem lP{f:α0->α1->α2->OutC σ' S}(g:∀a,bI c mn (e0 a)=true)(h:∀e d b,SimO Y eR (fm [e0 e,e1 d,e2 b]) (f e d b))(h0:EJ rep e0 m0 c0)(j:EJ rep e1 m1 c1)(i:EJ rep e2 m2 c2):EJ rep eR (pm c mn fm m0 (aE m1 (aE m2 bj))) (oh f c0 c1 c2):=λs=>Do g h0 λe=>n0 j λd=>n0 i λb=>(h e d b).res
theorem gq{f:α0->α1->α2->OutC σ' S}(h:∀a,bI c mn (e0 a)=true)(g:∀s' s,cI plan 0 (Y s') (rep s)=rep (w s' s))(i:∀e d b,SimO Y eR (fm [e0 e,e1 d,e2 b]) (f e d b))(h0:EJ rep e0 m0 c0)(k:EJ rep e1 m1 c1)(j:EJ rep e2 m2 c2):NJ rep eR (mm c mn plan fm m0 (aE m1 (aE m2 bj))) (oJ f w c0 c1 c2):=λs=>D9 h h0 λe=>Ly k λd=>Ly j λb=>SimO.wb g (i e d b) s
@[simp] def QG(f:α0->α1->α2->α3->OutC σ' S)(w:σ'->Z->Z)(c0:Z->Res α0)(c1:Z->Res α1)(c2:Z->Res α2)(c3:Z->Res α3):Z->OutC Z S:=λs=>bndO (c0 s) s λd=>bndO (c1 s) s λc=>bndO (c2 s) s λb=>bndO (c3 s) s λa=>OB w s (f d c b a)
theorem Mw{f:α0->α1->α2->α3->OutC σ' S}(e:∀s' s,cI plan 0 (Y s') (rep s)=rep (w s' s))(g:∀d c b a,SimO Y eR (fm [e0 d,e1 c,e2 b,e3 a]) (f d c b a))(h0:EJ rep e0 m0 c0)(j:EJ rep e1 m1 c1)(i:EJ rep e2 m2 c2)(h:EJ rep e3 m3 c3):NJ rep eR (mc plan fm (aE m0 (aE m1 (aE m2 (aE m3 bj))))) (QG f w c0 c1 c2 c3):=λs=>Ly h0 λd=>Ly j λc=>Ly i λb=>Ly h λa=>SimO.wb e (g d c b a) s
end
section
variable{Z σ' W X S L:Type}{rep:Z->L4}{eR:X->D}
@[simp] def bB(c:Z->Res W):Z->OutC Z W:=λs=>match c s with
 |.ok a=>.ok a s
 |.exc x=>.exc x s
 |.bad=>.bad
theorem ai{e:W->S}{m:L4->Res S}{c:Z->Res W}(h:EJ rep e m c):NJ rep e (aV m) (bB c):=λs=>by
 have h:=h s;unfold bB aV;refine SimR.el h (λa=>?_) (λ_=>rfl) λ_=>trivial;rfl
@[simp] def yf(o:OutC Z W)(k:W->Z->OutC Z X):OutC Z X:=match o with
 |.ok a s=>k a s
 |.exc x s=>.exc x s
 |.bad=>.bad
theorem SimO.bd{e:W->S}{b:X->L}{r:Out S}{q:OutC Z W}{k:S->L4->Out L}{l:W->Z->OutC Z X}(h:SimO rep e r q)(c:∀a s,SimO rep b (k (e a) (rep s)) (l a s)):SimO rep b (r.bind k) (yf q l):=by
 cases q with
 |ok a s=>rw[show r=_ from h];exact c a s
 |exc x s=>rw[show r=_ from h];exact rfl
 |bad=>trivial
theorem qM{e:W->D}{i:X->D}{m:L4->Out D}{c:Z->OutC Z W}{f:W->Res X}(h:∀a,SimR i (.ok (e a)) (f a))(d:NJ rep e m c):NJ rep i m (λs=>yf (c s) λa s=>bndO (f a) s λb=>.ok b s):=λs=>by
 have d:=d s;dsimp only;cases q:c s with
 |ok a g=>
   rw[q]at d;rw[show m (rep s)=_ from d]
   have:=h a
   show SimO rep i (.ok (e a) (rep g)) (bndO (f a) g λb=>.ok b g);cases j:f a with
   |ok b=>rw[j]at this;have this:Res.ok (e a)=.ok (i b):=this;injection this with this;rw[this];rfl
   |exc x=>rw[j]at this;cases this
   |bad=>trivial
 |exc x g=>rw[q]at d;exact d
 |bad=>trivial
theorem Mu{m:L4->Out D}{c:Z->OutC Z Bool}(h:NJ rep D.bl m c):NJ rep (id:Bool->Bool) (BL m) c:=λs=>by
 have h:=h s;unfold BL;cases q:c s with
 |ok a b=>rw[q]at h;rw[show m (rep s)=_ from h];rfl
 |exc x b=>rw[q]at h;rw[show m (rep s)=_ from h];rfl
 |bad=>trivial
@[simp] def RU(f:W->X->Res S)(a:Z->OutC Z W)(b:Z->OutC Z X):Z->OutC Z S:=λs=>yf (a s) λx s=>yf (b s) λy s=>bndO (f x y) s λz=>.ok z s
theorem P9{e:W->D}{e1:X->D}{d:S->D}{F:D->D->Res D}{f:W->X->Res S}{m n:L4->Out D}{c:Z->OutC Z W}{g:Z->OutC Z X}(h:∀a b,SimR d (F (e a) (e1 b)) (f a b))(j:NJ rep e m c)(i:NJ rep e1 n g):NJ rep d (S9 F m n) (RU f c g):=λs=>(j s).bd λa s=>(i s).bd λb s=>by
 have:=h a b
 refine SimR.el this (λz=>?_) (λ_=>rfl) λ_=>trivial;rfl
@[simp] def Ov(g:Z->Option W)(b:Z->Z):Z->OutC Z W:=λs=>match g s with|some a=>.ok a (b s)|none=>.bad
theorem yY{e:W->D}{i:Nat}{g:Z->Option W}{b:Z->Z}(h:∀s,rg (rep s) i=(g s).map e)(c:∀s,(rep s).set i none=rep (b s)):NJ rep e (Jx i) (Ov g b):=λs=>by
 unfold Jx Ov;rw[h s];cases g s with
 |none=>trivial
 |some a=>show Out.ok _ _=Out.ok _ _;rw[c]
@[simp] def Nf(g:Z->Option (List W))(p:Z->List W->Z)(f:List W->L->Option (S×List W))(c:Z->Res L):Z->OutC Z S:=λs=>match g s with
 |none=>.bad
 | some xs=>bndO (c s) s λx=>match f xs x with
   |some (r,a)=>.ok r (p s a)
   |none=>.bad
def ui(xs:List W)(x:W):Option (Unit×List W):=if xs.length<ao then some ((),xs++[x]) else none
def sf[DecidableEq W](xs:List W)(x:W):Option (Unit×List W):=(xs.findIdx? λy=>decide (y=x)).map λj=>((),xs.eraseIdx j)
def Op{δ':Type}(e:W->D)(e1:L->D)(b:S->D)(F:List D->D->Option (D×List D))(f:List W->L->Option (S×List W)):Prop:=∀xs x,match f xs x with
 |some (r,a)=>F (xs.map e) (e1 x)=some (b r,a.map e)
 |none=>True
theorem rn{e:W->S}:∀(xs:List W) (i:Nat),(xs.map e).eraseIdx i=(xs.eraseIdx i).map e
 |[],i=>by simp
 |x::xs,0=>by simp
 |x::xs,i+1=>by rw[Tr,Uv,Uv,Tr,rn xs i]
theorem Fg{e:W->D}:Op (δ':=Unit) e e eN wo ui:=λxs x=>by
 unfold ui wo;rw[List.length_map];by_cases h:xs.length<ao
 ·rw[Tq h,Tq h];show some (D.non,xs.map e++[e x])=some (eN (),(xs++[x]).map e);rw[Uj];rfl
 ·rw[on h];trivial
theorem mo{e:W->PyData}{p:PyData->Bool}:∀xs:List W,(xs.map e).findIdx? p=xs.findIdx? λx=>p (e x)
 |[]=>rfl
 |x::xs=>by rw[Tr,List.findIdx?_cons,List.findIdx?_cons,mo xs]
theorem Q3{e:W->D}[DecidableEq W](A:Dat e)(hd:A.dep<=64):Op (δ':=Unit) e e eN Az sf:=λxs x=>by
 have b:((xs.map A.py).all SeqAt.shaped)=true:=by
  rw[WB,UY];exact λa _=>A.shp hd a
 unfold sf Az;rw[A.h0,lq A.h0];dsimp only;rw[if_pos ⟨A.shp hd x,b⟩,mo];have c:(λy=>PyData.eqv (A.py y) (A.py x))=λy=>decide (y=x):=funext λy=>A.eqv y x;rw[c];cases xs.findIdx? λy=>decide (y=x) with
 |none=>trivial
 |some j=>
   show some (D.non,(xs.map e).eraseIdx j)=some (eN (),(xs.eraseIdx j).map e);rw[rn];rfl
theorem yZ{e:W->D}{e1:L->D}{a:S->D}{get:L4->Option D}{set:L4->D->L4}{g:Z->Option (List W)}{p:Z->List W->Z}{F:List D->D->Option (D×List D)}{f:List W->L->Option (S×List W)}{m:L4->Res D}{c:Z->Res L}
 (j:∀s,get (rep s)=(g s).map (eL e)) (i:∀s xs,set (rep s) (eL e xs)=rep (p s xs)) (hF:Op (δ':=Unit) e e1 a F f) (d:EJ rep e1 m c):NJ rep a (qo get set F m) (Nf g p f c):=λs=>by
 have d:=d s;unfold qo Nf;rw[j];cases g s with
 |none=>trivial
 |some xs=>
   show SimO rep a (Na set F (rep s) (xs.map e) (m (rep s))) (bndO (c s) s _);refine SimR.el d (λx=>?_) (λ_=>rfl) λ_=>trivial
   have:=hF xs x
   show SimO rep a (Nb set (rep s) (F (xs.map e) (e1 x))) (match f xs x with|some (r,b)=>OutC.ok r (p s b)|none=>.bad);cases h:f xs x with
   |none=>trivial
   |some r=>
     rw[h]at this;obtain⟨r,b⟩:=r;have this:F (xs.map e) (e1 x)=some (a r,b.map e):=this;rw[this];show Out.ok _ _=Out.ok _ _;rw[<-i];rfl
@[simp] def vq(g:Z->Option (DI W))(p:Z->DI W->Z)(ck:Z->Res (List Int)):Z->OutC Z W:=λs=>match g s with
 |none=>.bad
 | some F=>bndO (ck s) s λk=>match F.get k with
   |some x=>.ok x (p s (F.del k))
   |none=>.bad
theorem sG{e:W->D}{get:L4->Option D}{set:L4->D->L4}{g:Z->Option (DI W)}{p:Z->DI W->Z}{mk:L4->Res D}{ck:Z->Res (List Int)}(d:∀s,get (rep s)=(g s).map (bR e))(c:∀s F,set (rep s) (bR e F)=rep (p s F))(a:EJ rep (pw D.int) mk ck):NJ rep e (pE get set mk) (vq g p ck):=λs=>by
 have a:=a s;unfold pE vq;rw[d];cases g s with
 |none=>trivial
 |some F=>
   show SimO rep e (vp set (bR e F) (rep s) (mk (rep s))) (bndO (ck s) s _);refine SimR.el a (λk=>?_) (λ_=>rfl) λ_=>trivial;show SimO rep e (vp set (bR e F) (rep s) (.ok (.tup (k.map D.int)))) (match F.get k with|some x=>OutC.ok x (p s (F.del k))|none=>.bad);cases b:F.get k with
   |none=>trivial
   |some x=>
     unfold vp;dsimp only;rw[Fs b];show Out.ok _ _=Out.ok _ _;rw[c]
end
section
variable{Z σ' W X S L:Type}{rep:Z->L4}{eR:X->D}
@[simp] def Il(o:OutC Z W)(k:W->Z->FlC Z X):FlC Z X:=match o with
 |.ok a s=>k a s
 |.exc x s=>.exc x s
 |.bad=>.bad
theorem SimS.bd{e:W->S}{r:Out S}{q:OutC Z W}{k:S->L4->SO}{l:W->Z->FlC Z X}(h:SimO rep e r q)(b:∀a s,SimS rep eR (k (e a) (rep s)) (l a s)):SimS rep eR (io r k) (Il q l):=by
 cases q with
 |ok a s=>rw[show r=_ from h];exact b a s
 |exc x s=>rw[show r=_ from h];exact rfl
 |bad=>trivial
theorem SimS.ite{p:Prop}[Decidable p]{r a:SO}{q b:FlC Z X}(h:SimS rep eR r q)(h':SimS rep eR a b):SimS rep eR (if p then r else a) (if p then q else b):=by
 by_cases z:p
 ·rw[Tq z,Tq z];exact h
 ·rw[on z,on z];exact h'
@[simp] def aI(a b:Z->FlC Z X):Z->FlC Z X:=λs=>match a s with
 |.nx s'=>b s'
 |o=>o
theorem aj{a b:L4->SO}{c d:Z->FlC Z X}(e:TJ rep eR a c)(f:TJ rep eR b d):TJ rep eR (az a b) (aI c d):=λs=>by
 have e:=e s;unfold az aI;cases q:c s with
 |nx s'=>rw[q]at e;rw[show a (rep s)=_ from e];exact f s'
 |rt b s'=>rw[q]at e;rw[show a (rep s)=_ from e];rfl
 |bk s'=>rw[q]at e;rw[show a (rep s)=_ from e];rfl
 |ct s'=>rw[q]at e;rw[show a (rep s)=_ from e];rfl
 |exc x s'=>rw[q]at e;rw[show a (rep s)=_ from e];rfl
 |bad=>trivial
@[simp] def bU:Z->FlC Z X:=λs=>.nx s
theorem ba:TJ rep eR bM bU:=λs=>rfl
@[simp] def bW(c:Z->OutC Z X):Z->FlC Z X:=λs=>Il (c s) λb s=>.rt b s
theorem aT{m:L4->Out D}{c:Z->OutC Z X}(h:NJ rep eR m c):TJ rep eR (b8 m) (bW c):=λs=>SimS.bd (h s) λb s=>rfl
@[simp] def Jc(b:X):Z->FlC Z X:=λs=>.rt b s
theorem Gu{b:X}(h:eR b=.non):TJ rep eR Lw (Jc b):=λs=>by show SO.rt .non _=SO.rt (eR b) _;rw[h]
@[simp] def a9(c:Z->OutC Z W):Z->FlC Z X:=λs=>Il (c s) λ_ s=>.nx s
theorem aG{e:W->D}{m:L4->Out D}{c:Z->OutC Z W}(h:NJ rep e m c):TJ rep eR (bb m) (a9 c):=λs=>SimS.bd (h s) λb s=>rfl
@[simp] def dI(u:W->Z->Z)(c:Z->OutC Z W):Z->FlC Z X:=λs=>Il (c s) λa s=>.nx (u a s)
theorem Kz{e:W->D}{i:Nat}{m:L4->Out D}{c:Z->OutC Z W}{u:W->Z->Z}(b:∀a s,(rep s).set i (some (e a))=rep (u a s))(h:NJ rep e m c):TJ rep eR (cZ i m) (dI u c):=λs=>SimS.bd (h s) λa s=>by show SO.nx _=SO.nx _;rw[b]
@[simp] def iW(t:Z->OutC Z Bool)(a b:Z->FlC Z X):Z->FlC Z X:=λs=>Il (t s) λc s=>if c=true then a s else b s
theorem bO{t:L4->Out Bool}{a b:L4->SO}{ct:Z->OutC Z Bool}{c d:Z->FlC Z X}(e:NJ rep (id:Bool->Bool) t ct)(g:TJ rep eR a c)(f:TJ rep eR b d):TJ rep eR (gx t a b) (iW ct c d):=λs=>SimS.bd (e s) λt s=>SimS.ite (g s) (f s)
def kH(u:W->Z->Z)(body:Z->FlC Z X):List W->Z->FlC Z X
 |[],s=>.nx s
 | a::r,s=>match body (u a s) with
   |.nx s'=>kH u body r s'
   |.ct s'=>kH u body r s'
   |.bk s'=>.nx s'
   |o=>o
theorem rZ{e:W->D}{f:D->L4->Option L4}{body:L4->SO}{u:W->Z->Z}{c:Z->FlC Z X}(g:∀a s,f (e a) (rep s)=some (rep (u a s)))(h:TJ rep eR body c):∀(xs:List W) (s:Z),SimS rep eR (sV f body (xs.map e) (rep s)) (kH u c xs s)
 |[],s=>rfl
 | a::r,s=>by
   have d:=h (u a s);rw[List.map_cons];unfold sV kH;rw[g];dsimp only;cases q:c (u a s) with
   |nx s'=>rw[q]at d;rw[show body (rep (u a s))=_ from d];exact rZ g h r s'
   |ct s'=>rw[q]at d;rw[show body (rep (u a s))=_ from d];exact rZ g h r s'
   |bk s'=>rw[q]at d;rw[show body (rep (u a s))=_ from d];rfl
   |rt b s'=>rw[q]at d;rw[show body (rep (u a s))=_ from d];rfl
   |exc x s'=>rw[q]at d;rw[show body (rep (u a s))=_ from d];rfl
   |bad=>trivial
@[simp] def l7(src:Z->Res (List W))(u:W->Z->Z)(body:Z->FlC Z X):Z->FlC Z X:=λs=>match src s with
 |.ok xs=>kH u body xs s
 |.exc x=>.exc x s
 |.bad=>.bad
theorem j7{e:W->D}{src:L4->Res (List D)}{b:Z->Res (List W)}{d:D->L4->Option L4}{body:L4->SO}{u:W->Z->Z}{c:Z->FlC Z X}(f:EJ rep (List.map e) src b)(g:∀a s,d (e a) (rep s)=some (rep (u a s)))(h:TJ rep eR body c):TJ rep eR (l6 (aV src) d body) (l7 b u c):=λs=>by
 have f:=f s;unfold l6 aV l7;refine SimR.el f (λxs=>?_) (λ_=>rfl) λ_=>trivial;exact rZ g h xs s
@[simp] def rE(g:Z->Option (DI W))(p:Z->DI W->Z)(ck:Z->Res (List Int))(a:Z->OutC Z W):Z->FlC Z X:=λs=>Il (a s) λx s=>match g s with
 |none=>.bad
 | some F=>(match ck s with
   |.ok k=>if F.length<ao then .nx (p s (F.put k x)) else .bad
   |.exc y=>.exc y s
   |.bad=>.bad)
theorem j8{e:W->D}{get:L4->Option D}{set:L4->D->L4}{g:Z->Option (DI W)}{p:Z->DI W->Z}{mk:L4->Res D}{ck:Z->Res (List Int)}{b:L4->Out D}{c:Z->OutC Z W}(i:∀s,get (rep s)=(g s).map (bR e))(f:∀s F,set (rep s) (bR e F)=rep (p s F))
 (a:EJ rep (pw D.int) mk ck) (d:NJ rep e b c):TJ rep eR (kM get set mk b) (rE g p ck c):=λs=>SimS.bd (d s) λx s=>by
 have a:=a s;rw[i];cases g s with
 |none=>trivial
 |some F=>
   show SimS rep eR (my set (e x) (bR e F) (rep s) (mk (rep s))) _;dsimp only;refine SimR.el a (λk=>?_) (λ_=>rfl) λ_=>trivial;show SimS rep eR (my set (e x) (bR e F) (rep s) (.ok (.tup (k.map D.int)))) (if F.length<ao then FlC.nx (p s (F.put k x)) else .bad);by_cases h:F.length<ao
   ·rw[if_pos h];unfold my;dsimp only;rw[Fq h];show SO.nx _=SO.nx _;rw[f]
   ·rw[on h];trivial
@[simp] def J1(g:Z->Option (List W))(p:Z->List W->Z)(ck:Z->Res Int)(a:Z->OutC Z W):Z->FlC Z X:=λs=>Il (a s) λx s=>match g s with
 |none=>.bad
 | some xs=>(match ck s with
   |.ok i=>(match qc xs.length i with|some j=>.nx (p s (xs.set j x))|none=>.bad)
   |.exc y=>.exc y s
   |.bad=>.bad)
theorem Gv{e:W->D}{get:L4->Option D}{set:L4->D->L4}{g:Z->Option (List W)}{p:Z->List W->Z}{mk:L4->Res D}{ck:Z->Res Int}{b:L4->Out D}{c:Z->OutC Z W}(h:∀s,get (rep s)=(g s).map (eL e))(f:∀s F,set (rep s) (eL e F)=rep (p s F))
 (a:EJ rep D.int mk ck) (d:NJ rep e b c):TJ rep eR (oO get set mk b) (J1 g p ck c):=λs=>SimS.bd (d s) λx s=>by
 have a:=a s;rw[h];cases g s with
 |none=>trivial
 |some xs=>
   show SimS rep eR (zb set (e x) (xs.map e) (rep s) (mk (rep s))) _;dsimp only;refine SimR.el a (λi=>?_) (λ_=>rfl) λ_=>trivial;show SimS rep eR (match qc (xs.map e).length i with|some j=>.nx (set (rep s) (.lst ((xs.map e).set j (e x))))|none=>.bad) _;rw[List.length_map];dsimp only;cases qc xs.length i with
   |none=>trivial
   |some j=>
     show SO.nx _=SO.nx _;rw[<-Xm];exact congrArg _ (f s _)
@[simp] def b7(d:Option X):FlC Z X->OutC Z X
 |.nx s=>(match d with|some b=>.ok b s|none=>.bad)
 |.rt b s=>.ok b s
 |.exc x s=>.exc x s
 |_=>.bad
theorem fT{k:Nat}{ds:List D}{body:L4->SO}{c:Z->FlC Z X}{s:Z}{d:X}(hd:eR d=.non)(h:TJ rep eR body c)(a:ds.map some++List.replicate (k-ds.length) none=rep s):SimO rep eR (Mi.run k body ds) (b7 (some d) (c s)):=by
 have h:=h s;unfold Mi.run;rw[a];cases q:c s with
 |nx s'=>rw[q]at h;rw[show body (rep s)=_ from h];show Out.ok .non _=Out.ok (eR d) _;rw[hd]
 |rt b s'=>rw[q]at h;rw[show body (rep s)=_ from h];rfl
 |exc x s'=>rw[q]at h;rw[show body (rep s)=_ from h];rfl
 |_=>trivial
theorem dM{k:Nat}{ds:List D}{body:L4->SO}{c:Z->FlC Z X}{s:Z}(h:TJ rep eR body c)(a:ds.map some++List.replicate (k-ds.length) none=rep s):SimO rep eR (Mi.run k body ds) (b7 none (c s)):=by
 have h:=h s;unfold Mi.run;rw[a];cases q:c s with
 |rt b s'=>rw[q]at h;rw[show body (rep s)=_ from h];rfl
 |exc x s'=>rw[q]at h;rw[show body (rep s)=_ from h];rfl
 |_=>trivial
theorem iY{k:Nat}{ds:List D}{body:L4->SO}{c:Z->FlC Z X}{s:Z}(h:TJ rep eR body c)(a:ds.map some++List.replicate (k-ds.length) none=rep s):SimO rep eR (mT k body ds) (b7 none (c s)):=by
 have h:=h s;unfold mT;rw[a];cases q:c s with
 |rt b s'=>rw[q]at h;rw[show body (rep s)=_ from h];rfl
 |exc x s'=>rw[q]at h;rw[show body (rep s)=_ from h];rfl
 |_=>trivial
end
section
variable{Z W X:Type}{rep:Z->L4}{eR:X->D}
theorem xp{e:W->D}{i:Nat}{g:Z->W}(h:∀s,rg (rep s) i=some (e (g s)):=by exact λ_=>rfl):EJ rep e (vr i) (pC g):=Nx h
theorem xv{e:W->D}{i:Nat}{g:Z->Option W}(h:∀s,rg (rep s) i=(g s).map e:=by exact λ_=>rfl):EJ rep e (vr i) (vC g):=Nt h
theorem xk{e:W->D}{d:D}{a:W}(h:e a=d:=by rfl):EJ rep e (aW d) (kC a):=Fl h
theorem xs{e:W->D}{i:Nat}{m:L4->Out D}{c:Z->OutC Z W}{u:W->Z->Z}(h:NJ rep e m c)(b:∀a s,(rep s).set i (some (e a))=rep (u a s):=by exact λ_ _=>rfl):TJ rep eR (cZ i m) (dI u c):=Kz b h
end
section
variable{Z σ' W X S L τ:Type}
theorem lN{u:W->Z->Z}{c:Z->FlC Z X}(R:τ->Z->Prop)(step:τ->W->τ):∀(l:List W) (b:τ) (s:Z),R b s->
 (∀b a s,a∈l->R b s->∃s',(c (u a s)=.nx s'\/c (u a s)=.ct s')/\R (step b a) s')->∃s',kH u c l s=.nx s'/\R (l.foldl step b) s'
 |[],b,s,h,_=>⟨s,rfl,h⟩
 | a::l,b,s,h,st=>by
   obtain⟨s2,d,g⟩:=st b a s List.mem_cons_self h;obtain⟨s',e,h'⟩:=lN R step l (step b a) s2 g λb c s f=>st b c s (List.mem_cons_of_mem _ f);refine⟨s',?_,h'⟩;unfold kH;rcases d with d|d<;>(rw[d];exact e)
theorem Ff{u:W->Z->Z}{c:Z->FlC Z X}(R:Z->Prop)(l:List W)(s:Z)(h:R s)(st:∀a s,a∈l->R s->∃s',(c (u a s)=.nx s'\/c (u a s)=.ct s')/\R s'):∃s',kH u c l s=.nx s'/\R s':=by
 obtain⟨s',e,h'⟩:=lN (τ:=Unit) (λ_ s=>R s) (λ_ _=>()) l () s h λ_ a s d b=>st a s d b;exact⟨s',e,h'⟩
theorem kF{u:W->Z->Z}{c:Z->FlC Z X}(R:List W->Z->Prop)(l:List W)(s:Z)(h:R [] s)(st:∀p a r s,l=p++a::r->R p s->∃s',(c (u a s)=.nx s'\/c (u a s)=.ct s')/\R (p++[a]) s'):∃s',kH u c l s=.nx s'/\R l s':=by
 have d:∀(r p:List W) (s:Z),l=p++r->R p s->∃s',kH u c r s=.nx s'/\R l s':=by
  intro r
  induction r with
  |nil=>intro p s e h;rw[Um]at e;exact⟨s,rfl,by rw[e];exact h⟩
  |cons a r f=>
    intro p s e h;obtain⟨s2,b,g⟩:=st p a r s e h;obtain⟨s',i,h'⟩:=f (p++[a]) s2 (by rw[e];simp) g;refine⟨s',?_,h'⟩;unfold kH;rcases b with b|b<;>(rw[b];exact i)
 exact d l [] s rfl h
theorem rK{d:W->Res Bool}{te:W->Res X}(p:W->Bool)(g:W->X):∀l:List W,(∀a∈l,d a=.ok (p a))->(∀a∈l,p a=true->te a=.ok (g a))->ia d te l=.ok ((l.filter p).map g)
 |[],_,_=>rfl
 | a::l,h,f=>by
   have e:=rK p g l (λb c=>h b (List.mem_cons_of_mem _ c)) λb c=>f b (List.mem_cons_of_mem _ c);unfold ia;rw[h a List.mem_cons_self];show(if p a=true then _ else _)=_;cases hp:p a with
   |true=>
     rw[Tq rfl,f a Tu hp,e,UH,Tq hp];rfl
   |false=>rw[on TK,e,UH,on (by rw[hp];exact TK)]
theorem uc{src:Z->Res (List W)}{b:W×Z->Res Bool}{te:W×Z->Res X}{s:Z}{l:List W}(p:W->Bool)(g:W->X)(c:src s=.ok l)(d:l.length<ao)(f:∀a∈l,b (a,s)=.ok (p a))(e:∀a∈l,p a=true->te (a,s)=.ok (g a)):
 fW src b te s=.ok ((l.filter p).map g):=by
 unfold fW;rw[c];show(if l.length<ao then _ else _)=_;rw[if_pos d];exact rK p g l f e
theorem lh{src:Z->Res (List W)}{te:W×Z->Res X}{s:Z}{l:List W}(g:W->X)(b:src s=.ok l)(c:l.length<ao)(e:∀a∈l,te (a,s)=.ok (g a)):
 fW src (λ_=>.ok true) te s=.ok (l.map g):=by
 rw[uc (λ_=>true) g b c (λ_ _=>rfl) λa d _=>e a d,List.filter_eq_self.mpr λ_ _=>rfl]
theorem lT(xs:List W){i:Int}(h:0<=i):lp xs i=xs[i.toNat]?:=by
 unfold lp qc;rw[if_pos h];by_cases z:i<xs.length
 ·rw[Tq z];rfl
 ·rw[on z,T4 (by omega)];rfl
theorem wn(xs:List W):lp xs (-1)=xs.getLast?:=by
 unfold lp qc;rw[if_neg (by omega),List.getLast?_eq_getElem?];cases xs with
 |nil=>rfl
 |cons x r=>
   rw[Tq (by simp only[TD];omega)];show(x::r)[(-1+((x::r).length:Int)).toNat]?=_;rw[show(-1+((x::r).length:Int)).toNat=(x::r).length-1 by omega]
theorem Nl{n:Nat}{i:Int}(h:0<=i)(a:i<n):qc n i=some i.toNat:=by unfold qc;rw[if_pos h,if_pos a]
theorem gH(lo hi:Int):(dQ lo hi).length=(hi-lo).toNat:=by unfold dQ;simp
theorem gF{lo hi x:Int}:x∈dQ lo hi↔lo<=x/\x<hi:=by
 unfold dQ;rw[List.mem_map];constructor
 · rintro⟨i,a,rfl⟩
   have:=WL.mp a
   omega
 ·rintro⟨c,b⟩;exact⟨(x-lo).toNat,WL.mpr (by omega),by omega⟩
theorem yB{lo hi x:Int}{p r:List Int}(h:dQ lo hi=p++x::r):x=lo+p.length/\lo<=x/\x<hi:=by
 have b:x∈dQ lo hi:=by rw[h];simp
 have a:=gF.mp b;have e:(dQ lo hi)[p.length]?=some x:=by rw[h,Uw (TM _),V7];rfl
 unfold dQ at e;rw[List.getElem?_map]at e
 have c:p.length<(hi-lo).toNat:=by
  have:=gH lo hi
  rw[h,TU,TD]at this;omega
 rw[VI c]at e;injection e with e
 exact⟨e.symm,a⟩
theorem vh{F:DI X}{k:List Int}{v:X}(h:F.get k=some v):(k,v)∈F:=by
 unfold DI.get at h;obtain⟨p,hp,rfl⟩:=Option.map_eq_some_iff.mp h
 have:=List.find?_some hp
 have e:p.1=k:=by simpa using this
 subst e;exact List.mem_of_find?_eq_some hp
theorem ke{P:List Int->Prop}{F:DI X}{k:List Int}{v:X}(h:∀p∈F,P p.1)(b:P k):∀p∈F.put k v,P p.1:=by
 intro p hp;unfold DI.put at hp;split at hp
 ·obtain⟨q,a,rfl⟩:=T9.mp hp;split<;>exact h q a
 · rcases TY.mp hp with z|z
   ·exact h p z
   ·rw[TX.mp z];exact b
theorem sj{F:DI X}{k:List Int}{v:X}:(F.put k v).length<=F.length+1:=by
 unfold DI.put;split
 ·rw[Tv];omega
 ·rw[TU];simp
def DI.nd(F:DI X):Prop:=(F.map (·.1)).Nodup
theorem oG{F:DI X}{k:List Int}{v:X}(h:DI.nd F):DI.nd (F.put k v):=by
 unfold DI.nd DI.put at *;by_cases q:(F.get k).isSome=true
 · rw[Tq q,UG]
   have:(F.map ((·.1)∘λp=>if p.1=k then (p.1,v) else p))=F.map (·.1):=Vn λp _=>by
    show(if p.1=k then (p.1,v) else p).1=p.1;split<;>rfl
   rw[this];exact h
 · rw[on q,Uj];refine Uf.mpr ⟨h,by simp,λa d b c=>?_⟩;have e:b=k:=by simpa using c
   subst e;rintro rfl;obtain⟨p,hp,e⟩:=List.mem_map.mp d;apply q;unfold DI.get;rw[Option.isSome_map,List.find?_isSome];exact⟨p,hp,by simpa using e⟩
theorem fS{F:DI X}(h:DI.nd F){k:List Int}{v:X}(a:(k,v)∈F):F.get k=some v:=by
 unfold DI.nd at h
 induction F with
 |nil=>cases a
 |cons p F b=>
   rw[List.map_cons,List.nodup_cons]at h;unfold DI.get;rw[List.find?_cons];by_cases e:p.1=k
   · rw[UO e];rcases Tz.mp a with z|z
     ·rw[<-z];rfl
     ·exact absurd (T9.mpr ⟨(k,v),z,e.symm⟩) h.1
   · rw[Uo e];rcases Tz.mp a with z|z
     ·exact absurd (by rw[<-z]) e
     ·exact b h.2 z
end
section
variable{Z W X S L:Type}{rep:Z->L4}{eR:X->D}
def cJ(c:Nat):Z->FlC Z X:=λs=>.exc c s
theorem dH{c:Nat}:TJ rep eR (dC c) (cJ c):=λs=>rfl
def S5(free:Z->Bool):FlC Z X->FlC Z X
 |.nx s=>if free s=true then .nx s else .bad
 |_=>.bad
def BN(free:Z->Bool)(a:Nat->Bool)(b:Z->FlC Z X)(ch:Nat->Z->FlC Z X):Z->FlC Z X:=λs=>match b s with
 |.exc c s'=>if a c=true/\free s'=true then S5 free (ch c s') else .bad
 |.nx s'=>.nx s'
 |_=>.bad
theorem Ky{j:Option Nat}{a:Nat->Bool}{d:L4->SO}{e:Nat->L4->SO}{f:Z->FlC Z X}{ch:Nat->Z->FlC Z X}(l:TJ rep eR d f)(k:∀c,TJ rep eR (e c) (ch c)):
 TJ rep eR (BM j a d e) (BN (λs=>jK (rep s) j) a f ch):=λs=>by
 have h:=l s;unfold BM BN;cases q:f s with
 |nx s'=>rw[q]at h;rw[show d (rep s)=_ from h];exact rfl
 |exc c s'=>
   rw[q]at h;rw[show d (rep s)=_ from h];refine SimS.ite ?_ trivial;have g:=k c s';cases i:ch c s' with
   |nx m=>rw[i]at g;rw[show e c (rep s')=_ from g];exact SimS.ite rfl trivial
   |rt b s'=>trivial
   |bk s'=>trivial
   |ct s'=>trivial
   |exc x s'=>trivial
   |bad=>trivial
 |rt b s'=>trivial
 |bk s'=>trivial
 |ct s'=>trivial
 |bad=>trivial
end
end Cl
namespace Gd
open PySem L2
theorem qr:bootBuiltins "ValueError" = some (.type "ValueError"):=by decide +kernel
end Gd
namespace L2
open PySem PySem.Spec PyProof.Rows
theorem Ch{X:Cx}(K:F0)(h:X.K=K):Ti X (Lz K):=by subst h;exact GP
end L2
namespace Mi
open PySem L2
def Fp:D->D->Res D
 |.lst xs,.int k=>if 0<=k then .ok (.lst (xs.drop k.toNat)) else .bad
 |.scr xs,.int k=>if 0<=k then .ok (.lst (xs.drop k.toNat)) else .bad
 |_,_=>.bad
theorem vD{k:Int}(h:0<=k)(xs:List V):Bj xs (some k) none=xs.drop k.toNat:=by
 unfold Bj;have e:HT.uD xs.length 0 (some k)=min k.toNat xs.length:=by show(if k<0 then _ else _)=_;rw[if_neg (by omega)]
 rw[e,HT.CL];by_cases z:k.toNat<=xs.length
 ·rw[Nat.min_eq_left z,List.take_of_length_le (by rw[List.length_drop];omega)]
 ·rw[Nat.min_eq_right (by omega),V7,List.take_zero,Wz (by omega)]
section
variable{Y:Cm}{E:XK}{M:List Md}{Kr:KT D V}{pr:Nat->Bool}
theorem LW{l tb:TE}{n m:L4->Res D}(s:PJ Y (KC Y .F) E M l n)(r:PJ Y (KR Y .X) E M tb m):PJ Y (KO Y (.ct .fz)) E M (tSl (Lz Y.K) l (IM tb) yn) (bn Fp n m):=by
 intro B U I Z H T Q R P;refine s.bnd R P λx v B1 U1 H1 L _ t e1 A f W=>r.bnd t W λy u q o j C _ R2 d w e c=>?_;have f:Cn Y B1 H1 x v:=f;have e:Dn Y j y u:=e;cases y with
 |int k=>
   rw[Dn]at e;subst e;refine⟨k,rfl,?_⟩;cases x with
   |lst ds=>
     obtain⟨a,xs,rfl,i,g⟩:=f;replace c:Po Y (KO Y (.ct .fz)) E M q o I Z j T (if 0<=k then .ok (.lst (ds.drop k.toNat)) else .bad) Q:=c;by_cases z:0<=k
     ·rw[Tq z]at c;refine⟨a,xs,rfl,SqL.of (d.h _ _ i),λp hp=>?_⟩;rw[vD z];exact fK R2 c ((g.mono d.b).drop _) hp
     ·rw[on z]at c;exact c.elim
   |scr ds=>
     obtain⟨a,xs,rfl,i,g⟩:=f;replace c:Po Y (KO Y (.ct .fz)) E M q o I Z j T (if 0<=k then .ok (.lst (ds.drop k.toNat)) else .bad) Q:=c;by_cases z:0<=k
     ·rw[Tq z]at c;refine⟨a,xs,rfl,(i.mono d.h).sq,λp hp=>?_⟩;rw[vD z];exact fK R2 c ((g.mono d.b).drop _) hp
     ·rw[on z]at c;exact c.elim
   |_=>exact c.elim
 |_=>cases x<;>exact c.elim
open Classical in
noncomputable def mZ(i:Nat)(a:List D)(b:D->L4->Option L4)(body:L4->SO):List D->L4->SO
 |[],T=>if rg T i=some (.lst a) then .nx T else .bad
 | d::ds,T=>if rg T i=some (.lst a) then (match b d T with
   |none=>.bad
   | some c=>match body c with
     |.nx G=>mZ i a b body ds G
     |.ct G=>mZ i a b body ds G
     |.bk G=>.nx G
     |o=>o) else .bad
noncomputable def u7(i:Nat)(a:D->L4->Option L4)(body:L4->SO):L4->SO:=λT=>match rg T i with
 |some (.lst ds)=>mZ i ds a body ds T
 |_=>.bad
theorem Kp.weak{pr b:Nat->Bool}{Z a:St}(k:Kp b Z a)(h:∀j,pr j=true->b j=true):Kp pr Z a:=λj c=>k j (h j c)
theorem Ln{i:Nat}{g:TG}{tb:TS}{tg:D->L4->Option L4}{body:L4->SO}(hm:M.getD i .F= .O (.ct .fz))(hg:TJ Y .F (λj=>pr j||decide (j=i)) M g tg)(hb:SJ Y E Kr (λj=>pr j||decide (j=i)) M tb body):
 SJ Y E Kr pr M (KE (q9 Y.K (cR i)) g tb) (u7 i tg body):=by
 intro B U I Z H T Dn' R P;unfold u7 at P
 have read:∀{B U H:Hp} {I:Nat->List Addr} {Z:St} {T:L4} {ds:List D},Rel Y M B U I Z H T->rg T i=some (.lst ds)->∃a xs,rg Z i=some (.ref a)/\H a=some (.lst xs)/\Dns Y B ds xs:=λ{B U H I Z T ds} R e=>by
  have l:=R.lo i;rw[e,hm]at l;obtain⟨v,hv,l⟩:=l;obtain⟨a,xs,rfl,h1,h2⟩:=Ow.cn (Y:=Y) R.bh (show Ow Y B H (.lst ds) (.ct .fz) v (I i) from l);exact⟨a,xs,hv,h1,h2⟩
 have up:∀j,pr j=true->(pr j||decide (j=i))=true:=λj h=>by rw[h];rfl
 have uw:∀{Z p:St},Kp (λj=>pr j||decide (j=i)) Z p->Kp pr Z p:=λk=>Kp.weak k up;cases e:rg T i with
 |none=>rw[e]at P;exact P.elim
 |some d0=>
   rw[e]at P;cases d0 with
   |lst ds=>
     obtain⟨a,xs,hv,h1,h2⟩:=read R e;refine⟨.ref a,b9 hv,a,rfl,⟨xs,SqL.of h1⟩,?_⟩;refine⟨λn m p H'=>n<=ds.length/\m=ds.length-n/\∃Q G t f,Rel Y M Q G t p H' f/\Ex B U Q G/\Kp (λj=>pr j||decide (j=i)) Z p/\So Y E Kr pr M B U Z (mZ i ds tg body (ds.drop n) f) Dn',⟨_,UN _,rfl,B,U,I,T,R,Ex.refl _ _,Kp.refl _ _,P⟩,?_⟩;rintro n m p H' ⟨hi,rfl,Q,G,t,f,R2,X,k2,b⟩
     have hd:rg f i=some (.lst ds):=by
      cases hdr:ds.drop n with
      |nil=>rw[hdr,mZ]at b;split at b;assumption;exact b.elim
      |cons d r=>rw[hdr,mZ]at b;split at b;assumption;exact b.elim
     obtain⟨a2,w,hv2,h12,h22⟩:=read R2 hd
     have:a2=a:=by
      have:=k2 i (by simp)
      rw[hv,hv2]at this;cases this;rfl
     subst this;have hl:=h22.len;have sq:SqL Y.K H' a2 w:=SqL.of h12;by_cases hlt:n<ds.length
     · obtain⟨x,ex⟩:∃x,w[n]?=some x:=⟨_,TV (by omega)⟩;refine .inr ⟨⟨w,x,sq,ex⟩,λu H''=>n+1<=ds.length/\∃Q G t f,Rel Y M Q G t u H'' f/\Ex B U Q G/\Kp (λj=>pr j||decide (j=i)) Z u/\So Y E Kr pr M B U Z (mZ i ds tg body (ds.drop (n+1)) f) Dn',λu H'' ⟨h1,h2⟩=>⟨ds.length-(n+1),by omega,h1,rfl,h2⟩,λy Hx hy=>?_⟩;obtain⟨rfl,ev⟩:=hy;have ev:=ev w sq;obtain⟨d,ed,dd⟩:=h22.geti ev;rw[js ed,mZ,Tq hd]at b;cases et:tg d f with
       |none=>rw[et]at b;exact b.elim
       |some S=>
         rw[et]at b;refine hg Q G t p Hx f d y S _ R2 dd et λσ3 As3 R3 k3=>?_;refine hb Q G As3 σ3 Hx S _ R3 ?_;dsimp only at b;cases W:body S with
         |nx s=>
           rw[W]at b;exact λq L C o V J A z=>⟨hlt,L,C,o,s,J,X.trans A,(k2.trans k3).trans z,b⟩
         |ct s=>
           rw[W]at b;exact λq L C o V J A z=>⟨hlt,L,C,o,s,J,X.trans A,(k2.trans k3).trans z,b⟩
         |bk s=>
           rw[W]at b;exact λq L C o V J A z=>b q L C o V J (X.trans A) (uw ((k2.trans k3).trans z))
         |rt d s=>
           rw[W]at b;exact λv q L C o V N J A z=>b v q L C o V N J (X.trans A) (uw ((k2.trans k3).trans z))
         |exc c s=>
           rw[W]at b;exact λq L C o V J A z=>b q L C o V J (X.trans A) (uw ((k2.trans k3).trans z))
         |bad=>rw[W]at b;exact b.elim
     · have en:n=ds.length:=by omega
       subst en;rw[V0,mZ,Tq hd]at b;exact .inl ⟨⟨w,sq,by omega⟩,b p Q G t H' R2 X (uw k2)⟩
   |_=>exact P.elim
end
end Mi
namespace Cl
open PySem L2 Mi
section
variable{Z W X S L:Type}{rep:Z->L4}{eR:X->D}
@[simp] def Ki(xs:List W)(k:Int):Res (List W):=if 0<=k then .ok (xs.drop k.toNat) else .bad
theorem Hl(xs:List Int)(k:Int):SimR (eL D.int) (Fp (eS xs) (.int k)) (Ki xs k):=by
 show SimR (eL D.int) (if 0<=k then .ok (.lst ((xs.map D.int).drop k.toNat)) else .bad) (if 0<=k then .ok (xs.drop k.toNat) else .bad);rw[<-List.map_drop];exact SimR.ite rfl trivial
open Classical in
noncomputable def kE(g:Z->Option (List W))(l0:List W)(u:W->Z->Z)(body:Z->FlC Z X):List W->Z->FlC Z X
 |[],s=>if g s=some l0 then .nx s else .bad
 | a::r,s=>if g s=some l0 then (match body (u a s) with
   |.nx s'=>kE g l0 u body r s'
   |.ct s'=>kE g l0 u body r s'
   |.bk s'=>.nx s'
   |o=>o) else .bad
noncomputable def sJ(g:Z->Option (List W))(u:W->Z->Z)(body:Z->FlC Z X):Z->FlC Z X:=λs=>match g s with
 |some l=>kE g l u body l s
 |none=>.bad
theorem nM{e:W->D}{i:Nat}{g:Z->Option (List W)}{d:D->L4->Option L4}{body:L4->SO}{u:W->Z->Z}{c:Z->FlC Z X}(f:∀s,rg (rep s) i=(g s).map (eL e))(j:∀a s,d (e a) (rep s)=some (rep (u a s)))(h:TJ rep eR body c)(l0:List W):
 ∀(xs:List W) (s:Z),SimS rep eR (mZ i (l0.map e) d body (xs.map e) (rep s)) (kE g l0 u c xs s)
 | [],s=>by
   rw[Uz,mZ,kE];by_cases z:g s=some l0
   ·rw[Tq z,Tq (by rw[f,z];rfl)];exact rfl
   ·rw[on z];trivial
 | a::r,s=>by
   rw[Tr,mZ,kE];by_cases z:g s=some l0
   · rw[if_pos z,if_pos (by rw[f,z];rfl),j a s];have h:=h (u a s);dsimp only;cases q:c (u a s) with
     |nx s'=>rw[q]at h;rw[show body (rep (u a s))=_ from h];exact nM f j ‹_› l0 r s'
     |ct s'=>rw[q]at h;rw[show body (rep (u a s))=_ from h];exact nM f j ‹_› l0 r s'
     |bk s'=>rw[q]at h;rw[show body (rep (u a s))=_ from h];exact rfl
     |rt b s'=>rw[q]at h;rw[show body (rep (u a s))=_ from h];exact rfl
     |exc x s'=>rw[q]at h;rw[show body (rep (u a s))=_ from h];exact rfl
     |bad=>trivial
   ·rw[on z];trivial
theorem BO{e:W->D}{i:Nat}{g:Z->Option (List W)}{b:D->L4->Option L4}{body:L4->SO}{u:W->Z->Z}{c:Z->FlC Z X}(d:∀s,rg (rep s) i=(g s).map (eL e))(f:∀a s,b (e a) (rep s)=some (rep (u a s)))(h:TJ rep eR body c):
 TJ rep eR (u7 i b body) (sJ g u c):=λs=>by
 unfold u7 sJ;rw[d s];cases q:g s with
 |none=>trivial
 |some l=>exact nM d f h l l s
theorem o8{g:Z->Option (List W)}{l0:List W}{u:W->Z->Z}{body:Z->FlC Z X}(R:Z->Prop)(b:∀s,R s->g s=some l0)(c:∀a s,R s->∀s',body (u a s)=.nx s'\/body (u a s)=.ct s'->R s'):∀(xs:List W) (s:Z),R s->kE g l0 u body xs s=kH u body xs s
 |[],s,h=>by rw[kE,kH,Tq (b s h)]
 | a::r,s,h=>by
   rw[kE,kH,Tq (b s h)];cases q:body (u a s) with
   |nx s'=>exact o8 R b c r s' (c a s h s' (.inl q))
   |ct s'=>exact o8 R b c r s' (c a s h s' (.inr q))
   |_=>rfl
end
section
variable{Z σ' W X S L:Type}{rep:Z->L4}{Y:σ'->L4}
variable{α0 α1 α2 α3 α4 α5 α6 α7:Type}{e0:α0->D}{e1:α1->D}{e2:α2->D}{e3:α3->D}{e4:α4->D}{e5:α5->D}{e6:α6->D}{e7:α7->D}{m0 m1 m2 m3 m4 m5 m6 m7:L4->Res D}{c0:Z->Res α0}{c1:Z->Res α1}{c2:Z->Res α2}{c3:Z->Res α3}{c4:Z->Res α4}{c5:Z->Res α5}{c6:Z->Res α6}{c7:Z->Res α7}{eR:S->D}{fm:List D->Out D}{w:σ'->Z->Z}{plan:List Ap}{c:Nat}{mn:Str}
@[simp] def Pj(f:α0->α1->α2->α3->α4->α5->OutC σ' S)(c0:Z->Res α0)(c1:Z->Res α1)(c2:Z->Res α2)(c3:Z->Res α3)(c4:Z->Res α4)(c5:Z->Res α5):Z->Res S:=λs=>(c0 s).bind λg=>(c1 s).bind λe=>(c2 s).bind λd=>(c3 s).bind λc=>(c4 s).bind λb=>(c5 s).bind λa=>(f g e d c b a).res
theorem Nv{f:α0->α1->α2->α3->α4->α5->OutC σ' S}(h:∀g e d c b a,SimO Y eR (fm [e0 g,e1 e,e2 d,e3 c,e4 b,e5 a]) (f g e d c b a))(h0:EJ rep e0 m0 c0)(m:EJ rep e1 m1 c1)(l:EJ rep e2 m2 c2)(k:EJ rep e3 m3 c3)(j:EJ rep e4 m4 c4)(i:EJ rep e5 m5 c5):EJ rep eR (pc fm (aE m0 (aE m1 (aE m2 (aE m3 (aE m4 (aE m5 bj))))))) (Pj f c0 c1 c2 c3 c4 c5):=λs=>n0 h0 λg=>n0 m λe=>n0 l λd=>n0 k λc=>n0 j λb=>n0 i λa=>(h g e d c b a).res
end
end Cl
namespace Mi
open PySem L2
section
variable{Y:Cm}{E:XK}{M:List Md}{K:F0}
structure Prt (Y:Cm) (M:List Md) (t:TE) (get:L4->Option D) (set:L4->D->L4) (i:Nat) (s:Sh):Prop where
 rd:∀{B U:Hp} {I:Nat->List Addr} {Z:St} {H:Hp} {T:L4} {d:D},Rel Y M B U I Z H T->get T=some d->∃sh v0 d0 v L A R,M.getD i .F= .O sh/\rg Z i=some v0/\rg T i=some d0/\I i=L++(A++R)/\(∀Q:VK,Q v H->t Z H Q)/\Ow Y B H d s v A/\
  ∀B1 H1 d' A1,Same B B1->(∀a,a∈L\/a∈R->H1 a=H a)->Ow Y B1 H1 d' s v A1->∃D',Ow Y B1 H1 D' sh v0 (L++(A1++R))/\set T d'=T.set i (some D')
theorem AC{i:Nat}{sh:Sh}(b:M.getD i .F= .O sh):Prt Y M (cR i) (dD i) (iH i) i sh where
 rd:=λ{B U I Z H T d} R e=>by
  replace e:rg T i=some d:=e;have l:=R.lo i;rw[e,b]at l;obtain⟨v,a,w⟩:=l;exact⟨sh,v,d,v,[],I i,[],b,a,e,by simp,λQ q=>⟨v,b9 a,q⟩,w,λB1 H1 d' A1 _ _ c=>⟨d',by simpa using c,rfl⟩⟩
theorem Owf.lens{sh:List (Str×Sh)}{f:Str}{B H:Hp}:∀{fs:List (Str×V)} {ds:List D} {A:List Addr} {d:D},Owf Y B H ds (fs.map (·.1)) sh (fs.map (·.2)) A->bC (fs.map (·.1)) ds f=some d->
 ∃v L A1 R,fs.lookup f=some v/\A=L++(A1++R)/\Ow Y B H d ((sh.lookup f).getD .fz) v A1/\∀B1 H1 d' g,Same B B1->(∀a,a∈L\/a∈R->H1 a=H a)->Ow Y B1 H1 d' ((sh.lookup f).getD .fz) v g->Owf Y B1 H1 (dL (fs.map (·.1)) ds f d') (fs.map (·.1)) sh (fs.map (·.2)) (L++(g++R))
 |[],ds,A,d,h,e=>by cases ds<;>cases e
 | p::fs,ds,A,d,h,e=>by
   cases ds with
   |nil=>cases e
   |cons d0 ds=>
     rw[List.map_cons,List.map_cons,Owf]at h;obtain⟨n,t,x,r,l,o,y,h0,E,j,m⟩:=h;cases y;cases h0;subst E;rw[List.map_cons]at e;unfold bC at e;by_cases q:p.1=f
     ·rw[Tq q]at e;cases e;rw[q]at j;refine⟨p.2,[],l,o,by rw[Ud,<-q,UX],rfl,j,λB1 H1 d' g i k w=>?_⟩;rw[Tr,Tr,dL,Tq q,Owf];exact⟨p.1,_,p.2,_,g,o,rfl,rfl,rfl,by rw[q];exact w,Owf.mono i (λb c=>k b (.inr c)) m⟩
     ·rw[on q]at e;obtain⟨v,L,A1,R,u,C,s,F⟩:=Owf.lens m e;have c:(f==p.1)=false:=Ui.mpr λz=>q z.symm;refine⟨v,l++L,A1,R,by rw[Ud,c];exact u,by rw[C,UE],s,λB1 H1 d' g i k w=>?_⟩;rw[Tr,Tr,dL,on q,Owf];exact⟨p.1,_,p.2,_,l,L++(g++R),rfl,rfl,by rw[UE],Ow.mono i (λb c=>k b (.inl (TL _ c))) j,F B1 H1 d' g i (λb c=>k b (c.imp (λz=>Tw _ z) id)) w⟩
theorem Ows.lens{s:Sh}{B H:Hp}:∀{ds:List D} {xs:List V} {A:List Addr} {n:Nat} {d:D},Ows Y B H ds s xs A->ds[n]?=some d->
 ∃v L A1 R,xs[n]?=some v/\A=L++(A1++R)/\Ow Y B H d s v A1/\∀B1 H1 d' c,Same B B1->(∀a,a∈L\/a∈R->H1 a=H a)->Ow Y B1 H1 d' s v c->Ows Y B1 H1 (ds.set n d') s xs (L++(c++R))
 |[],xs,A,n,d,h,e=>by cases e
 | d0::ds,xs,A,n,d,h,e=>by
   rw[Ows]at h;obtain⟨x,r,i,m,rfl,t,l,j⟩:=h;subst t;cases n with
   |zero=>
     cases e;refine⟨x,[],i,m,rfl,rfl,l,λB1 H1 d' c g k w=>?_⟩;rw[Wc,Ows];exact⟨x,r,c,m,rfl,rfl,w,Ows.mono g (λb f=>k b (.inr f)) j⟩
   |succ n=>
     obtain⟨v,L,A1,R,p,q,o,u⟩:=Ows.lens (n:=n) j (by simpa using e);refine⟨v,i++L,A1,R,by simpa using p,by rw[q,UE],o,λB1 H1 d' c g k w=>?_⟩;rw[Wd,Ows];exact⟨x,r,i,L++(c++R),rfl,by rw[UE],Ow.mono g (λb f=>k b (.inl (TL _ f))) l,u B1 H1 d' c g (λb f=>k b (f.imp (λz=>Tw _ z) id)) w⟩
def iX(get:L4->Option D)(c:Nat)(f:Str):L4->Option D:=λT=>match get T with
 |some (.obj a ns vs)=>if a=c then bC ns vs f else none
 |_=>none
def nP(get:L4->Option D)(set:L4->D->L4)(f:Str):L4->D->L4:=λT d=>match get T with
 |some (.obj c ns vs)=>set T (.obj c ns (dL ns vs f d))
 |_=>T
theorem Ow.ob{B H:Hp}{c:Nat}{ns:List Str}{ds:List D}{fs:List (Str×Sh)}{v:V}{A:List Addr}(w:Ow Y B H (.obj c ns ds) (.ob fs) v A):∃(a dx:Addr) (xs:List (Str×V)) (b:List Addr),v=.ref a/\H a=some (.ins (Y c) dx xs)/\xs.map (·.1)=ns/\A=a::b/\Owf Y B H ds ns fs (xs.map (·.2)) b:=by rw[Ow]at w;exact w
theorem Ow.ob'{B H:Hp}{c:Nat}{ds:List D}{fs:List (Str×Sh)}{a dx:Addr}{xs:List (Str×V)}{b:List Addr}(h:H a=some (.ins (Y c) dx xs))(k:Owf Y B H ds (xs.map (·.1)) fs (xs.map (·.2)) b):Ow Y B H (.obj c (xs.map (·.1)) ds) (.ob fs) (.ref a) (a::b):=by rw[Ow];exact⟨a,dx,xs,b,rfl,h,rfl,rfl,k⟩
theorem Ow.ls{B H:Hp}{ds:List D}{s:Sh}{v:V}{A:List Addr}(w:Ow Y B H (.lst ds) (.ct s) v A):∃(a:Addr) (xs:List V) (b:List Addr),v=.ref a/\H a=some (.lst xs)/\A=a::b/\Ows Y B H ds s xs b:=by rw[Ow]at w;exact w
theorem Ow.ls'{B H:Hp}{ds:List D}{s:Sh}{a:Addr}{xs:List V}{b:List Addr}(h:H a=some (.lst xs))(k:Ows Y B H ds s xs b):Ow Y B H (.lst ds) (.ct s) (.ref a) (a::b):=by rw[Ow];exact⟨a,xs,b,rfl,h,rfl,k⟩
theorem AD{t:TE}{get:L4->Option D}{set:L4->D->L4}{i c:Nat}{f:Str}{fs:List (Str×Sh)}{s:Sh}(p:Prt Y M t get set i (.ob fs))(P:Cls K (Y c))(J:NoAttr K (Y c) f)(O:(fs.lookup f).getD .fz=s):
 Prt Y M (qd K t f) (iX get c f) (nP get set f) i s where
 rd:=λ{B U I Z H T d} R e=>by
  unfold iX at e;cases e0:get T with
  |none=>rw[e0]at e;cases e
  |some X=>
    cases X with
    |obj n ns vs=>
      rw[e0]at e;replace e:(if n=c then bC ns vs f else none)=some d:=e;by_cases q:n=c
      ·subst q;rw[if_pos rfl]at e;obtain⟨sh,y,d0,v,L,A,o,N,E,hd,S,G,C,cl⟩:=p.rd R e0;obtain⟨a,dx,xs,A',rfl,m,rfl,rfl,V⟩:=C.ob;obtain⟨u,L2,A1,R2,F,rfl,g,h⟩:=Owf.lens V e;rw[O]at g h;refine⟨sh,y,d0,u,L++(a::L2),A1,R2++o,N,E,hd,by rw[S];simp[List.append_assoc],λQ q=>G _ ⟨a,_,dx,xs,u,rfl,m,P,J,F,q⟩,g,λB1 H1 d' A2 l k w=>?_⟩;have k1:∀b,b∈L\/b∈o->H1 b=H b:=λb j=>k b (j.imp (λz=>List.mem_append_left _ z) λz=>List.mem_append_right _ z);have k2:H1 a=H a:=k a (.inl (List.mem_append_right _ List.mem_cons_self));have x:=h B1 H1 d' A2 l (λb j=>k b (j.imp (λz=>List.mem_append_right _ (List.mem_cons_of_mem _ z)) λz=>List.mem_append_left _ z)) w;obtain⟨D',r,W⟩:=cl B1 H1 _ _ l k1 (Ow.ob' (by rw[k2];exact m) x);refine⟨D',by simpa [List.append_assoc] using r,?_⟩;unfold nP;rw[e0];exact W
      ·rw[on q]at e;cases e
    |_=>rw[e0]at e;cases e
def IxJ(Y:Cm)(M:List Md)(a:TE)(mk:L4->Option Int):Prop:=∀{B U:Hp} {I:Nat->List Addr} {Z:St} {H:Hp} {T:L4} {k:Int},Rel Y M B U I Z H T->mk T=some k->∀Q:VK,Q (.int k) H->a Z H Q
def E2(j:Nat):L4->Option Int:=λT=>match rg T j with
 |some (.int k)=>some k
 |_=>none
theorem sO{j:Nat}:IxJ Y M (cR j) (E2 j):=λ{B U I Z H T k} R e Q q=>by
 unfold E2 at e;have l:=R.lo j;cases e0:rg T j with
 |none=>rw[e0]at e;cases e
 |some d=>
   cases d with
   |int n=>
     rw[e0]at e l;cases e;obtain⟨v,b,w⟩:=l
     have:v=.int k:=by
      cases a:M.getD j .F with
      |F=>rw[a]at w;have w:=w.1;rw[Dn]at w;exact w
      |R=>rw[a]at w;have w:=w.1;rw[Dn]at w;exact w
      |O s=>
        rw[a]at w;cases s with
        |fz=>have w:Ow Y B H (.int k) .fz v (I j):=w;rw[Ow]at w;have w:=w.1;rw[Dn]at w;exact w
        |ct s=>have w:Ow Y B H (.int k) (.ct s) v (I j):=w;simp[Ow]at w
        |ob s=>have w:Ow Y B H (.int k) (.ob s) v (I j):=w;simp[Ow]at w
     subst this;exact⟨_,b9 b,q⟩
   |_=>rw[e0]at e;cases e
def ml(get:L4->Option D)(mk:L4->Option Int):L4->Option D:=λT=>match get T,mk T with
 |some (.lst xs),some k=>if 0<=k then xs[k.toNat]? else none
 |_,_=>none
def nO(get:L4->Option D)(set:L4->D->L4)(mk:L4->Option Int):L4->D->L4:=λT d=>match get T,mk T with
 |some (.lst xs),some k=>set T (.lst (xs.set k.toNat d))
 |_,_=>T
theorem G5{t j:TE}{get:L4->Option D}{set:L4->D->L4}{mk:L4->Option Int}{i:Nat}{s:Sh}(p:Prt Y M t get set i (.ct s))(N:IxJ Y M j mk):Prt Y M (Ao (GZ K) t j) (ml get mk) (nO get set mk) i s where
 rd:=λ{B U I Z H T d} R e=>by
  unfold ml at e;cases e0:get T with
  |none=>rw[e0]at e;cases e
  |some V=>
    cases V with
    |lst ds=>
      cases e1:mk T with
      |none=>rw[e0,e1]at e;cases e
      |some k=>
        rw[e0,e1]at e;replace e:(if 0<=k then ds[k.toNat]? else none)=some d:=e;by_cases q:0<=k
        ·rw[if_pos q]at e;obtain⟨sh,x,d0,v,L,A,n,J,E,hd,O,G,C,W⟩:=p.rd R e0;obtain⟨a,xs,A',rfl,m,rfl,P⟩:=C.ls;obtain⟨u,L2,A1,R2,F,rfl,c,h⟩:=Ows.lens P e;refine⟨sh,x,d0,u,L++(a::L2),A1,R2++n,J,E,hd,by rw[O];simp[List.append_assoc],λQ y=>G _ (N R e1 _ ⟨a,xs,k,u,rfl,rfl,SqL.of m,by rw[Cl.lT xs q];exact F,y⟩),c,λB1 H1 d' A2 l f w=>?_⟩;have k1:∀b,b∈L\/b∈n->H1 b=H b:=λb g=>f b (g.imp (λz=>List.mem_append_left _ z) λz=>List.mem_append_right _ z);have k2:H1 a=H a:=f a (.inl (List.mem_append_right _ List.mem_cons_self));have r:=h B1 H1 d' A2 l (λb g=>f b (g.imp (λz=>List.mem_append_right _ (List.mem_cons_of_mem _ z)) λz=>List.mem_append_left _ z)) w;obtain⟨X,o,S⟩:=W B1 H1 _ _ l k1 (Ow.ls' (by rw[k2];exact m) r);refine⟨X,by simpa [List.append_assoc] using o,?_⟩;unfold nO;rw[e0,e1];exact S
        ·rw[on q]at e;cases e
    |_=>rw[e0]at e;cases e
theorem LB{t:TE}{get:L4->Option D}{set:L4->D->L4}{i:Nat}(p:Prt Y M t get set i (.ct .fz)):Pth Y M t get set where
 rd:=λ{B U I Z H T d} R e=>by
  obtain⟨sh,O,d0,v,L,A,N,F,C,hd,g,E,y,J⟩:=p.rd R e;have nd:=R.nd i;rw[g]at nd;obtain⟨_,k,j⟩:=Uf.mp nd;obtain⟨_,_,h⟩:=Uf.mp k;refine⟨v,A,E,y,λa f=>⟨i,by rw[g];exact Tw _ (TL _ f)⟩,λB1 U1 H1 K w x a f o' d' u=>?_⟩;have q:a∈I i:=by rw[g];exact Tw _ (TL _ f)
  have l:∀b,b∈L\/b∈N->upd H1 a o' b=H b:=λb c=>by
   have n:b∈I i:=by
    rw[g];rcases c with c|c
    ·exact TL _ c
    ·exact Tw _ (Tw _ c)
   have m:b≠a:=λz=>by
    subst z;rcases c with c|c
    ·exact j b c b (TL _ f) rfl
    ·exact h b f b c rfl
   rw[ay m];obtain⟨o,r⟩:=R.at n;rw[r,x _ _ r]
  obtain⟨P,s,G⟩:=J B1 (upd H1 a o') d' A w l u;rw[G];exact K.mut F C hd q (by rw[g];exact s)
end
section
variable{Y:Cm}{E:XK}{M:List Md}{K:F0}{B U H:Hp}{I:Nat->List Addr}{Z:St}{T:L4}
def AB(M:List Md)(n:Nat)(s:Sh):List Md:=(List.range (max M.length (n+1))).map λj=>if j=n then .O s else M.getD j .F
theorem kg{n:Nat}{s:Sh}(j:Nat):(AB M n s).getD j .F=if j=n then .O s else M.getD j .F:=by
 unfold AB;rw[List.getD_eq_getElem?_getD,List.getElem?_map];by_cases h:j<max M.length (n+1)
 ·rw[VI h];rfl
 · rw[T4 (by rw[VT];omega)];have a:¬ j=n:=by omega
   rw[on a,TR,T4 (by omega)];rfl
def gP(set:L4->D->L4)(b:List D->Out D)(d:D)(ds:List D)(T:L4):Out D:=match b (d::ds) with
 |.ok x a=>(match rg a 0 with|some d'=>.ok x (set T d')|none=>.bad)
 |.exc c a=>(match rg a 0 with|some d'=>.exc c (set T d')|none=>.bad)
 |.bad=>.bad
theorem jh:∀{ps:List Ap} {j:Nat} {a T:L4},dG ps=[]->cI ps j a T=T
 |[],_,_,_,_=>rfl
 | p::r,j,a,T,h=>by
   cases p with
   |O i=>cases h
   |F=>rw[cI];exact jh h;all_goals simp
   |U=>rw[cI];exact jh h;all_goals simp
   |X=>rw[cI];exact jh h;all_goals simp
   |Bo i=>rw[cI];exact jh h;all_goals simp
theorem fitM.any{b:List Md}:∀{ps:List Ap} {mc:List Md},dG ps=[]->fitM M ps mc->fitM b ps mc
 |[],[],_,_=>trivial
 |[],_::_,_,h=>h.elim
 |_::_,[],_,h=>h.elim
 | p::ps,m::r,a,h=>by
   cases p with
   |O i=>cases a
   |F=>exact⟨by cases m <;> first | trivial | exact h.1.elim,fitM.any a h.2⟩
   |U=>exact⟨by cases m <;> first | trivial | exact h.1.elim,fitM.any a h.2⟩
   |X=>exact⟨by cases m<;>exact h.1.elim,fitM.any a h.2⟩
   |Bo i=>exact⟨by cases m <;> first | trivial | exact h.1.elim,fitM.any a h.2⟩
theorem Ag.plus{U1:Hp}{c:St}{e:L4}{i:Nat}(f:Same U U1)(a:∀j v,rg Z j=some v->rg c j=some v)(b:∀j d,j≠i->rg T j=some d->rg e j=some d):
 ∀{ps:List Ap} {ds:List D} {vs:List V},dG ps=[]->i∉jX ps->Ag Y B U H Z T ps ds vs->Ag Y B U1 H c e ps ds vs
 |[],_,_,_,_,h=>h
 | p::ps,ds,vs,g,l,h=>by
   obtain⟨d,o,v,vr,rfl,rfl,m,n⟩:=h;cases p with
   |O k=>cases g
   |F=>exact⟨d,o,v,vr,rfl,rfl,m,Ag.plus f a b g l n⟩
   |U=>exact⟨d,o,v,vr,rfl,rfl,Dn.mono f m,Ag.plus f a b g l n⟩
   |X=>exact⟨d,o,v,vr,rfl,rfl,m,Ag.plus f a b g l n⟩
   |Bo k=>exact⟨d,o,v,vr,rfl,rfl,⟨a k v m.1,b k d (λz=>l (by rw[z];exact Tu)) m.2⟩,Ag.plus f a b g (λz=>l (Tt _ z)) n⟩
theorem fg{W:Type}{l:List (Option W)}{x:Option W}{j:Nat}:rg (l++[x]) j=if j=l.length then x else rg l j:=by
 unfold rg;by_cases h:j<l.length
 ·rw[UB h,on (by omega)]
 · rw[Uw (by omega)];by_cases e:j=l.length
   ·rw[Tq e,e,V7];rfl
   ·rw[on e,T4 (by simp;omega),T4 (by omega)]
open Classical in
theorem He{i:Nat}{s sh:Sh}{v0 v:V}{d0 d:D}{L A l:List Addr}{set:L4->D->L4}{msR:List Md}{Kr:KT D V}{fm:List D->Out D}{ps:List Ap}{ds:List D}{vs:List V}{Q:VK}(R:Rel Y M B U I Z H T)
 (hm:M.getD i .F= .O sh) (hv:rg Z i=some v0) (hd:rg T i=some d0) (hA:I i=L++(A++l)) (ow:Ow Y B H d s v A)
 (cl:∀B1 H1 d' A1,Same B B1->(∀a,a∈L\/a∈l->H1 a=H a)->Ow Y B1 H1 d' s v A1->∃D',Ow Y B1 H1 D' sh v0 (L++(A1++l))/\set T d'=T.set i (some D'))
 (G:Ag Y B U H Z T ps ds vs) (hf:fitM M ps msR) (hl:dG ps=[]) (hb:i∉jX ps) (hU:∀d v B U J H N,Kr d v B U H N->Kr d v B J H N) (P:Mo Y Kr E M B U Z (gP set fm d ds T) Q):dt Y (.O s::msR) Kr fm (v::vs) H Q E:=by
 have hi:i<T.length:=(TW.mp (b9 hd)).1;have K:=R.len;have nd:=R.nd i;rw[hA]at nd;obtain⟨ndL,nd2,nd3⟩:=Uf.mp nd;obtain⟨ndA,ndR,nd4⟩:=Uf.mp nd2
 have inI:∀{a},a∈L\/a∈l->a∈I i:=λ{a} h=>by
  rw[hA];rcases h with h|h
  ·exact TL _ h
  ·exact Tw _ (Tw _ h)
 have inA:∀{a},a∈A->a∈I i:=λ{a} h=>by rw[hA];exact Tw _ (TL _ h)
 have offA:∀{a},a∈A->¬ (a∈L\/a∈l):=λ{a} h z=>by
  rcases z with z|z
  ·exact nd3 a z a (TL _ h) rfl
  ·exact nd4 a h a z rfl
 obtain⟨Up,up1,up2⟩:∃Up:Hp,(∀a,a∈L\/a∈l->Up a=H a)/\∀a,¬ (a∈L\/a∈l)->Up a=U a:=⟨λa=>if a∈L\/a∈l then H a else U a,λa h=>Tq h,λa h=>on h⟩
 have sUp:Same U Up:=λa o q=>by
  by_cases z:a∈L\/a∈l
  ·rw[up1 a z];exact R.uh a o q
  ·rw[up2 a z];exact q
 have upH:Same Up H:=λa o q=>by
  by_cases z:a∈L\/a∈l
  ·rw[up1 a z]at q;exact q
  ·rw[up2 a z]at q;exact R.uh a o q
 have Rp:Rel Y (AB M T.length s) B Up (λj=>if j=T.length then A else if j=i then [] else I j) (Z++[some v]) H (T.set i none++[some d]):=by
  have lr:(T.set i (none:Option D)).length=T.length:=T5 ..;refine⟨R.bu.trans sUp,upH,λj=>?_,λj k a X f g=>?_,λj a f=>?_,λj=>?_,by rw[TU,TU,lr,K];rfl,R.tb⟩
  · try dsimp only
    split
    ·exact ndA
    · split
      ·exact Uu
      ·exact R.nd j
  · try dsimp only at f g
    split at f
    · split at g
      ·exact X (by omega)
      · split at g
        ·cases g
        ·rename_i m r h3;exact R.dj i k a (λz=>h3 z.symm) (inA f) g
    · split at f
      ·cases f
      · split at g
        ·rename_i m r h3;exact R.dj j i a r f (inA g)
        · split at g
          ·cases g
          ·exact R.dj j k a X f g
  · try dsimp only at f
    split at f
    ·rw[up2 a (offA f)];exact R.un i a (inA f)
    · split at f
      ·cases f
      ·rename_i m r;rw[up2 a (λz=>R.dj i j a (λy=>r y.symm) (inI z) f)];exact R.un j a f
  · try dsimp only
    rw[kg,fg,fg,lr,K];by_cases m:j=Z.length
    ·rw[Tq m,Tq m,Tq m,Tq m];exact⟨v,rfl,ow⟩
    · rw[on m,on m,on m,on m,dJ];by_cases r:j=i
      ·rw[Tq r,Tq ⟨r.symm,hi⟩];rfl
      ·rw[on r,on λz=>r z.1.symm];exact(R.lo j).mono (Same.refl _) sUp λ_ _=>rfl
 have Gp:Ag Y B Up H (Z++[some v]) (T.set i none++[some d]) (.O T.length::ps) (d::ds) (v::vs):=by
  refine⟨d,ds,v,vs,rfl,rfl,⟨by rw[fg,Tq K],by rw[fg,T5,Tq rfl]⟩,Ag.plus sUp (λj x q=>?_) (λj x X q=>?_) hl hb G⟩
  · have:j<Z.length:=(TW.mp (b9 q)).1
    rw[fg,on (by omega)];exact q
  · have:j<T.length:=(TW.mp (b9 q)).1
    rw[fg,T5,on (by omega),dJ,on λz=>X z.1.symm];exact q
 have back:∀{S J H':Hp} {C:Nat->List Addr} {d':D},Rel Y (AB M T.length s) S J C (Z++[some v]) H' ((T.set i none++[some d]).set T.length (some d'))->Ex B Up S J->
  ∃U2 As2,Rel Y M S U2 As2 Z H' (set T d')/\Ex B U S U2/\∀N,NewM N J C->NewM N U2 As2:=λ{S J H' C d'} t e1=>by
  have lr:(T.set i (none:Option D)++[some d]).length=T.length+1:=by rw[TU,T5];rfl
  have there:∀{a},a∈L\/a∈l->∃o,H a=some o/\J a=some o/\H' a=some o:=λ{a} h=>by
   obtain⟨o,q⟩:=R.at (inI h)
   have:=e1.u a o (by rw[up1 a h];exact q)
   exact⟨o,q,this,t.uh a o this⟩
  have keepH:∀a,a∈L\/a∈l->H' a=H a:=λa h=>by obtain⟨o,q1,_,q3⟩:=there h;rw[q1,q3]
  have noB:∀{a},a∈L\/a∈l->S a=none:=λ{a} h=>by
   cases z:S a with
   |none=>rfl
   |some o'=>
     obtain⟨o,q1,q2,q3⟩:=there h;rcases e1.nb a o' z with w|w|w
     ·have:=R.bu a o' w;rw[R.un i a (inI h)]at this;cases this
     ·rw[up1 a h,q1]at w;cases w
     ·rw[t.bh a o' z]at q3;cases q3;exact(R.nt (inI h) q1 w).elim
  obtain⟨U2,u1,u2⟩:∃U2:Hp,(∀a,a∈L\/a∈l->U2 a=none)/\∀a,¬ (a∈L\/a∈l)->U2 a=J a:=⟨λa=>if a∈L\/a∈l then none else J a,λa h=>Tq h,λa h=>on h⟩
  have W:∀{a},J a=none->U2 a=none:=λ{a} h=>by
   by_cases z:a∈L\/a∈l
   ·exact u1 a z
   ·rw[u2 a z];exact h
  have sU2:Same U U2:=λa o q=>by
   have z:¬ (a∈L\/a∈l):=λz=>by rw[R.un i a (inI z)]at q;cases q
   rw[u2 a z];exact e1.u a o (sUp a o q)
  have l1:=t.lo T.length;rw[dJ,Tq ⟨rfl,by rw[lr];omega⟩,fg,Tq K,kg,Tq rfl]at l1;obtain⟨v',hv',ow1⟩:=l1;cases hv';have ow1:Ow Y S H' d' s v (C T.length):=ow1;obtain⟨D',ow2,e2⟩:=cl S H' d' (C T.length) e1.b keepH ow1;have offN:∀{a j},a∈C j->¬ (a∈L\/a∈l):=λ{a j} h z=>by obtain⟨o,_,q,_⟩:=there z;rw[t.un j a h]at q;cases q
  refine⟨U2,λj=>if j=i then L++(C T.length++l) else if j=T.length then [] else C j,⟨λa o q=>?_,λa o q=>?_,λj=>?_,λj k a X f g=>?_,λj a f=>?_,λj=>?_,by rw[e2,T5];exact K,t.tb⟩,⟨e1.b,sU2,λa o q=>?_⟩,λN n=>⟨n.nd,λa f=>W (n.un a f),λa f j hj=>?_⟩⟩
  · have z:¬ (a∈L\/a∈l):=λz=>by rw[noB z]at q;cases q
    rw[u2 a z];exact t.bu a o q
  · by_cases z:a∈L\/a∈l
    ·rw[u1 a z]at q;cases q
    ·rw[u2 a z]at q;exact t.uh a o q
  · try dsimp only
    split
    · refine Uf.mpr ⟨ndL,Uf.mpr ⟨t.nd _,ndR,λx hx y hy e=>offN hx (.inr (e▸hy))⟩,λx hx y hy e=>?_⟩;rcases TY.mp hy with hy|hy
      ·exact offN hy (.inl (e▸hx))
      ·exact nd3 x hx y (Tw _ hy) e
    · split
      ·exact Uu
      ·exact t.nd j
  · have main:∀{k:Nat},k≠i->a∈L++(C T.length++l)->a∈(if k=i then L++(C T.length++l) else if k=T.length then [] else C k)->False:=λ{k} g f hk2=>by
     rw[on g]at hk2;split at hk2
     ·cases hk2
     · rename_i h3;rcases TY.mp f with h|h
       ·exact offN hk2 (.inl h)
       · rcases TY.mp h with h|h
         ·exact t.dj T.length k a (λz=>h3 z.symm) h hk2
         ·exact offN hk2 (.inr h)
    try dsimp only at f g
    by_cases m:j=i
    ·rw[Tq m]at f;exact main (λz=>X (by omega)) f g
    · by_cases r:k=i
      ·rw[Tq r]at g;exact main m g f
      · rw[on m]at f;rw[on r]at g;split at f
        ·cases f
        · split at g
          ·cases g
          ·exact t.dj j k a X f g
  · try dsimp only at f
    split at f
    · rcases TY.mp f with h|h
      ·exact u1 a (.inl h)
      · rcases TY.mp h with h|h
        ·exact W (t.un _ a h)
        ·exact u1 a (.inr h)
    · split at f
      ·cases f
      ·exact W (t.un j a f)
  · try dsimp only
    rw[e2,dJ];by_cases m:j=i
    ·subst m;rw[Tq ⟨rfl,hi⟩,Tq rfl,hm];exact⟨v0,hv,ow2⟩
    · rw[on λz=>m z.1.symm,on m];by_cases r:j=T.length
      · subst r;rw[Tq rfl]
        have:rg T T.length=none:=by unfold rg;rw[List.getElem?_eq_none (Nat.le_refl _)];rfl
        rw[this];rfl
      · rw[on r];have l2:=t.lo j;rw[dJ,on λz=>r z.1.symm,fg,T5,on r,dJ,on λz=>m z.1.symm,fg,on (by omega),kg,on r]at l2;have l0:=R.lo j;cases ed:rg T j with
        |none=>rw[ed]at l2;exact l2
        |some x=>
          rw[ed]at l2 l0;obtain⟨y,hy,w⟩:=l2;refine⟨y,hy,?_⟩;cases em:M.getD j .F with
          |F=>rw[em]at w;exact w
          |O s'=>rw[em]at w;exact w
          |R=>
            rw[em]at w l0;obtain⟨y',hy',w'⟩:=l0;rw[hy]at hy';cases hy';exact⟨Dn.mono sU2 w'.1,w.2⟩
  · rcases e1.nb a o q with w|w|w
    ·exact .inl w
    ·exact .inr (.inl (sUp.free w))
    ·exact .inr (.inr w)
  · try dsimp only at hj
    split at hj
    · rcases TY.mp hj with h|h
      ·obtain⟨o,_,q,_⟩:=there (.inl h);rw[n.un a f]at q;cases q
      · rcases TY.mp h with h|h
        ·exact n.ap a f _ h
        ·obtain⟨o,_,q,_⟩:=there (.inr h);rw[n.un a f]at q;cases q
    · split at hj
      ·cases hj
      ·exact n.ap a f j hj
 have hbo:∀k∈jX ps,k<T.length:=by
  have key:∀{ps:List Ap} {ds:List D} {vs:List V},Ag Y B U H Z T ps ds vs->∀k∈jX ps,k<T.length:=by
   intro ps
   induction ps with
   |nil=>intro ds vs _ k g;cases g
   |cons p ps ih=>
     intro ds vs G k g;obtain⟨d,dr,v,vr,rfl,rfl,m,r⟩:=G;cases p with
     |Bo q=>
       rcases Tz.mp g with z|z
       ·subst z;exact(TW.mp (b9 m.2)).1
       ·exact ih r k z
     |_=>exact ih r k g
  exact key G
 refine lm (M:=AB M T.length s) (ps:= .O T.length::ps) (ds:=d::ds) Rp Gp ⟨show(AB M T.length s).getD T.length .F= .O s by rw[kg,Tq rfl],fitM.any hl hf⟩ (by show(T.length::dG ps).Nodup;rw[hl];simp)
  (λk g z=>by
    have z:k∈T.length::dG ps:=z;rw[hl]at z
    have:=hbo k g
    have:=TX.mp z
    omega) hU ?_
 unfold ci;unfold gP at P;cases ef:fm (d::ds) with
 |bad=>rw[ef]at P;exact P
 |ok x ρc=>
   rw[ef]at P
   try dsimp only at P ⊢
   rw[cI,jh hl];intro u B1 U1 As1 H1 N t e1 n1 k1;cases er:rg ρc 0 with
   |none=>rw[er]at P;exact P.elim
   |some d'=>
     rw[er]at P t;obtain⟨U2,As2,R2,e2,n2⟩:=back t e1;exact P u B1 U2 As2 H1 N R2 e2 (n2 N n1) (hU _ _ _ _ _ _ _ k1)
 |exc c ρc=>
   rw[ef]at P
   try dsimp only at P ⊢
   rw[cI,jh hl];intro B1 U1 As1 H1 t e1;cases er:rg ρc 0 with
   |none=>rw[er]at P;exact P.elim
   |some d'=>
     rw[er]at P t;obtain⟨U2,As2,R2,e2,n2⟩:=back t e1;exact P B1 U2 As2 H1 R2 e2
end
end Mi
namespace L2
open PySem PySem.Spec PyProof.Rows PySem.W
section
variable{n:Nat}(hn:0<n)
include hn
end
end L2
namespace Mi
open PySem L2
def iV:List D->Option (List (List Int))
 |[]=>some []
 |.tup ds::r=>(match cu ds,iV r with|some k,some a=>some (k::a)|_,_=>none)
 |_::_=>none
section
variable{Y:Cm}{E:XK}{M:List Md}{K:F0}
theorem EY{b:List (List aQ)}{a:List (List Int)}(e:iV (b.map λk=>.tup (k.map kD))=some a):b=a.map λk=>k.map Sum.inl:=by
 have c:∀{k:List aQ} {ns:List Int},cu (k.map kD)=some ns->k=ns.map Sum.inl:=by
  intro k
  induction k with
  |nil=>intro ns e;cases e;rfl
  |cons x k d=>
    intro ns e;cases x with
    |inl i=>
      rw[Tr]at e;have e:(cu (k.map kD)).map (i::·)=some ns:=e;obtain⟨M,e1,rfl⟩:=TQ.mp e;rw[d e1];rfl
    |inr i=>cases e
 induction b generalizing a with
 |nil=>cases e;rfl
 |cons k b d=>
   rw[Tr,iV]at e;cases e1:cu (k.map kD) with
   |none=>rw[e1]at e;cases e
   |some n=>
     cases f:iV (b.map λk=>.tup (k.map kD)) with
     |none=>rw[e1,f]at e;cases e
     |some ns=>
       rw[e1,f]at e;cases e;rw[c e1,d f];rfl
def MP(c:Nat)(b:Str)(get:L4->Option D)(set:L4->D->L4)(d:List D->Out D)(a:L4->Res (List D)):L4->Out D:=λT=>match get T with
 |none=>.bad
 |some o=>if bI c b o=true then ((a T).up T).bind λds T=>gP set d o ds T else .bad
theorem HA{c:Nat}{n:Str}{g:List Md}{l:KT D V}{C:List D->Out D}{ps:List Ap}{S:TE}{get:L4->Option D}{set:L4->D->L4}{i:Nat}{s:Sh}{t:TA}{m:L4->Res (List D)}(p:Prt Y M S get set i s)(h:AJ Y E M ps t m)(hf:fitM M ps g)
 (hl:dG ps=[]) (hb:i∉jX ps) (hU:∀d v B U J H N,l d v B U H N->l d v B J H N):MJ Y l E M (gy (Y c) n (dt Y (.O s::g) l C) [] E S t) (MP c n get set C m):=by
 intro B U I Z H T Q R P;unfold MP at P;cases e:get T with
 |none=>rw[e]at P;exact P.elim
 |some o=>
   rw[e]at P;dsimp only at P;by_cases z:bI c n o=true
   · rw[Tq z]at P;obtain⟨sh,v0,d0,v,L,A,R',hm,hv,hd,y,ht,W,cl⟩:=p.rd R e;refine ht _ ?_;have x:Dn Y H o v:=Ow.dn R.bh (λ_ _ _ h=>h) W;obtain⟨a,dx,fs,rfl,h1,h2⟩:=jn z x;refine⟨a,dx,fs,rfl,h1,h2,h B U I Z H T _ R ?_⟩;cases F:m T with
     |ok ds=>
       rw[F]at P;intro vs B2 X K N2 R2 f n2 G;rw[Um]
       have u:∀{a},a∈L\/a∈R'->a∈I i:=λ{a} h=>by
        rw[y];rcases h with h|h
        ·exact TL _ h
        ·exact Tw _ (Tw _ h)
       have same:∀{a},a∈I i->K a=H a:=λ{a} h=>by
        obtain⟨o',q⟩:=R.at h;rw[q,f.h _ _ q]
       exact He R2 hm hv hd y (Ow.mono f.b (λa j=>same (by rw[y];exact Tw _ (TL _ j))) W)
        (λB1 H1 d' A1 sb k w=>cl B1 H1 d' A1 (f.b.trans sb) (λa j=>by rw[k a j,same (u j)]) w) G hf hl hb hU (Mo.at (r:=gP set C o ds T) P f.toEx)
     |exc c=>rw[F]at P;exact λB2 X K R2 f=>P B2 X I K R2 f.toEx
     |bad=>rw[F]at P;exact P
   ·rw[on z]at P;exact P.elim
theorem D8{c:Nat}{d:Str}{a:List Md}{e:List D->Out D}{ps:List Ap}{b:TE}{get:L4->Option D}{set:L4->D->L4}{i:Nat}{s:Sh}{t:TA}{m:L4->Res (List D)}(p:Prt Y M b get set i s)(h:AJ Y E M ps t m)(g:fitM M ps a)
 (f:dG ps=[]) (j:i∉jX ps):MJ Y (KR Y .F) E M (gy (Y c) d (dt Y (.O s::a) (KR Y .F) e) [] E b t) (MP c d get set e m):=HA p h g f j λ_ _ _ _ _ _ _ h=>h
end
end Mi
namespace Cl
open PySem L2 Mi
section
variable{Z σ' W X S L:Type}{rep:Z->L4}{Y:σ'->L4}
theorem q8:∀l:List (List Int),iV (l.map (pw D.int))=some l
 |[]=>rfl
 | k::l=>by
   rw[Tr];show(match cu (k.map D.int),iV (l.map (pw D.int)) with|some k,some a=>some (k::a)|_,_=>none)=_;rw[dZ,q8 l]
@[simp] def gI(g:Z->Option (List W))(k:Z->Option Int):Z->Option W:=λs=>match g s,k s with
 |some l,some k=>if 0<=k then l[k.toNat]? else none
 |_,_=>none
@[simp] def pI(g:Z->Option (List W))(p:Z->List W->Z)(k:Z->Option Int):Z->W->Z:=λs y=>match g s,k s with
 |some l,some k=>p s (l.set k.toNat y)
 |_,_=>s
theorem oY{j:Nat}{k:Z->Option Int}(h:∀s,rg (rep s) j=(k s).map D.int):∀s,E2 j (rep s)=k s:=λs=>by
 unfold E2;rw[h];cases k s<;>rfl
theorem Sw{e:W->D}{get:L4->Option D}{mk:L4->Option Int}{g:Z->Option (List W)}{k:Z->Option Int}(b:∀s,get (rep s)=(g s).map (eL e))(a:∀s,mk (rep s)=k s)(s:Z):ml get mk (rep s)=(gI g k s).map e:=by
 unfold ml gI;rw[b,a];cases g s with
 |none=>rfl
 |some l=>
   cases k s with
   |none=>rfl
   |some k=>
     show(if 0<=k then (l.map e)[k.toNat]? else none)=(if 0<=k then l[k.toNat]? else none).map e;by_cases z:0<=k
     ·rw[Tq z,Tq z,Ue]
     ·rw[on z,on z];rfl
theorem SZ{e:W->D}{get:L4->Option D}{set:L4->D->L4}{mk:L4->Option Int}{g:Z->Option (List W)}{p:Z->List W->Z}{k:Z->Option Int}(c:∀s,get (rep s)=(g s).map (eL e))(a:∀s l,set (rep s) (eL e l)=rep (p s l))(b:∀s,mk (rep s)=k s)(s:Z)(y:W):
 nO get set mk (rep s) (e y)=rep (pI g p k s y):=by
 unfold nO pI;rw[c,b];cases g s with
 |none=>rfl
 |some l=>
   cases k s with
   |none=>rfl
   |some k=>
     show set (rep s) (.lst ((l.map e).set k.toNat (e y)))=rep (p s (l.set k.toNat y));rw[<-a,<-Xm];rfl
@[simp] def Ss(g:Z->Option W)(p:Z->W->Z)(a:σ'->W)(b:Z->Res L)(f:W->L->OutC σ' S):Z->OutC Z S:=λs=>match g s with
 |none=>.bad
 | some o=>match b s with
   |.ok r=>(match f o r with | .ok x s'=>.ok x (p s (a s')) | .exc c s'=>.exc c (p s (a s')) | .bad=>.bad)
   |.exc c=>.exc c s
   |.bad=>.bad
theorem Jw{e0:W->D}{e:L->List D}{eR:S->D}{c:Nat}{m:Str}{get:L4->Option D}{set:L4->D->L4}{j:List D->Out D}{b:L4->Res (List D)}{g:Z->Option W}{p:Z->W->Z}{i:σ'->W}{l:Z->Res L}{f:W->L->OutC σ' S}
 (v:∀s,get (rep s)=(g s).map e0) (n:∀s y,set (rep s) (e0 y)=rep (p s y)) (u:∀a,bI c m (e0 a)=true) (t:EJ rep e (λT=>(b T).bind .ok) l) (A:∀a r,SimO Y eR (j (e0 a::e r)) (f a r)) (d:∀s',rg (Y s') 0=some (e0 (i s'))):
 NJ rep eR (MP c m get set j b) (Ss g p i l f):=λs=>by
 unfold MP Ss;rw[v];cases g s with
 |none=>trivial
 |some o=>
   dsimp only[Option.map];rw[if_pos (u o)];have h:=t s;cases q:l s with
   |bad=>trivial
   |exc x=>
     rw[q]at h;have h:(b (rep s)).bind .ok=.exc x:=h;cases z:b (rep s) with
     |ok y=>rw[z]at h;cases h
     |exc y=>rw[z]at h;cases h;rfl
     |bad=>rw[z]at h;cases h
   |ok r=>
     rw[q]at h;have h:(b (rep s)).bind .ok=.ok (e r):=h
     have z:b (rep s)=.ok (e r):=by
      cases z:b (rep s) with
      |ok y=>rw[z]at h;exact h
      |exc y=>rw[z]at h;cases h
      |bad=>rw[z]at h;cases h
     rw[z];show SimO rep eR (gP set j (e0 o) (e r) (rep s)) _;unfold gP;have k:=A o r;dsimp only;cases w:f o r with
     |bad=>trivial
     |ok x s'=>
       rw[w]at k;have k:j (e0 o::e r)=.ok (eR x) (Y s'):=k;rw[k];dsimp only;rw[d];dsimp only;rw[n];rfl
     |exc x s'=>
       rw[w]at k;have k:j (e0 o::e r)=.exc x (Y s'):=k;rw[k];dsimp only;rw[d];dsimp only;rw[n];rfl
end
end Cl
namespace L2
open PySem PySem.Spec PyProof.Rows
section
variable{X:Cx}{pins:L0}{Z:St}{H:Hp}{s:Shared}{a:Addr}{kvs:List (List aQ×V)}
theorem Fm{h:Heap}{u:HO}(f:∀b xs,H b=some (.tup xs)->b≠a)(x:ObjOk X.prog X.w H h a (.dT kvs)):ObjOk X.prog X.w (upd H a u) h a (.dT kvs):=by
 obtain⟨z,y,xs,r,iA⟩:=x;refine⟨z,y,xs,?_,iA⟩
 have d:∀{c:List (List aQ×V)} {l2:List (List aQ×Addr×Value)},Paired (λ(p:List aQ×V) (q:List aQ×Addr×Value)=>p.1=q.1/\H q.2.1=some (.tup (p.1.map kV))/\RelV p.2 q.2.2) c l2->
  Paired (λ(p:List aQ×V) (q:List aQ×Addr×Value)=>p.1=q.1/\upd H a u q.2.1=some (.tup (p.1.map kV))/\RelV p.2 q.2.2) c l2:=by
  intro c l2 h
  induction h with
  |nil=>exact .nil
  |cons h _ e=>exact .cons ⟨h.1,by rw[ay (f _ _ h.2.1)];exact h.2.1,h.2.2⟩ e
 exact d r
theorem Inv.freeze(I:Inv X pins Z H s)(d:H a=some (.dT kvs)):∃o,s.heap.get? a=some o/\Inv X pins Z (upd H a (.frz o (.dT kvs))) s:=by
 have x:=I.hok a _ d;obtain⟨_,_,_,_,o,f,ep,c,_⟩:=(show ObjOk X.prog X.w H s.heap a (.dT kvs) from x);refine⟨o,c,?_⟩
 have:=I.write (x:=a) (e:=a) (o:=.frz o (.dT kvs)) (h':=s.heap) (t':=s.toks) (by rw[d];trivial) (.inl rfl) (λb u _ e=>e) ⟨o,c⟩ ⟨c,Fm (X:=X) (λb xs e z=>by rw[z,d]at e;cases e) x⟩
 exact this
theorem Inv.thaw{o:Obj}(I:Inv X pins Z H s)(D:H a=some (.frz o (.dT kvs)))(h0:∀o u,X.H₀ a≠some (.frz o u)):Inv X pins Z (upd H a (.dT kvs)) s:=by
 have x:ObjOk X.prog X.w H s.heap a (.frz o (.dT kvs)):=I.hok a _ D;have ne:∀{b:Addr} {u:HO},H b=some u->(∀o v,u≠ .frz o v)->b≠a:=λ{b u} e h z=>by rw[z,D]at e;cases e;exact h _ _ rfl
 have d:∀{b:Addr},H b=none->b≠a:=λ{b} e z=>by rw[z,D]at e;cases e
 refine⟨I.ok,I.os,I.bare,⟨I.base.keep,I.base.slot,λb ob q n B=>?_,I.base.there,λb xs e=>?_,λb ob u e=>?_,λb l e=>?_⟩,I.loc,I.cell,?_,λy c e=>?_,λp hp=>?_,λb u e=>?_,I.len⟩
 · have:=I.base.free b ob q n B
   rw[ay (d this)];exact this
 · have:=I.base.tups b xs e
   rw[ay (ne this λ_ _ z=>by cases z)];exact this
 ·have G:b≠a:=λz=>h0 ob u (z▸e);rw[ay G];exact I.base.frzs b ob u e
 ·obtain⟨f,g⟩:=I.base.tbls b l e;refine⟨by rw[ay (ne f λ_ _ z=>by cases z)];exact f,λc ob e1 m=>?_⟩;obtain⟨j,k⟩:=g c ob e1 m;exact⟨by rw[ay (ne j λ_ _ z=>by cases z)];exact j,k⟩
 ·rw[ay (d I.free)];exact I.free
 ·rw[ay (d (I.freeC y c e))];exact I.freeC y c e
 ·obtain⟨f,g,j,k⟩:=I.pin p hp;exact⟨f,by rw[ay (d g)];exact g,j,k⟩
 · have E:∀b xs,H b=some (.tup xs)->b≠a:=λb xs e=>ne e λ_ _ z=>by cases z
   by_cases z:b=a
   ·subst z;rw[aM]at e;cases e;exact Fm (X:=X) E x.2
   · rw[ay z]at e;have y:=I.hok b u e
     have i:∀(u:HO) (b:Addr),ObjOk X.prog X.w H s.heap b u->ObjOk X.prog X.w (upd H a (.dT kvs)) s.heap b u:=by
      intro u
      induction u with
      |dT F=>
        intro b y;obtain⟨z,w,xs,r,iA⟩:=(show ObjOk X.prog X.w H s.heap b (.dT F) from y);refine⟨z,w,xs,?_,iA⟩
        have i:∀{t:List (List aQ×V)} {l2:List (List aQ×Addr×Value)},Paired (λ(p:List aQ×V) (q:List aQ×Addr×Value)=>p.1=q.1/\H q.2.1=some (.tup (p.1.map kV))/\RelV p.2 q.2.2) t l2->
         Paired (λ(p:List aQ×V) (q:List aQ×Addr×Value)=>p.1=q.1/\upd H a (.dT kvs) q.2.1=some (.tup (p.1.map kV))/\RelV p.2 q.2.2) t l2:=by
         intro t l2 h
         induction h with
         |nil=>exact .nil
         |cons h _ A=>exact .cons ⟨h.1,by rw[ay (E _ _ h.2.1)];exact h.2.1,h.2.2⟩ A
        exact i r
      |ins C dx fs=>
        intro b y;obtain⟨f,g⟩:=(show ObjOk X.prog X.w H s.heap b (.ins C dx fs) from y);exact⟨by rw[ay (ne f λ_ _ z=>by cases z)];exact f,g⟩
      |frz o u A=>intro b y;exact⟨y.1,A b y.2⟩
      |tbl l=>
        intro b y;obtain⟨f,ps,g,j,k⟩:=(show ObjOk X.prog X.w H s.heap b (.tbl l) from y);exact⟨f,ps,g,j,λx B=>(k x B).imp id λ⟨c,e1,m,J⟩=>⟨c,e1,by rw[ay (ne m λ_ _ z=>by cases z)];exact m,J⟩⟩
      |_=>intro b y;exact y
     exact i u b y
def Itd(a:Addr)(o:Obj)(bs:List Addr):It:=
 ⟨λi H=>(∃kvs:List (List aQ×V),H a=some (.frz o (.dT kvs)))/\i<bs.length,λi H x H'=>H'=H/\∃b,bs[i]?=some b/\x=.ref b,λi H=>(∃kvs:List (List aQ×V),H a=some (.frz o (.dT kvs)))/\bs.length<=i⟩
theorem An{P:Program}{w:World}{K:F0}{L:Expr}{o:Obj}{f:Array DictEntry}{ep:Nat}{bs:List Addr}(a g:Addr)(G:o.ExactDict)(hd:o.data=.dict f ep)(T:bs.length=f.size)(N:∀(i:Nat) (h:i<f.size) b,bs[i]?=some b->f[i].key=.ref b):
 Turn P w K L (Itd a o bs) [g] g (λi h=>i<=f.size/\h.IsKeyIter g a i f.size ep) where
 mem:=by simp
 obj:=λi h st b l=>by
  have e:b=g:=by simpa using l
  subst e;obtain⟨_,o,e,c,d⟩:=st;exact⟨o,e,λv z=>by rw[d]at z;cases z⟩
 keep:=λi h h' st k=>⟨st.1,st.2.at λo e=>k g (by simp) o e⟩
 item:=by
  intro X u q x J i pins s Z H E I n st r;subst u q x;obtain⟨⟨kvs,t⟩,hi⟩:=r;have y:ObjOk X.prog X.w H s.heap a (.frz o (.dT kvs)):=I.hok a _ t;obtain⟨F,D,O,C,B,A⟩:=n g (by simp);have j:i<f.size:=by omega
  refine uG st.2 ⟨o,y.1,G,hd⟩ j λh' m M=>?_;have R:Inv X pins Z H {s with heap:=h'}:=I.turned (t':=s.toks) (λb o l e=>(M.2 b l).trans e) F D C B A;obtain⟨S,e,c,d⟩:=id m;have p:bs[i]?=some (bs[i]):=TV hi;refine⟨_,rfl,zk (s:={s with heap:=h'}) e c d (by decide) ⟨.ref bs[i],H,R,N i j _ p,⟨rfl,_,p,rfl⟩,⟨j,m⟩,λb l=>(n b l).1⟩⟩
 done:=by
  intro X u q x J i pins s Z H E I n st r;subst u q x;obtain⟨⟨kvs,t⟩,hi⟩:=r;have y:ObjOk X.prog X.w H s.heap a (.frz o (.dT kvs)):=I.hok a _ t;obtain⟨F,D,O,C,B,A⟩:=n g (by simp);have Q:i=f.size:=Nat.le_antisymm st.1 (by omega);subst Q;exact yQ (I.ok.hd J) st.2 ⟨o,y.1,G,hd⟩ λh' p=>⟨rfl,I.turned (t':=s.toks) (λb o l e=>p b o l e) F D C B A⟩
 self:=λ_ _ _ _ _ st h=>wpAny_pyIter_keyiter st.2 h
def Nm(c:TE):TI:=λZ H R=>c Z H λx H1=>∃a o kvs,x=.ref a/\H1 a=some (.frz o (.dT kvs))/\
 ∀bs:List Addr,bs.length=kvs.length->(∀(i:Nat) k v b,kvs[i]?=some (k,v)->bs[i]?=some b->H1 b=some (.tup (k.map kV)))->R (Itd a o bs) H1
theorem LG{J l:Expr}{E:TE}(P:PE X l E):PI X J l (Nm E):=by
 intro pins s Z H R I h;refine bE (P pins s Z H _ I h) λv c ⟨x,H1,B,K,L⟩=>?_;obtain⟨a,o,kvs,rfl,T,q⟩:=L;cases K;have y:ObjOk X.prog X.w H1 c.heap a (.frz o (.dT kvs)):=B.hok a _ T;obtain⟨z,hd,m,n,o',j,ep,G,F,d,u,O⟩:=(show ObjOk X.prog X.w H1 c.heap a (.dT kvs) from y.2);have W:o'=o:=by have:=y.1;rw[G]at this;exact T2 this
 subst W;have t:kvs.length=m.length:=Vd n
 have r:j.size=m.length:=by
  have e:=congrArg List.length u
  rwa [Tv,UC]at e
 have Q:∀(i:Nat) (h:i<j.size) b,(m.map λy=>y.2.1)[i]?=some b->j[i].key=.ref b:=λi h b e=>by
  rw[Ue]at e;cases g:m[i]? with
  |none=>rw[g]at e;cases e
  |some y=>
    rw[g]at e;have D:y.2.1=b:=T2 e;have A:j.toList[i]?=some j[i]:=by rw[WK];exact VF h
    rw[u,Ue,g]at A;have Y:entryOfKey (tupleKind (aC X.prog X.w)) y=j[i]:=T2 A;rw[<-Y,qW,D]
 refine uF hd ⟨o',G,F,d⟩ ?_;have I2:Inv X pins Z H1 {c with heap:=c.heap.push {cls:=.type "dict_keyiterator",data:=.fields #[.ref a,.int 0 0,.int j.size 0,.int ep 0]}}:=B.kept (t':=c.toks) λb o e=>Tx _ e;refine⟨c.heap.objs.size,[c.heap.objs.size],_,_,H1,rfl,I2,An (bs:=m.map λy=>y.2.1) a _ F d (by rw[Tv,r]) Q,⟨UN _,⟨_,TZ _ rfl,rfl,rfl⟩⟩,λb S=>?_,q _ (by rw[Tv,t]) λi k v b e1 f=>?_⟩
 · have e:b=c.heap.objs.size:=by simpa using S
   subst e;exact B.fpOk (TM _) (B.hok.fresh (TM _))
 · rw[Ue]at f;cases g:m[i]? with
   |none=>rw[g]at f;cases f
   |some y=>
     rw[g]at f;have D:y.2.1=b:=T2 f
     have M:∀{C:List (List aQ×V)} {l2:List (List aQ×Addr×Value)},Paired (λ(p:List aQ×V) (q:List aQ×Addr×Value)=>p.1=q.1/\H1 q.2.1=some (.tup (p.1.map kV))/\RelV p.2 q.2.2) C l2->
      ∀{i:Nat} {p q},C[i]?=some p->l2[i]?=some q->H1 q.2.1=some (.tup (p.1.map kV)):=by
      intro C l2 hp
      induction hp with
      |nil=>intro i p q e;cases e
      |cons U _ N=>
        intro i p q e1 f;cases i with
        |zero=>cases e1;cases f;exact U.2.1
        |succ i=>exact N e1 f
     rw[<-D];exact M n e1 g
def IK(t:TE):TE:=λZ H Q=>t Z H Q\/∃a kvs,H a=some (.dT kvs)/\∀o,t Z (upd H a (.frz o (.dT kvs))) λv H1=>H1 a=some (.frz o (.dT kvs))/\Q v (upd H1 a (.dT kvs))
theorem Hb{e:Expr}{t:TE}(h:PE X e t):PE X e (IK t):=by
 intro pins s Z H Q I q;rcases q with q|⟨a,kvs,b,q⟩
 ·exact h pins s Z H Q I q
 · obtain⟨o,j,g⟩:=I.freeze b;refine bE (h pins s Z _ _ g (q o)) λu i ⟨v,H1,f,r,e1,d⟩=>⟨v,_,f.thaw e1 λo' c z=>?_,r,d⟩
   have:=I.base.frzs a o' c z
   rw[b]at this;cases this
end
end L2
namespace Mi
open PySem L2
structure Fz (a:Addr) (kvs:List (List aQ×V)) (G G':Hp):Prop where
 ne:∀b,b≠a->G' b=G b
 fr:∀x,G a=some x->x=.dT kvs\/∃o,x=.frz o (.dT kvs)
 to:∀x,G a=some x->Rd G' a (.dT kvs)
 no:G a=none->G' a=none
section
variable{Y:Cm}{a:Addr}{kvs:List (List aQ×V)}{E:XK}{M:List Md}{K:F0}
theorem Fz.at{G d:Hp}(F:Fz a kvs G d){b:Addr}{x:HO}(e:G b=some x)(n:nd x):b≠a/\d b=some x:=by
 have c:b≠a:=λz=>by
  subst z;rcases F.fr x e with q|⟨o,q⟩<;>rw[q]at n<;>exact n
 exact⟨c,by rw[F.ne b c];exact e⟩
theorem zp{G e:Hp}(F:Fz a kvs G e){d:D}{v:V}:Dn Y G d v->Dn Y e d v:=Dn.imp ⟨λb x q n=>(F.at q n).2,λb k c=>by
 by_cases z:b=a
 ·subst z;rcases c with c|⟨o,c⟩<;>rcases F.fr _ c with q|⟨o,q⟩<;>cases q<;>exact F.to _ c
 · show e b=_\/∃o,e b=_;rw[F.ne b z]
   exact c⟩
theorem Rel.fz{B U H S J H':Hp}{I:Nat->List Addr}{Z:St}{T:L4}(R:Rel Y M B U I Z H T)(FB:Fz a kvs B S)(g:Fz a kvs U J)(o:Fz a kvs H H')(k:∀i,a∉I i)(bu:Same S J)(uh:Same J H'):Rel Y M S J I Z H' T:=by
 have c:∀{i b},b∈I i->b≠a:=λ{i b} h z=>k i (z▸h);refine⟨bu,uh,R.nd,R.dj,λi b e=>by rw[g.ne b (c e)];exact R.un i b e,λi=>?_,R.len,λp hp=>?_⟩
 · have l:=R.lo i;unfold Lo at l ⊢;cases q:rg T i with
   |none=>rw[q]at l;exact l
   |some d=>
     rw[q]at l;obtain⟨v,j,w⟩:=l;refine⟨v,j,?_⟩;cases f:M.getD i .F with
     |F=>rw[f]at w;exact⟨zp FB w.1,w.2⟩
     |R=>rw[f]at w;exact⟨zp g w.1,w.2⟩
     |O s=>rw[f]at w;exact Ow.imp (zp FB) (λb e=>o.ne b (c e)) w
 ·obtain⟨l,n,m⟩:=R.tb p hp;exact⟨l,(FB.at n trivial).2,m⟩
def nq(G:Hp)(a:Addr)(u:HO):Hp:=λb=>if b=a then (G a).map λ_=>u else G b
theorem cw{G:Hp}{u:HO}{b:Addr}(h:b≠a):nq G a u b=G b:=on h
theorem cY{G:Hp}{u x:HO}(h:G a=some x):nq G a u a=some u:=by unfold nq;rw[if_pos rfl,h];rfl
theorem o3{G:Hp}{u:HO}(h:G a=none):nq G a u a=none:=by unfold nq;rw[if_pos rfl,h];rfl
theorem jL{G:Hp}{u:HO}(fr:∀x,G a=some x->x=.dT kvs\/∃o,x=.frz o (.dT kvs))(c:u=.dT kvs\/∃o,u=.frz o (.dT kvs)):Fz a kvs G (nq G a u):=
 ⟨λb h=>cw h,fr,λx e=>by
  rcases c with q|⟨o,q⟩
  ·exact .inl (by rw[cY e,q])
  ·exact .inr ⟨o,by rw[cY e,q]⟩,λe=>o3 e⟩
theorem kB{G c:Hp}{u:HO}(s:Same G c):Same (nq G a u) (nq c a u):=λb x e=>by
 by_cases z:b=a
 · subst z;cases q:G b with
   |none=>rw[o3 q]at e;cases e
   |some y=>rw[cY q]at e;rw[cY (s _ _ q)];exact e
 ·rw[cw z]at e ⊢;exact s _ _ e
theorem mM{mi:L4->Res Bool}{me:L4->Res D}{W:L4}:∀(ds:List D) (c:Nat),bD mi me W ds≠ .exc c
 |[],c,h=>by cases h
 | d::ds,c,h=>by
   rw[bD]at h;have f:=mM (mi:=mi) (me:=me) (W:=W) ds;cases e1:mi (some d::W) with
   |bad=>rw[e1]at h;cases h
   |exc x=>rw[e1]at h;cases h
   |ok b=>
     rw[e1]at h;cases b with
     |false=>exact f c h
     |true=>
       cases e:me (some d::W) with
       |bad=>rw[e]at h;cases h
       |exc x=>rw[e]at h;cases h
       |ok x=>
         rw[e]at h;cases a:bD mi me W ds with
         |ok y=>rw[a]at h;cases h
         |exc y=>exact f y a
         |bad=>rw[a]at h;cases h
def Cb(m:L4->Res D):L4->Res (List D):=λT=>(m T).bind λd=>match d with
 |.dT a _=>.ok (a.map λk=>.tup (k.map kD))
 |_=>.bad
theorem Hh{i c:Nat}{f:Str}{ix:List Nat}{ti:TT}{te:TE}{mi:L4->Res Bool}{me:L4->Res D}(hc:Cls K (Y c))(hn:NoAttr K (Y c) f)(hm:M.getD i .F= .R)(hix:ix.Nodup)
 (hti:PJ Y KB E0 (lH .F M ix) ti mi) (hte:PJ Y (KR Y .F) E0 (lH .F M ix) te me):PJ Y (KO Y (.ct .fz)) E M (IK (nF (Nm (qd K (cR i) f)) ix ti te)) (iD (Cb (un (bL c f) (vr i))) ix mi me):=by
 intro B U I Z H T Q R P;have l:=R.lo i;rw[hm]at l;unfold iD Cb un vr at P;cases e:rg T i with
 |none=>rw[e]at P;exact P.elim
 |some d0=>
   rw[e]at P l;obtain⟨v0,hv0,w0⟩:=l;have w0:Dn Y U d0 v0:=w0.1;replace P:Po Y (KO Y (.ct .fz)) E M B U I Z H T (((bL c f d0).bind λd=>match d with | .dT C _=>Res.ok (C.map λk=>D.tup (k.map kD))|_=>.bad).bind λxs=>if xs.length<ao then (bD mi me (d5 T ix) xs).bind λys=>.ok (.lst ys) else .bad) Q:=P;cases ef:bL c f d0 with
   |bad=>rw[ef]at P;exact P.elim
   |exc x=>exact(kJ ef).elim
   |ok d=>
     rw[ef]at P;obtain⟨ns,vs,rfl,lk⟩:=nr ef;rw[Dn]at w0;obtain⟨b,dx,fs,rfl,hb,hns,hvs⟩:=w0;subst hns;obtain⟨x,hx,dx'⟩:=ko hvs lk;cases d with
     |dT C ds=>
       replace P:Po Y (KO Y (.ct .fz)) E M B U I Z H T (if (C.map λk=>D.tup (k.map kD)).length<ao then (bD mi me (d5 T ix) (C.map λk=>D.tup (k.map kD))).bind λys=>.ok (.lst ys) else .bad) Q:=P;rw[Dn]at dx';obtain⟨a,kvs,rfl,hrd,hks,_⟩:=dx'
       -- the OC over a frozen dict
       have core:∀{B1 U1 H1:Hp} {o:Obj} {Q1:VK},Rel Y M B1 U1 I Z H1 T->H1 a=some (.frz o (.dT kvs))->H1 b=some (.ins (Y c) dx fs)->
        (∀bs:List Addr,(∀y∈bs,∃q,H1 y=some q/\fQ q)->Po Y (KO Y (.ct .fz)) E M (Mi.frz B1 H1 bs) (Mi.frz U1 H1 bs) I Z H1 T (if (C.map λk=>D.tup (k.map kD)).length<ao then (bD mi me (d5 T ix) (C.map λk=>D.tup (k.map kD))).bind λys=>.ok (.lst ys) else .bad) Q1)->
        nF (Nm (qd K (cR i) f)) ix ti te Z H1 Q1:=λ{B1 U1 H1 o Q1} r ha1 S W=>by
        refine⟨.ref b,b9 hv0,b,_,dx,fs,.ref a,rfl,S,hc,hn,hx,a,o,kvs,rfl,ha1,λbs hl hk p hp=>?_⟩
        have g:∀y∈bs,∃q,H1 y=some q/\fQ q:=λy m=>by
         obtain⟨j,hj,ej⟩:=List.getElem_of_mem m;have h4:bs[j]?=some y:=by rw[<-ej];exact TV hj
         have h5:kvs[j]?=some (kvs[j]'(by omega)):=TV (by omega);exact⟨_,hk j _ _ y (by rw[h5]) h4,_,rfl⟩
        have R2:Rel Y M (Mi.frz B1 H1 bs) (Mi.frz U1 H1 bs) I Z H1 T:=r.grow (b6 r.bh) (b6 r.uh) (Same.refl _) (o4 r.bu) (sT r.uh) λi a n=>by
         unfold Mi.frz;split
         ·rename_i z;obtain⟨o,e,t⟩:=g a z;exact(r.nt n e t).elim
         ·exact r.un i a n
        refine zW (k:= .F) hix (λ_ _ _ _ _=>QU) hti hte (λ_ _ _ _ _ _ _ _ _ _ _ _ _=>Nq) (.inl rfl) R2 (vs:=bs.map V.ref) (λH2 s2=>?_) ?_ (W bs g) p hp
        ·have h1:=s2 _ _ ha1;refine⟨λj hj=>⟨⟨kvs,h1⟩,by simpa using hj⟩,λj hj=>⟨⟨kvs,h1⟩,by simpa using hj⟩,λj y H' hj m=>⟨m.1,?_⟩⟩;obtain⟨q,e1,e2⟩:=m.2;rw[Ue,e1,e2];rfl
        · refine Dns.of_get (by rw[Tv,Tv,hl,<-hks,Tv]) λj d y ed ey=>?_;rw[Ue]at ed ey;obtain⟨kk,ek,rfl⟩:=TQ.mp ed;obtain⟨q,eq,rfl⟩:=TQ.mp ey;rw[<-hks,Ue]at ek;obtain⟨kv,ekv,rfl⟩:=TQ.mp ek
          have:=hk j kv.1 kv.2 q (by rw[ekv]) eq
          show Dn Y (Mi.frz B1 H1 bs) (.tup (kv.1.map kD)) (.ref q);rw[Dn];refine⟨q,_,rfl,?_,xK kv.1⟩;unfold Mi.frz;rw[if_pos (List.mem_of_getElem? eq)];exact this
       have L:∀{B1 U1 H1:Hp} {bs:List Addr},Rel Y M B1 U1 I Z H1 T->(∀y∈bs,∃q,H1 y=some q/\fQ q)->Gw B1 U1 H1 (Mi.frz B1 H1 bs) (Mi.frz U1 H1 bs) H1:=λ{B1 U1 H1 bs} r g=>by
        refine⟨⟨b6 r.bh,b6 r.uh,λa o q=>?_⟩,Same.refl _,λa o q=>?_⟩
        · unfold Mi.frz at q;split at q
          ·rename_i z;obtain⟨o',e,t⟩:=g a z;rw[e]at q;cases q;exact .inr (.inr t)
          ·exact .inl q
        · unfold Mi.frz at q;split at q
          ·rename_i z;obtain⟨o',e,t⟩:=g a z;rw[e]at q;cases q;exact .inr (.inr t)
          ·exact .inl q
       rcases hrd with n|⟨o,n⟩
       · refine .inr ⟨a,kvs,R.uh _ _ n,λo=>?_⟩;have hU:∀x,U a=some x->x=.dT kvs:=λx q=>by rw[n]at q;cases q;rfl
         have hB:∀x,B a=some x->x=.dT kvs:=λx q=>hU x (R.bu _ _ q);have J:H a=some (.dT kvs):=R.uh _ _ n;have hA:∀i,a∉I i:=λi z=>by rw[R.un i a z]at n;cases n
         have eH:upd H a (.frz o (.dT kvs))=nq H a (.frz o (.dT kvs)):=by
          funext y;by_cases z:y=a
          ·subst z;rw[aM,cY J]
          ·rw[ay z,cw z]
         rw[eH];have u0:(HO.frz o (.dT kvs))=.dT kvs\/∃o',(HO.frz o (.dT kvs))=.frz o' (.dT kvs):=.inr ⟨o,rfl⟩
         have r:Rel Y M (nq B a (.frz o (.dT kvs))) (nq U a (.frz o (.dT kvs))) I Z (nq H a (.frz o (.dT kvs))) T:=
          R.fz (jL (λx q=>.inl (hB x q)) u0) (jL (λx q=>.inl (hU x q)) u0) (jL (λx q=>by rw[J]at q;cases q;exact .inl rfl) u0) hA (kB R.bu) (kB R.uh)
         have S:nq H a (.frz o (.dT kvs)) b=some (.ins (Y c) dx fs):=by
          have hba:b≠a:=λz=>by rw[z,n]at hb;cases hb
          rw[cw hba];exact R.uh _ _ hb
         refine core r (cY J) S λbs g=>?_;have g1:=L r g
         have abs:a∉bs:=λz=>by
          obtain⟨q,e1,t⟩:=g a z;rw[cY J]at e1;cases e1;obtain⟨_,t⟩:=t;cases t
         by_cases zl:(C.map λk=>D.tup (k.map kD)).length<ao
         · rw[Tq zl]at P ⊢;cases ec:bD mi me (d5 T ix) (C.map λk=>D.tup (k.map kD)) with
           |bad=>rw[ec]at P;exact P.elim
           |exc q=>exact(mM _ _ ec).elim
           |ok zs=>
             rw[ec]at P;intro v B3 U3 H3 N R3 g3 n3 w3;have w3:Ow Y B3 H3 (.lst zs) (.ct .fz) v N:=w3;have A:H3 a=some (.frz o (.dT kvs)):=g3.h _ _ (cY J);refine⟨A,?_⟩
             have Ny:upd H3 a (.dT kvs)=nq H3 a (.dT kvs):=by
              funext y;by_cases z:y=a
              ·subst z;rw[aM,cY A]
              ·rw[ay z,cw z]
             rw[Ny];have t0:(HO.dT kvs)=.dT kvs\/∃o',(HO.dT kvs)=.frz o' (.dT kvs):=.inl rfl
             have f3:∀{G:Hp},Same G H3->∀x,G a=some x->x=.dT kvs\/∃o',x=.frz o' (.dT kvs):=λs x q=>by
              have:=s _ _ q
              rw[A]at this;cases this;exact .inr ⟨o,rfl⟩
             have X:a∉N:=λz=>by have:=n3.fr a z;rw[cY J]at this;cases this
             have U2a:Mi.frz (nq U a (.frz o (.dT kvs))) (nq H a (.frz o (.dT kvs))) bs a=some (.frz o (.dT kvs)):=by unfold Mi.frz;rw[if_neg abs];exact cY n
             have w:∀{G G3:Hp},Same G H->Same (Mi.frz (nq G a (.frz o (.dT kvs))) (nq H a (.frz o (.dT kvs))) bs) G3->Same G (nq G3 a (.dT kvs)):=λ{G G3} sg s3 y x q=>by
              by_cases z:y=a
              · subst z;have hx:x=.dT kvs:=by have:=sg _ _ q;rw[J]at this;cases this;rfl
                have:Mi.frz (nq G y (.frz o (.dT kvs))) (nq H y (.frz o (.dT kvs))) bs y=some (.frz o (.dT kvs)):=by unfold Mi.frz;rw[if_neg abs];exact cY q
                rw[cY (s3 _ _ this),hx]
              · rw[cw z];refine s3 _ _ ?_;unfold Mi.frz;split
                ·rw[cw z];exact sg _ _ q
                ·rw[cw z];exact q
             refine P v (nq B3 a (.dT kvs)) (nq U3 a (.dT kvs)) (nq H3 a (.dT kvs)) N (R3.fz (jL (f3 R3.bh) t0) (jL (f3 R3.uh) t0) (jL (f3 (Same.refl _)) t0) hA (kB R3.bu) (kB R3.uh)) ⟨⟨w R.bh g3.b,w R.uh g3.u,λy x q=>?_⟩,λy x q=>?_,λy x q=>?_⟩ ⟨n3.nd,λy m=>?_,λy m=>?_⟩ (Ow.imp (zp (jL (f3 R3.bh) t0)) (λy m=>cw λz=>X (z▸m)) w3)
             · by_cases z:y=a
               · subst z;cases O:B3 y with
                 |none=>rw[o3 O]at q;cases q
                 |some x'=>
                   rw[cY O]at q;cases q;rcases g3.nb y x' O with h|h|h
                   · unfold Mi.frz at h;rw[if_neg abs]at h;cases q0:B y with
                     |none=>rw[o3 q0]at h;cases h
                     |some x0=>rw[hB x0 q0];exact .inl rfl
                   ·rw[U2a]at h;cases h
                   ·have:=R3.bh _ _ O;rw[A]at this;cases this;obtain⟨_,h⟩:=h;cases h
               · rw[cw z]at q;rcases g3.nb y x q with h|h|h
                 · unfold Mi.frz at h;split at h
                   ·rename_i m;obtain⟨q1,e1,t⟩:=g y m;rw[e1]at h;cases h;exact .inr (.inr t)
                   ·rw[cw z]at h;exact .inl h
                 · unfold Mi.frz at h;split at h
                   ·rename_i m;obtain⟨q1,e1,t⟩:=g y m;rw[e1]at h;cases h
                   ·rw[cw z]at h;exact .inr (.inl h)
                 ·exact .inr (.inr h)
             · by_cases z:y=a
               ·subst z;rw[J]at q;cases q;exact cY A
               ·rw[cw z];exact g3.h _ _ (by rw[cw z];exact q)
             · by_cases z:y=a
               · subst z;cases O:U3 y with
                 |none=>rw[o3 O]at q;cases q
                 |some x'=>rw[cY O]at q;cases q;exact .inl n
               · rw[cw z]at q;rcases g3.fr y x q with h|h|h
                 · unfold Mi.frz at h;split at h
                   ·rename_i m;obtain⟨q1,e1,t⟩:=g y m;rw[e1]at h;cases h;exact .inr (.inr t)
                   ·rw[cw z]at h;exact .inl h
                 ·rw[cw z]at h;exact .inr (.inl h)
                 ·exact .inr (.inr h)
             · have:=n3.fr y m
               have z:y≠a:=λz=>X (z▸m);rw[cw z]at this;exact this
             · have:=n3.un y m
               have z:y≠a:=λz=>X (z▸m);rw[cw z];exact this
         ·rw[on zl]at P;exact P.elim
       ·exact .inl (core R (R.uh _ _ n) (R.uh _ _ hb) λbs g=>Po.at P (L R g))
     |_=>exact P.elim
end
end Mi
namespace L2
open PySem PySem.Spec PyProof.Rows
section
variable{prog:Program}{w:World}{A:Around}{E:L1}{s:Shared}
def ul(h:Heap)(a:Array DictEntry):Prop:=∀e∈a,∃b o,e.key=.ref b/\h.get? b=some o/\o.cls=.type "tuple"
theorem AA{b:Addr}{o:Obj}{Q:Bool->Shared->Prop}(a:s.heap.get? b=some o)(c:o.cls=.type "tuple")(h:Q false s):wpAny (model prog w) A (Builtin.Dict.quietEq (.ref b)) Q E s:=by
 unfold Builtin.Dict.quietEq;dsimp only;refine wpAny_bind (wpAny_specialOf (T := "tuple") ⟨o,a,c⟩ PySem.F.slot_tuple_eq.lookup ?_);exact wpAny_pure h
theorem Fj{id:String}{d:Addr}{o:Obj}{a:Array DictEntry}{ep:Nat}{Q:Array DictEntry->Shared->Prop}(j:s.heap.get? d=some o)(hd:o.data=.dict a ep)(k:ul s.heap a)(m:∀e∈a,¬ (a.filter (·.hash==e.hash)).size>1)(h:Q a s):
 wpAny (model prog w) A (Builtin.Dict.entriesForEmpty id d) Q E s:=by
 unfold Builtin.Dict.entriesForEmpty;refine wpAny_bind (wpAny_dictEntries j hd ?_);refine wpAny_bind ?_;rw[<-Array.forIn_toList]
 have c:∀l:List DictEntry,(∀e∈l,e∈a)->wpAny (model prog w) A (forIn l PUnit.unit λe (_:PUnit)=>(do
  let q <-Builtin.Dict.quietEq e.key
  if (!q)=true then
   if (a.filter (·.hash==e.hash)).size>1 then (do let _ <-(unsupported s!"{id}:keys-of-equal-hash" : Sem PUnit);pure (ForInStep.yield PUnit.unit)) else pure (ForInStep.yield PUnit.unit)
  else pure (ForInStep.yield PUnit.unit):Sem (ForInStep PUnit))) (λ_ s'=>s'=s) E s:=by
  intro l
  induction l with
  |nil=>intro _;exact TF rfl
  |cons e l g=>
    intro f;rw[List.forIn_cons];obtain⟨b,ob,t,r,p⟩:=k e (f e Tu);refine Ts (Ts ?_);rw[t];refine AA r p ?_;simp only[Bool.not_false,WS];rw[on (m e (f e Tu))];exact TF (g λx i=>f x (Tt _ i))
 refine Ve (c a.toList λe n=>V1.mp n) (λ_ s' e=>?_) λ_ _ e=>e;subst e;exact TF h
theorem Eb{nm:String}{d o:Addr}{m:Obj}{l:Nat}{a:Array DictEntry}{ep:Nat}{Q:Unit->Shared->Prop}(j:d≠o)(h:(o==sysModules)=false)(hd:s.heap.get? d=some m)(g:m.data=.dict #[] l)(p:RawD s.heap o a ep)
 (n:ul s.heap a) (r:∀e∈a,¬ (a.filter (·.hash==e.hash)).size>1) (hz:a.size<=sizeLine) (h0:a=#[]->Q () s) (t:Q () {s with heap:=s.heap.update d (Obj.mapDictKeys λ_=>a)}):
 wpAny (model prog w) A (Builtin.Dict.mergeDict nm d o) Q E s:=by
 obtain⟨v,c,x,f⟩:=id p;unfold Builtin.Dict.mergeDict;rw[if_neg (by simpa using j)];unfold Builtin.Dict.showsAll;rw[if_neg (by rw[h];exact Bool.false_ne_true)];refine wpAny_bind (wpAny_pure ?_);refine wpAny_bind (wpAny_dictEntries c f ?_);dsimp only;by_cases k:a=#[]
 · subst k;have few:(!(decide ((#[]:Array DictEntry).size<=8)&&(#[]:Array DictEntry).all λe=>(keyPart e.key).isSome))=false:=by simp
   rw[few,on TK];refine Ts (WE c f ?_);refine Ts (Vc c f ?_);refine Ts ?_;rw[Std.Legacy.Range.forIn_eq_forIn_range'];simp only[Std.Legacy.Range.size,Nat.sub_zero,Nat.add_sub_cancel,Nat.div_one,Array.size_empty,List.range'_zero,List.forIn_nil];exact TF (TF (h0 rfl))
 · have hsz:0<a.size:=by
    by_cases z:0<a.size
    ·exact z
    ·exact absurd (Array.eq_empty_of_size_eq_zero (by omega)) k
   have few:(!(decide (a.size<=8)&&a.all λe=>(keyPart e.key).isSome))=true:=by
    obtain⟨b,ob,u,_⟩:=n a[0] (Array.getElem_mem hsz)
    have:(a.all λe=>(keyPart e.key).isSome)=false:=by
     cases q:a.all λe=>(keyPart e.key).isSome with
     |false=>rfl
     |true=>
       have:=Array.all_eq_true.mp q 0 hsz
       rw[u]at this;cases this
    rw[this,Bool.and_false];rfl
   rw[few,Tq rfl];refine Ts (Vc hd g ?_);rw[Tq (by rfl)];refine Ts (Fj c f n r ?_);have i:(!a.isEmpty)=true:=by simp[k]
   rw[Tq i];exact Ts (wpAny_updateDictKeysTo hd g (TF t) (by omega))
end
def cO(k:List Int):Int:=reduceHash (Builtin.Tuple.tupleHashOf (k.map hashInt))
theorem A8{P:Program}{w:World}(k:List Int):(tupleKind (aC P w)).hash (k.map Sum.inl)=cO k:=by
 show reduceHash (Builtin.Tuple.tupleHashOf ((k.map Sum.inl).map (QT w)))=_;rw[UG];rfl
theorem xG{b:Array DictEntry}(h:(b.toList.map (·.hash)).Nodup):∀e∈b,¬ (b.filter (·.hash==e.hash)).size>1:=λe g=>by
 rw[<-UC,Array.toList_filter]
 have a:∀{l:List DictEntry},(l.map (·.hash)).Nodup->(l.filter (·.hash==e.hash)).length<=1:=by
  intro l
  induction l with
  |nil=>intro _;simp
  |cons x l c=>
    intro nd;rw[Tr,T3]at nd;rw[UH];by_cases z:(x.hash==e.hash)=true
    · rw[Tq z]
      have:l.filter (·.hash==e.hash)=[]:=WC.mpr λy d q=>by
       have e1:x.hash=e.hash:=by simpa using z
       have f:y.hash=e.hash:=by simpa using q
       exact nd.1 (T9.mpr ⟨y,d,by rw[e1,f]⟩)
      rw[this];simp
    ·rw[on z];exact c nd.2
 have:=a h
 omega
section
variable{X:Cx}
def Ph:V->List V->Hp->VK->Prop:=λx vs H Q=>∃(d b:Addr) (kvs:List (List aQ×V)) (a:List (List Int)),x=.ref d/\vs=[.ref b]/\H d=some (.dT [])/\Rd H b (.dT kvs)/\d≠b/\kvs.map (·.1)=a.map (λk=>k.map Sum.inl)/\(a.map cO).Nodup/\Q .non (upd H d (.dT kvs))
theorem jl:MtR X "dict.update" Ph:=by
 intro pins s Z H x vs v us Q I rx rv h;obtain⟨d,b,kvs,G,rfl,rfl,hd,hb,U,hk,hh,q⟩:=h;cases rx;obtain⟨u,rfl,ru⟩:=rv.one;cases ru;obtain⟨_,S,R,E,od,O,epd,c,A,j,M,_⟩:=(show ObjOk X.prog X.w H s.heap d (.dT []) from I.hok d _ hd);obtain⟨z,T,l,g,ob,P,ep,L,K,hdb,i,W⟩:=(show ObjOk X.prog X.w H s.heap b (.dT kvs) from hb.ok I.hok);have l0:R=[]:=by cases E;rfl
 subst l0
 have e0:O=#[]:=by
  have:O.toList=[]:=M
  exact Array.toList_inj.mp this
 subst e0;have n:kvs.length=l.length:=Vd g
 have m:P.size=l.length:=by
  have e:=congrArg List.length i
  rwa [Tv,UC]at e
 have tk:ul s.heap P:=λe he=>by
  have N:e∈P.toList:=V1.mpr he;rw[i]at N;obtain⟨y,t,rfl⟩:=T9.mp N
  have r:∀{f:List (List aQ×V)} {l2:List (List aQ×Addr×Value)},Paired (λ(p:List aQ×V) (q:List aQ×Addr×Value)=>p.1=q.1/\H q.2.1=some (.tup (p.1.map kV))/\RelV p.2 q.2.2) f l2->∀y∈l2,∃k:List aQ,H y.2.1=some (.tup (k.map kV)):=by
   intro f l2 h
   induction h with
   |nil=>intro y t;cases t
   |cons h _ J=>
     intro y t;rcases Tz.mp t with e|e
     ·subst e;exact⟨_,h.2.1⟩
     ·exact J y e
  obtain⟨k,hk⟩:=r g y t;obtain⟨its,_,⟨o,ho,hc,_⟩,_⟩:=I.tuple (a:=y.2.1) (xs:=k.map kV) (.inl (.inl hk));exact⟨y.2.1,o,rfl,ho,hc⟩
 have Y:∀{f:List (List aQ×V)} {l2:List (List aQ×Addr×Value)},Paired (λ(p:List aQ×V) (q:List aQ×Addr×Value)=>p.1=q.1/\H q.2.1=some (.tup (p.1.map kV))/\RelV p.2 q.2.2) f l2->f.map (·.1)=l2.map (·.1):=by
  intro f l2 h
  induction h with
  |nil=>rfl
  |cons h _ J=>rw[Tr,Tr,h.1,J]
 have B:(P.toList.map (·.hash)).Nodup:=by
  rw[i,UG]
  have e1:(l.map ((·.hash)∘entryOfKey (tupleKind (aC X.prog X.w))))=G.map cO:=by
   have e2:l.map (·.1)=G.map λk=>k.map Sum.inl:=by rw[<-Y g];exact hk
   have e3:l.map ((·.hash)∘entryOfKey (tupleKind (aC X.prog X.w)))=(l.map (·.1)).map (tupleKind (aC X.prog X.w)).hash:=by rw[UG];rfl
   rw[e3,e2,UG];exact Vn λk _=>A8 k
  rw[e1];exact hh
 refine wpAny_call_entry PySem.F.slot_dict_update ⟨od,c,A.1⟩ PySem.F.entry_dict_update ?_ (PySem.F.args_dict_update_2 _ _);have hTd:s.TypeIs (.ref d) "dict" := ⟨od,c,A.1⟩;have C:s.TypeIs (.ref b) "dict" := ⟨ob,L,K.1⟩;unfold Builtin.«dict.update»;refine wpAny_bind ?_;unfold Builtin.Dict.selfAndRest;refine wpAny_bind (wpAny_notOrdered_dict hTd ?_);show wpAny _ _ (pure (d,[Value.ref b])) _ _ s;refine wpAny_pure ?_;show wpAny _ _ (Builtin.Dict.updateFrom "dict.update" d (.ref b) [] .none) _ _ s;unfold Builtin.Dict.updateFrom;refine wpAny_bind (wpAny_typeOf C ?_);rw[if_neg (by decide)];refine wpAny_bind ?_;unfold Builtin.Dict.merge;refine wpAny_bind ?_;unfold Builtin.Dict.readDirectly;refine wpAny_bind (wpAny_isInstance C isSubtype_dict_dict ?_);simp only[Bool.not_true,Bool.false_eq_true,if_false];refine wpAny_bind (wpAny_specialOf C PySem.F.slot_dict_iter.lookup (wpAny_pure ?_));simp only[beq_self_eq_true,if_true];refine wpAny_bind (wpAny_pure ?_)
 have D:Paired (λ(p:List aQ×V) (q:List aQ×Addr×Value)=>p.1=q.1/\upd H d (.dT kvs) q.2.1=some (.tup (p.1.map kV))/\RelV p.2 q.2.2) kvs l:=by
  have r:∀{f:List (List aQ×V)} {l2:List (List aQ×Addr×Value)},Paired (λ(p:List aQ×V) (q:List aQ×Addr×Value)=>p.1=q.1/\H q.2.1=some (.tup (p.1.map kV))/\RelV p.2 q.2.2) f l2->
   Paired (λ(p:List aQ×V) (q:List aQ×Addr×Value)=>p.1=q.1/\upd H d (.dT kvs) q.2.1=some (.tup (p.1.map kV))/\RelV p.2 q.2.2) f l2:=by
   intro f l2 h
   induction h with
   |nil=>exact .nil
   |cons h _ J=>exact .cons ⟨h.1,by rw[ay (λz=>by have:=h.2.1;rw[z,hd]at this;cases this)];exact h.2.1,h.2.2⟩ J
  exact r g
 refine Eb U T c j ⟨ob,L,K,hdb⟩ tk (xG B) (by rw[m,<-n];exact z) (λez=>?_) ?_
 · show wpAny _ _ (Builtin.Dict.addKeywords d [] >>= _) _ _ _;have ey:kvs=[]:=Uh.mp (by rw[n,<-m,ez];rfl);refine Ts (TF (TF ⟨.none,rfl,.non,H,I,rfl,?_⟩))
   have:upd H d (.dT kvs)=H:=by
    funext y;by_cases zy:y=d
    ·subst zy;rw[aM,ey,hd]
    ·exact ay zy
   rw[this]at q;exact q
 · show wpAny _ _ (Builtin.Dict.addKeywords d [] >>= _) _ _ _;refine Ts (TF (TF ⟨.none,rfl,.non,_,I.write (x:=d) (e:=d) (o:=.dT kvs) (t':=s.toks) (by rw[hd];trivial) (.inl rfl) (λy u t e=>?_) ⟨_,Ug _ c (UT (Uq j _))⟩ ?_,rfl,q⟩))
   ·exact(Ub _ _ (Va t)).trans e
   ·exact⟨z,S,l,D,_,P,epd+1,Ug _ c (UT (Uq j _)),A.mapDictKeys _,Uq j _,i,W⟩
end
section
variable{X:Cx}
def IJ(b:TE):TE:=λZ H Q=>b Z H λx H1=>∃a kvs,x=.ref a/\Rd H1 a (.dK kvs)/\∀l,H1 l=none->Q (.ref l) (upd H1 l (.lst (kvs.map (·.2))))
theorem HI{kvs:List (aQ×V)}{vs:List (aQ×Value)}(r:KV kvs vs):Vals (kvs.map (·.2)) (vs.map (·.2)):=by
 induction r with
 |nil=>exact .nil
 |cons h _ a=>exact .cons h.2 a
theorem uL{x:Str}{o:Expr}{L:TE}{p ap n pos:Pos}(hc:X.calm=true)(hg:Gl X x)(hm:X.mg x=none)(U:bootBuiltins x=some (.type "list"))(V:PE X o L)
 (Y:x ≠ "__name__" := by decide) (J:(x==("__debug__" : Str))=false:=by decide)
 (l:attributeBase o "values" X.env (eval o X.env)=eval o X.env:=by rfl) (k:(ap.endLine==n.line)=true:=by rfl)
 (y:starEach [.Call (.Attribute o "values" ap) [] [] n] X.env=(false,eval (.Call (.Attribute o "values" ap) [] [] n) X.env)::starEach [] X.env:=by rfl):
 PE X (.Call (.Name x p) [.Call (.Attribute o "values" ap) [] [] n] [] pos) (IJ L):=by
 intro f s Z H Q I h;refine UZ (jJ I hg hm U ?_ Y J);refine UW (e:= .Call (.Attribute o "values" ap) [] [] n) ?_ y rfl;rw[y];show wpAny _ _ (spliced ((false,eval (.Call (.Attribute o "values" ap) [] [] n) X.env)::backTo pos (starEach [] X.env))) _ _ s;refine Us ?_;refine wpAny_Call_method0_late l k (bE (V f s Z H _ I h) λu c ⟨x1,H1,C,R,S⟩=>?_);obtain⟨a,kvs,rfl,N,q⟩:=S;have D:u=Value.ref a:=R;subst D;obtain⟨M,P,_⟩:=lL C (.inl ⟨kvs,N⟩);refine⟨"dict","dict.values",Ua,Wp,PySem.F.type_dict_values,M,P,UA rfl (PySem.evalArgs_none ?_)⟩;obtain⟨z,hd,vs,t,dd⟩:=kN C.hok N;refine VC Wp M PySem.F.entry_dict_values (PySem.F.args_dict_values_1 _) (meets_dict_values (aC X.prog X.w) a hd) ⟨⟨vs,dd⟩,?_⟩;refine UQ ?_;obtain⟨ob,es,ep,A,T,B,hk,hp,G⟩:=id dd;have hla:a<c.heap.objs.size:=TH A
 refine PySem.W.kdl_call (s:={c with heap:=c.heap.push {cls:=.type "dict_values",data:=.fields #[.ref a]}}) (PySem.W.kdl_values (knd:=aC X.prog X.w) (d:=a) (r:=c.heap.objs.size) (kvs:=vs) (ep:=ep)) (C.ok.hd hc)
  ⟨⟨_,TZ _ rfl,rfl,rfl⟩,ob,es,Tx _ A,T,B,hk,hp,G⟩ (by rw[<-t.length];exact z) λh' O i c' kp K g=>?_
 have E:∀b o,c.heap.get? b=some o->h'.get? b=some o:=λb o eb=>kp b o (Heap.get?_push_of_some _ eb);have m:i.toList=vs.map (·.2):=PySem.W.kdl_vals_eq _ (by rw[Array.length_toList,g.1]) λj v e=>g.2 j v (by rw[<-Array.getElem?_toList];exact e);have sz:(c.heap.push {cls:=.type "dict_values",data:=.fields #[.ref a]}).objs.size=c.heap.objs.size+1:=Heap.size_push ..;dsimp only at K;rw[sz]at K;show EP X f Z Q (.ref (c.heap.push {cls:=.type "dict_values",data:=.fields #[.ref a]}).objs.size) _;rw[sz];refine⟨.ref (c.heap.objs.size+1),_,C.laid (t':=O) E (Nat.le_succ _) ?_,rfl,q _ (C.hok.fresh (Nat.le_succ _))⟩;refine⟨by rw[List.length_map];exact z,i.toList,c',by rw[m];exact HI t,?_⟩;rw[Array.toArray_toList];exact K
def BX(d:TE)(g:TG)(tb:TS):TS:=λD Z H=>d Z H λx H1=>∃a kvs,x=.ref a/\Rd H1 a (.dT kvs)/\(kvs=[]->D.nx Z H1)/\
 ∀k v r b,kvs=(k,v)::r->H1 b=some (.tup (k.map kV))->g (.ref b) Z H1 λc e=>tb {D with nx:=λ_ _=>False,ct:=λ_ _=>False,bk:=D.nx} c e
theorem Dl{S iter:Expr}{body:List Stmt}{T:TE}{g:TG}{tb:TS}{pos:Pos}(hp:PassesOwn (model X.prog X.w) X.A X.env X.xe)(hc:X.calm=true)(hl:PE X iter T)(hg:PG X S g)(J:Gb X body tb)
 (hs:∀x,foldedSetIterable iter X.env x=pure x:=by intro _;rfl):PS X (.For S iter body [] pos) (BX T g tb):=by
 intro j s Z H D I h;refine wpAny_For (bE (hl j s Z H _ I h) λv i ⟨x,H1,N,r1,q1⟩=>?_) hs;obtain⟨a,kvs,rfl,ha,q0,q⟩:=q1;cases r1;obtain⟨z,hd,M,u,o,k,ep,W,V,t,F,hnd⟩:=(show ObjOk X.prog X.w H1 i.heap a (.dT kvs) from ha.ok N.hok);have r:kvs.length=M.length:=Vd u
 have p:k.size=M.length:=by
  have e:=congrArg List.length F
  rwa [Tv,UC]at e
 refine uF hd ⟨o,W,V,t⟩ ?_;have R:Inv X j Z H1 {i with heap:=i.heap.push {cls:=.type "dict_keyiterator",data:=.fields #[.ref a,.int 0 0,.int k.size 0,.int ep 0]}}:=N.kept (t':=i.toks) λb o e=>Tx _ e;have hf:=N.fpOk (TM _) (N.hok.fresh (TM _));have B:(i.heap.push {cls:=.type "dict_keyiterator",data:=.fields #[.ref a,.int 0 0,.int k.size 0,.int ep 0]}).IsKeyIter i.heap.objs.size a 0 k.size ep:=⟨_,TZ _ rfl,rfl,rfl⟩;have C:RawD (i.heap.push {cls:=.type "dict_keyiterator",data:=.fields #[.ref a,.int 0 0,.int k.size 0,.int ep 0]}) a k ep:=⟨o,Tx _ W,V,t⟩;obtain⟨f0,f1,f2,f3,f4,Y⟩:=hf;refine codeAny_forLoop_any (λ_ s'=>s'={i with heap:=i.heap.push {cls:=.type "dict_keyiterator",data:=.fields #[.ref a,.int 0 0,.int k.size 0,.int ep 0]}}) ?_ 0 rfl;rintro n s3 rfl;cases kvs with
 |nil=>
   have e0:k.size=0:=by rw[p,<-r];rfl
   rw[e0]at B;refine UF hp (yQ (s:={i with heap:=_}) (R.ok.hd hc) (by rw[e0];exact B) C λh' eb=>?_);exact UR ⟨Z,H1,R.turned (t':=i.toks) (λb o J e=>eb b o J e) f0 f1 f3 f4 Y,q0 rfl⟩
 |cons U kvs=>
   cases M with
   |nil=>cases r
   |cons y M=>
     cases u with
     |cons hy u=>
       have E:0<k.size:=by rw[p];exact Nat.succ_pos _
       refine UF hp (uG (s:={i with heap:=_}) B C E λh' P sb=>?_)
       have ek:k[0].key=.ref y.2.1:=by
        have G:k.toList[0]?=some k[0]:=by rw[WK];exact VF E
        rw[F]at G;have ee:entryOfKey (tupleKind (aC X.prog X.w)) y=k[0]:=T2 G;rw[<-ee,qW]
       rw[ek];have I3:Inv X j Z H1 {i with heap:=h'}:=R.turned (t':=i.toks) (λb o J e=>(sb.2 b J).trans e) f0 f1 f3 f4 Y;obtain⟨oi,e,c,d⟩:=id P;refine UF hp (zk (s:={i with heap:=h'}) e c d (by decide) ?_);refine UF hp (bE (hg j _ Z H1 (.ref y.2.1) (.ref y.2.1) _ I3 rfl (q U.1 U.2 kvs y.2.1 rfl hy.2.1)) λ_ s6 ⟨O,H6,I6,q6⟩=>?_);refine UF hp (bE (J _ s6 O H6 _ I6 q6) λf s7 m=>?_);cases f with
       |next=>obtain⟨l,L,K,Q⟩:=m;exact Q.elim
       |cont=>obtain⟨l,L,K,Q⟩:=m;exact Q.elim
       |brk=>obtain⟨l,L,K,m⟩:=m;exact⟨l,L,K,m⟩
       |ret v=>obtain⟨x7,l,L,K,r7,m⟩:=m;exact⟨x7,l,L,K,r7,m⟩
end
end L2
namespace Mi
open PySem L2
section
variable{Y:Cm}{E:XK}{M:List Md}{K:F0}{B U H:Hp}{I:Nat->List Addr}{Z:St}{T:L4}{t:TE}{get:L4->Option D}{set:L4->D->L4}
def Pg(get:L4->Option D):L4->Res D:=λT=>match get T with|some d=>.ok d|none=>.bad
theorem Pl{i:Nat}(p:Prt Y M t get set i (.ct .fz)):PJ Y (KC Y .F) E M t (Pg get):=by
 intro B U I Z H T Q R P;unfold Pg at P;cases e:get T with
 |none=>rw[e]at P;exact P.elim
 |some d=>
   rw[e]at P;obtain⟨sh,c,d0,v,L,A,k,g,f,hd,h,b,a,j⟩:=p.rd R e;exact b _ (P v B U H [] R (Gw.refl _ _ _) New.nil (Ow.cn R.bh a))
def BG:D->Res D | .dK _ vs=>.ok (.lst vs)|_=>.bad
theorem LN{b:TE}{c:L4->Res D}(e:PJ Y (KC Y .F) E M b c):PJ Y (KO Y (.ct .fz)) E M (IJ b) (un BG c):=by
 intro B U I Z H T Q R P;refine e.bnd R P λx v B1 U1 H1 L _ i e1 j h W=>?_;cases x with
 |dK k ds=>
   obtain⟨a,kvs,rfl,g,m,f⟩:=h;exact⟨a,kvs,rfl,.inl g,λl d=>fK i W f d⟩
 |_=>exact W.elim
def iy:List aQ->List D->aQ->List aQ×List D
 |k::a,d::ds,j=>if k=j then iy a ds j else (k::(iy a ds j).1,d::(iy a ds j).2)
 |_,_,_=>([],[])
theorem rC{G:Hp}{k:aQ}:∀{kvs:List (aQ×V)} {ds:List D},Dns Y G ds (kvs.map (·.2))->(eM kvs k).map (·.1)=(iy (kvs.map (·.1)) ds k).1/\Dns Y G (iy (kvs.map (·.1)) ds k).2 ((eM kvs k).map (·.2))
 | [],ds,h=>by
   cases ds<;>exact⟨rfl,by show Dns Y G [] [];rw[Dns]⟩
 | p::kvs,ds,h=>by
   cases ds with
   |nil=>rw[Dns]at h;cases h
   |cons d ds=>
     rw[List.map_cons,Dns]at h;obtain⟨y,r,e,f,c⟩:=h;cases e;obtain⟨b,a⟩:=rC (k:=k) c;unfold eM at b a ⊢;rw[List.map_cons,List.filter_cons,iy];by_cases q:p.1=k
     ·rw[on (by simp[q]),Tq q];exact⟨b,a⟩
     ·rw[Tq (by simpa using q),on q];refine⟨by rw[Tr,b],?_⟩;rw[Tr,Dns];exact⟨_,_,rfl,f,a⟩
def mz(set:L4->D->L4)(T:L4)(a:List aQ)(vs:List D)(k:aQ):Out D:=match bC a vs k with
 |some y=>.ok y (set T (.dK (iy a vs k).1 (iy a vs k).2))
 |none=>.ok .non T
def rF(get:L4->Option D)(set:L4->D->L4)(mk:L4->Res D):L4->Out D:=λT=>match get T with
 |some (.dK a vs)=>((mk T).up T).bind λk T=>(match eJ k with|some k=>mz set T a vs k|none=>.bad)
 |_=>.bad
theorem za{z:TE}{mk:L4->Res D}(p:Pth Y M t get set)(V:PJ Y (KR Y .X) E M z mk):MJ Y (KR Y .F) E M (BZ t z (tC .non)) (rF get set mk):=by
 intro B U I Z H T Q R P;unfold rF at P;cases e:get T with
 |none=>rw[e]at P;exact P.elim
 |some d=>
   obtain⟨v,A,S,K,hA,cl⟩:=p.rd R e;cases d with
   |dK n vs=>
     rw[e]at P;replace P:Mo Y (KR Y .F) E M B U Z (((mk T).up T).bind λk T=>(match eJ k with|some k=>mz set T n vs k|none=>.bad)) Q:=P;obtain⟨a,kvs,rfl,C,h2,rfl,W⟩:=K.dK rfl;refine S _ ⟨a,rfl,.inl ⟨kvs,.inl C⟩,V B U I Z H T _ R ?_⟩;cases s:mk T with
     |exc c=>rw[s]at P;exact λB1 U1 H1 m f=>P B1 U1 I H1 m f.toEx
     |bad=>rw[s]at P;exact P.elim
     |ok o=>
       rw[s]at P;intro u B1 U1 H1 N m f n1 q;have q:Dn Y H1 o u:=q;replace P:Mo Y (KR Y .F) E M B U Z (match eJ o with|some k=>mz set T n vs k|none=>.bad) Q:=P;cases x:eJ o with
       |none=>rw[x]at P;exact P.elim
       |some k=>
         rw[x]at P;replace P:Mo Y (KR Y .F) E M B U Z (mz set T n vs k) Q:=P;have j:Dns Y B1 vs (kvs.map (·.2)):=W.mono f.b;have i:=gG (Y:=Y) (G:=B1) k j;subst h2;unfold mz at P;refine⟨kvs,k,f.h _ _ C,oX x q,λv g=>?_,λg=>?_⟩
         · cases l:bC (kvs.map (·.1)) vs k with
           |none=>rw[l]at i;rw[show cQ kvs k=none from i]at g;cases g
           |some y=>
             rw[l]at i P;obtain⟨w,r,J⟩:=i;rw[r]at g;cases g;obtain⟨O,L⟩:=rC (Y:=Y) (G:=B1) (k:=k) j;refine P _ B1 U1 I _ [] (cl B1 U1 H1 m f.b f.h a Tu _ _ ?_) f.toEx NewM.nil J;rw[<-O];exact Ow.dK' aM L
         · cases l:bC (kvs.map (·.1)) vs k with
           |some y=>rw[l]at i;obtain⟨w,r,J⟩:=i;rw[r]at g;cases g
           |none=>
             rw[l]at P;exact P .non B1 U1 I H1 [] m f.toEx NewM.nil (by show Dn Y B1 .non .non;rw[Dn])
   |_=>rw[e]at P;exact P.elim
def Gq(set:L4->D->L4)(T:L4):D->Out D
 |.dT b vs=>(match iV (b.map λk=>.tup (k.map kD)) with|some a=>(if (a.map cO).Nodup/\vs.all bv=true then .ok .non (set T (.dT b vs)) else .bad)|none=>.bad)
 |_=>.bad
def uv(get:L4->Option D)(set:L4->D->L4)(me:L4->Res D):L4->Out D:=λT=>match get T with
 |some (.dT [] _)=>((me T).up T).bind λd T=>Gq set T d
 |_=>.bad
theorem kn{te:TE}{me:L4->Res D}(p:Pth Y M t get set)(X:PJ Y (KR Y .U) E M te me):MJ Y (KR Y .F) E M (OL K "dict" Ph t (bz te cT)) (uv get set me):=by
 intro B U I Z H T Q R P;unfold uv at P;cases e:get T with
 |none=>rw[e]at P;exact P.elim
 |some d=>
   obtain⟨v,A,W,V,hA,cl⟩:=p.rd R e;cases d with
   |dT l vs=>
     cases l with
     |cons _ _=>rw[e]at P;exact P.elim
     |nil=>
       rw[e]at P;replace P:Mo Y (KR Y .F) E M B U Z (((me T).up T).bind λd T=>Gq set T d) Q:=P;obtain⟨a,kvs,rfl,O,h2,rfl,h3⟩:=V.dT rfl;have y:kvs=[]:=List.map_eq_nil_iff.mp h2;subst y;refine W _ ⟨.inr (.inr (.inl ⟨rfl,.inr ⟨_,O⟩⟩)),X B U I Z H T _ R ?_⟩;cases J:me T with
       |exc c=>rw[J]at P;exact λB1 U1 H1 n j=>P B1 U1 I H1 n j.toEx
       |bad=>rw[J]at P;exact P.elim
       |ok x=>
         rw[J]at P;intro u B1 U1 H1 N n j n1 r;have r:Dn Y U1 x u:=r;replace P:Mo Y (KR Y .F) E M B U Z (Gq set T x) Q:=P;cases x with
         |dT l ds=>
           replace P:Mo Y (KR Y .F) E M B U Z (match iV (l.map λk=>.tup (k.map kD)) with|some f=>(if (f.map cO).Nodup/\ds.all bv=true then .ok .non (set T (.dT l ds)) else .bad)|none=>.bad) Q:=P;cases L:iV (l.map λk=>.tup (k.map kD)) with
           |none=>rw[L]at P;exact P.elim
           |some f=>
             rw[L]at P;dsimp only at P;by_cases z:(f.map cO).Nodup/\ds.all bv=true
             · rw[Tq z]at P;rw[Dn]at r;obtain⟨b,s,rfl,g,m,C⟩:=r;have ek:=EY L;obtain⟨i,G⟩:=hA a Tu;have S:=n.un i a G
               have w:a≠b:=λq=>by
                subst q;rcases g with g|⟨o,g⟩<;>(rw[S]at g;cases g)
               refine⟨a,b,s,f,rfl,rfl,j.h _ _ O,kc n.uh g,w,by rw[m,ek],z.1,?_⟩;refine P .non B1 U1 I _ [] (cl B1 U1 H1 n j.b j.h a Tu _ _ ?_) j.toEx NewM.nil (by show Dn Y B1 .non .non;rw[Dn]);rw[<-m];exact Ow.dT' aM (eE z.2 C)
             ·rw[on z]at P;exact P.elim
         |_=>exact P.elim
   |_=>rw[e]at P;exact P.elim
def Ox(c:Nat)(f:Str)(i:Nat)(g:List D->Out D)(a b:L4->Res D)(x:L4->Out D):L4->Out D:=λT=>match rg T i with
 |none=>.bad
 |some o=>if bI c f o=true then ((a T).up T).bind λy T=>((b T).up T).bind λz T=>(x T).bind λw d=>(match rg d i with|some e=>ci [.O i,.F,.F,.F] g [e,y,z,w] d|none=>.bad) else .bad
theorem HB{c:Nat}{C:Str}{p:List Md}{j:KT D V}{m:List D->Out D}{i:Nat}{ta tb tx:TE}{G x:L4->Res D}{n:L4->Out D}(ha:PJ Y (KR Y .F) E M ta G)(hb:PJ Y (KR Y .F) E M tb x)(hx:MJ Y (KR Y .F) E M tx n)
 (hf:fitM M [.O i,.F,.F,.F] p) (hU:∀d v B U J H N,j d v B U H N->j d v B J H N):MJ Y j E M (gy (Y c) C (dt Y p j m) [] E (cR i) (bz ta (bz tb (bz tx cT)))) (Ox c C i m G x n):=by
 intro B U I Z H T Q R P;unfold Ox at P;cases e:rg T i with
 |none=>rw[e]at P;exact P.elim
 |some o=>
   rw[e]at P;dsimp only at P;by_cases z:bI c C o=true
   · rw[Tq z]at P;have l:=R.lo i;rw[e]at l;obtain⟨v0,h,_⟩:=l;refine⟨v0,b9 h,?_⟩;obtain⟨a,dx,fs,rfl,h1,h2⟩:=jn z (R.read h e);refine⟨a,dx,fs,rfl,h1,h2,ha B U I Z H T _ R ?_⟩;cases e1:G T with
     |bad=>rw[e1]at P;exact P
     |exc c=>rw[e1]at P;exact λB1 U1 H1 R1 t=>P B1 U1 I H1 R1 t.toEx
     |ok y=>
       rw[e1]at P;intro v1 B1 U1 H1 L R1 t n1 d1;refine hb B1 U1 I Z H1 T _ R1 ?_;replace P:Mo Y j E M B U Z (((x T).up T).bind λz T=>(n T).bind λw f=>(match rg f i with|some g=>ci [.O i,.F,.F,.F] m [g,y,z,w] f|none=>.bad)) Q:=P;cases W:x T with
       |bad=>rw[W]at P;exact P
       |exc c=>rw[W]at P;exact λA U2 H2 R2 s=>P A U2 I H2 R2 (t.toEx.trans s.toEx)
       |ok z=>
         rw[W]at P;intro v2 A U2 H2 N2 R2 s n2 d2;refine hx A U2 I Z H2 T _ R2 ?_;replace P:Mo Y j E M B U Z ((n T).bind λw f=>(match rg f i with|some g=>ci [.O i,.F,.F,.F] m [g,y,z,w] f|none=>.bad)) Q:=P;cases S:n T with
         |bad=>rw[S]at P;exact P
         |exc c f=>rw[S]at P;exact λB3 U3 u H3 R3 q=>P B3 U3 u H3 R3 ((t.toEx.trans s.toEx).trans q)
         |ok w f=>
           rw[S]at P;replace P:Mo Y j E M B U Z (match rg f i with|some g=>ci [.O i,.F,.F,.F] m [g,y,z,w] f|none=>.bad) Q:=P;intro v3 B3 U3 u H3 N3 R3 q n3 X;cases K:rg f i with
           |none=>rw[K]at P;exact P.elim
           |some g=>
             rw[K]at P;dsimp only at P;have d1:Dn Y B1 y v1:=d1;have d2:Dn Y A z v2:=d2;have X:Dn Y B3 w v3:=X;refine lm (ps:=[.O i,.F,.F,.F]) (ds:=[g,y,z,w]) (vs:=[.ref a,v1,v2,v3]) R3 ?_ hf (by simp[dG]) (λk hk=>by simp[jX]at hk) hU (Mo.at (r:=ci [.O i,.F,.F,.F] m [g,y,z,w] f) P ((t.toEx.trans s.toEx).trans q));exact⟨g,_,_,_,rfl,rfl,⟨h,K⟩,y,_,_,_,rfl,rfl,Dn.mono (s.b.trans q.b) d1,z,_,_,_,rfl,rfl,Dn.mono q.b d2,w,_,_,_,rfl,rfl,X,rfl,rfl⟩
   ·rw[on z]at P;exact P.elim
theorem MO{c:Nat}{f:Str}{a:List Md}{k:List D->Out D}{i:Nat}{d tb b:TE}{j g:L4->Res D}{e:L4->Out D}(o:PJ Y (KR Y .F) E M d j)(n:PJ Y (KR Y .F) E M tb g)(l:MJ Y (KR Y .F) E M b e)
 (m:fitM M [.O i,.F,.F,.F] a):MJ Y (KR Y .F) E M (gy (Y c) f (dt Y a (KR Y .F) k) [] E (cR i) (bz d (bz tb (bz b cT)))) (Ox c f i k j g e):=HB o n l m λ_ _ _ _ _ _ _ h=>h
end
section
variable{Y:Cm}{E:XK}{Kr:KT D V}{pr:Nat->Bool}{M:List Md}{K:F0}{B U H:Hp}{I:Nat->List Addr}{Z:St}{T:L4}
def pd(c:Nat)(f:Str)(i j:Nat):L4->SO:=λT=>match rg T i with
 |none=>.bad
 | some d=>(match bL c f d with
   |.ok (.dT [] _)=>.nx T
   |.ok (.dT (k::_) _)=>if j<T.length then .rt (.tup (k.map kD)) (T.set j (some (.tup (k.map kD)))) else .bad
   |_=>.bad)
theorem GU{i j c:Nat}{f:Str}(hc:Cls K (Y c))(hn:NoAttr K (Y c) f)(hm:M.getD i .F= .R)(hj:M.getD j .F= .F)(hp:pr j=false):
 SJ Y E (KR Y .F) pr M (BX (qd K (cR i) f) (fc j) (KD (cR j))) (pd c f i j):=by
 intro B U I Z H T D R P;have l:=R.lo i;rw[hm]at l;unfold pd at P;cases e:rg T i with
 |none=>rw[e]at P;exact P.elim
 |some d0=>
   rw[e]at P l;dsimp only at P;obtain⟨X,A,p⟩:=l;have p:Dn Y U d0 X:=p.1;cases s:bL c f d0 with
   |bad=>rw[s]at P;exact P.elim
   |exc x=>exact(kJ s).elim
   |ok d=>
     rw[s]at P;obtain⟨ns,vs,rfl,lk⟩:=nr s;rw[Dn]at p;obtain⟨b,dx,fs,rfl,hb,G,w⟩:=p;subst G;obtain⟨x,hx,n⟩:=ko w lk;cases d with
     |dT u ds=>
       rw[Dn]at n;obtain⟨a,kvs,rfl,C,h,_⟩:=n;refine⟨.ref b,b9 A,b,_,dx,fs,.ref a,rfl,R.uh _ _ hb,hc,hn,hx,a,kvs,rfl,kc R.uh C,λO=>?_,λk v r y O S=>?_⟩
       · subst O;cases u with
         |cons _ _=>cases h
         |nil=>exact P Z B U I H R (Ex.refl _ _) (Kp.refl _ _)
       · subst O;cases u with
         |nil=>cases h
         |cons k' u=>
           have L:k=k':=by injection h
           subst L;replace P:So Y E (KR Y .F) pr M B U Z (if j<T.length then .rt (.tup (k.map kD)) (T.set j (some (.tup (k.map kD)))) else .bad) D:=P;by_cases m:j<T.length
           case neg=>rw[on m]at P;exact P.elim
           rw[Tq m]at P;have g:∀z∈[y],∃q,H z=some q/\fQ q:=λz hz=>by rw[TX.mp hz];exact⟨_,S,_,rfl⟩
           have R2:Rel Y M (Mi.frz B H [y]) (Mi.frz U H [y]) I Z H T:=R.grow (b6 R.bh) (b6 R.uh) (Same.refl _) (o4 R.bu) (sT R.uh) λi a V=>by
            unfold Mi.frz;split
            ·rename_i z;obtain⟨o,e,t⟩:=g a z;exact(R.nt V e t).elim
            ·exact R.un i a V
           have W:Dn Y (Mi.frz B H [y]) (.tup (k.map kD)) (.ref y):=by
            rw[Dn];refine⟨y,_,rfl,?_,xK k⟩;unfold Mi.frz;rw[if_pos (List.mem_singleton.mpr rfl)];exact S
           have ex:Ex B U (Mi.frz B H [y]) (Mi.frz U H [y]):=⟨b6 R.bh,b6 R.uh,λa o q=>by
            unfold Mi.frz at q;split at q
            ·rename_i z;obtain⟨o',e,t⟩:=g a z;rw[e]at q;cases q;exact .inr (.inr t)
            ·exact .inl q⟩
           obtain⟨Q,R3⟩:=R2.store (i:=j) (d:=.tup (k.map kD)) (v:=.ref y) (N:=[]) NewM.nil (by rw[hj];exact⟨_,rfl,W,rfl⟩);have J:j<Z.length:=by rw[<-R.len];exact m
           refine⟨.ref y,?_,P (.ref y) _ _ _ Q H [] R3 ex (Kp.set hp) NewM.nil W⟩;rw[UV J]
     |_=>exact P.elim
theorem Dz{s:Sh}{wi:TI}{ix:List Nat}{ti:TT}{te:TE}{src:L4->Res (List D)}{mi:L4->Res Bool}{me:L4->Res D}(hs:PJ Y (KI Y .F .X) E M wi src)(hix:ix.Nodup)(hti:PJ Y KB E0 (lH .F M ix) ti mi)(hte:PJ Y (KO Y s) E0 (lH .F M ix) te me):
 PJ Y (KO Y (.ct s)) E M (nF wi ix ti te) (iD src ix mi me):=by
 intro B U I Z H T Q R P;refine hs.bnd R P λds J B1 U1 H1 L _ R1 e1 n1 ⟨vs,hJ,hd⟩ W p hp=>?_;have hd:Dns Y B1 ds vs:=hd;by_cases z:ds.length<ao
 · rw[Tq z]at W;have hvl:ds.length=vs.length:=hd.len;have hpA:∀i,p∉I i:=λi=>R1.fresh hp i
   refine⟨λi m t H2=>i<=ds.length/\m=ds.length-i/\H2 p=some (.lst t)/\t.length<=i/\∃B2 O l N,Rel Y M B2 O I Z H2 T/\Gw B1 U1 H1 B2 O H2/\O p=none/\p∉N/\New N H1 O I/\Ows Y B2 H2 l s t N/\
    Po Y (KO Y (.ct s)) E M B1 U1 I Z H1 T ((bD mi me (d5 T ix) (ds.drop i)).bind λr=>.ok (.lst (l++r))) Q,⟨ds.length,UN _,rfl,aM,TM _,B1,U1,[],[],R1.new hp,Gw.newO R1 hp,R1.uh.free hp,by simp,New.nil,by rw[Ows];exact⟨rfl,rfl⟩,W⟩,?_⟩
   rintro i m t H2 ⟨hi,rfl,hy,hle,B2,O,l,N,R2,g2,u2,pN,nN,dz,k⟩;have S:=hJ H2 g2.h;refine⟨hy,U5 hle (gc (UK (U5 hi z))),?_⟩;by_cases hlt:i<ds.length
   · refine .inr ⟨S.2.1 i (by omega),λv H3 hyl=>?_⟩;obtain⟨rfl,ev⟩:=S.2.2 i v H3 (by omega) hyl;obtain⟨d,ed,dd⟩:=hd.geti ev;rw[js ed,bD]at k;have RI:=R2.inner (m:= .F) hix (QU R2.bu R2.uh (Dn.mono g2.b dd));refine hti B2 O _ _ H3 _ _ RI ?_
     -- what an inner step leaves
     have n:∀{G f A:Hp} {a:Addr} {o1:HO},Same f A->Gw B2 O H3 G f A->O a=none->H3 a=some o1->¬ fQ o1->f a=none:=λ{G f A a o1} uh g h1 h2 h3=>by
      cases q:f a with
      |none=>rfl
      |some o=>
        rcases g.fr a o q with z|z|z
        ·rw[h1]at z;cases z
        ·rw[h2]at z;cases z
        ·have:=uh a o q;rw[g.h _ _ h2]at this;cases this;exact(h3 z).elim
     have relU:∀{G f A:Hp},Same G f->Same f A->Gw B2 O H3 G f A->Rel Y M G f I Z A T:=λ{G f A} bu uh g=>R2.grow g.b g.u g.h bu uh λj a C=>by
      obtain⟨o',q',nt⟩:=(R2.lo j).at2 C;exact n uh g (R2.un j a C) q' nt
     have nU:∀{G f A:Hp},Same f A->Gw B2 O H3 G f A->New N H1 f I:=λ{G f A} uh g=>⟨nN.nd,nN.fr,λa C=>by
      obtain⟨o',q',nt⟩:=Ows.at2 dz C
      exact n uh g (nN.un a C) q' nt⟩
     have dzU:∀{G f A:Hp},Gw B2 O H3 G f A->Ows Y G A l s t N:=λ{G f A} g=>Ows.mono g.b (λa C=>by
      obtain⟨o',q',nt⟩:=Ows.at2 dz C
      rw[q',g.h _ _ q']) dz
     have pt:¬ fQ (.lst t):=λ⟨_,z⟩=>by cases z
     cases eb:mi (some d::d5 T ix) with
     |bad=>rw[eb]at k;exact k.elim
     |exc c=>rw[eb]at k;exact k.elim
     |ok c=>
       rw[eb]at k;intro b G f A N3 R3' g3 n3 hb;cases hb;cases c with
       |false=>
         rw[on TK];exact⟨ds.length-(i+1),by omega,hlt,rfl,g3.h _ _ hy,by omega,G,f,l,N,relU R3'.bu R3'.uh g3,g2.trans g3,n R3'.uh g3 u2 hy pt,pN,nU R3'.uh g3,dzU g3,k⟩
       |true=>
         rw[Tq rfl];refine hte G f _ _ A _ _ R3' ?_;replace k:Po Y (KO Y (.ct s)) E M B1 U1 I Z H1 T (((me (some d::d5 T ix)).calm.bind λx=>(bD mi me (d5 T ix) (ds.drop (i+1))).bind λxs=>.ok (x::xs)).bind λr=>.ok (.lst (l++r))) Q:=k;cases ee:me (some d::d5 T ix) with
         |bad=>rw[ee]at k;exact k.elim
         |exc c=>rw[ee]at k;exact k.elim
         |ok x=>
           rw[ee]at k;intro y B4 U4 H5 N4 R4' g4 n4 hx;have hx:Ow Y B4 H5 x s y N4:=hx;have K:=g3.trans g4;have y5:H5 p=some (.lst t):=K.h _ _ hy;have pN4:p∉N4:=λhm=>by have:=n4.fr p hm;rw[g3.h _ _ hy]at this;cases this
           have up4:=n R4'.uh K u2 hy pt;have nN4:=nU R4'.uh K;have R4:=relU R4'.bu R4'.uh K
           have g5:Gw B1 U1 H1 B4 U4 (upd H5 p (.lst (t++[y]))):=by
            have g:=g2.trans K;exact⟨g.toEx,λa o q=>by rw[ay (bf q hp)];exact g.h a o q,g.fr⟩
           refine⟨y5,ds.length-(i+1),by omega,hlt,rfl,aM,by rw[TU,Vw];omega,B4,U4,l++[x],N++N4,R4.poke up4 hpA,g5,up4,?_,?_,?_,?_⟩
           · intro hm;rcases TY.mp hm with h|h
             ·exact pN h
             ·exact pN4 h
           · refine⟨Uf.mpr ⟨nN.nd,n4.nd,λa C c hc e=>?_⟩,λa C=>?_,λa C=>?_⟩
             · obtain⟨o',q',nt⟩:=Ows.at2 dz C
               have:=n4.fr c hc
               rw[<-e,g3.h _ _ q']at this;cases this
             · rcases TY.mp C with h|h
               ·exact nN.fr a h
               ·exact(g2.h.trans g3.h).free (n4.fr a h)
             · rcases TY.mp C with h|h
               ·exact nN4.un a h
               ·exact n4.un a h
           · have app:∀{l:List D} {t:List V} {N:List Addr},Ows Y B4 H5 l s t N->p∉N->Ows Y B4 (upd H5 p (.lst (t++[y]))) l s t N->True:=λ_ _ _=>trivial
             have key:∀{H6:Hp} {l:List D} {t:List V} {N:List Addr},Ows Y B4 H6 l s t N->Ow Y B4 H6 x s y N4->Ows Y B4 H6 (l++[x]) s (t++[y]) (N++N4):=by
              intro H6 l
              induction l with
              |nil=>
                intro t N h w;rw[Ows]at h;obtain⟨rfl,rfl⟩:=h;show Ows Y B4 H6 [x] s [y] N4;rw[Ows];exact⟨y,[],N4,[],rfl,by simp,w,by rw[Ows];exact⟨rfl,rfl⟩⟩
              |cons z l ih=>
                intro t N h w;rw[Ows]at h;obtain⟨u,r,A1,A2,rfl,rfl,h1,h2⟩:=h;show Ows Y B4 H6 (z::(l++[x])) s (u::(r++[y])) _;rw[Ows];exact⟨u,r++[y],A1,A2++N4,rfl,by rw[UE],h1,ih h2 w⟩
             exact key (Ows.mono (Same.refl _) (λa C=>ay (λe:a=p=>pN (e▸C))) (dzU K)) (Ow.mono (Same.refl _) (λa C=>ay (λe:a=p=>pN4 (e▸C))) hx)
           · cases eg:bD mi me (d5 T ix) (ds.drop (i+1)) with
             |ok r=>
               rw[eg]at k;show Po Y (KO Y (.ct s)) E M B1 U1 I Z H1 T (.ok (.lst (l++[x]++r))) Q;rw[UE];exact k
             |exc c=>rw[eg]at k;exact k
             |bad=>rw[eg]at k;exact k
   · have e:i=ds.length:=by omega
     subst e;rw[V0,bD]at k;refine .inl ⟨S.1 _ (by omega),?_⟩;have P3:Po Y (KO Y (.ct s)) E M B1 U1 I Z H1 T (.ok (.lst (l++[]))) Q:=k;rw[Um]at P3;refine P3 (.ref p) B2 O H2 (p::N) R2 g2 ⟨T3.mpr ⟨pN,nN.nd⟩,λa q=>?_,λa q=>?_⟩ ?_
     · rcases Tz.mp q with e|e
       ·rw[e];exact hp
       ·exact nN.fr a e
     · rcases Tz.mp q with e|e
       ·rw[e];exact u2
       ·exact nN.un a e
     ·show Ow Y B2 H2 (.lst l) (.ct s) (.ref p) (p::N);rw[Ow];exact⟨p,t,N,rfl,hy,rfl,dz⟩
 ·rw[on z]at W;exact W.elim
end
end Mi
namespace Cl
open PySem L2 Mi
abbrev DJ(X:Type):=List (Int×X)
section
variable{X:Type}
def lO(f:X->D)(F:DJ X):D:=.dK (F.map λp=>Sum.inl p.1) (F.map λp=>f p.2)
def DJ.get(F:DJ X)(k:Int):Option X:=(F.find? λp=>decide (p.1=k)).map (·.2)
def DJ.put(F:DJ X)(k:Int)(v:X):DJ X:=if (DJ.get F k).isSome=true then F.map λp=>if p.1=k then (p.1,v) else p else F++[(k,v)]
def DJ.del(F:DJ X)(k:Int):DJ X:=F.filter λp=>decide (p.1≠k)
theorem qQ{f:X->D}{k:Int}:∀F:DJ X,bC (F.map λp=>(Sum.inl p.1:aQ)) (F.map λp=>f p.2) (Sum.inl k)=(DJ.get F k).map f
 |[]=>rfl
 | p::F=>by
   have a:=qQ (f:=f) (k:=k) F;unfold DJ.get at *;rw[List.map_cons,List.map_cons,bC,List.find?_cons];by_cases q:p.1=k
   ·simp[q]
   · have:¬ (Sum.inl p.1:aQ)=Sum.inl k:=λz=>q (Wh z)
     rw[on this,a];simp[q]
theorem vg{k:Int}:∀F:DJ X,cF (F.map λp=>(Sum.inl p.1:aQ)) (Sum.inl k)=(DJ.get F k).isSome
 |[]=>rfl
 | p::F=>by
   have a:=vg (k:=k) F;unfold cF DJ.get at *;rw[List.map_cons,List.any_cons,List.find?_cons,a];by_cases q:p.1=k
   ·simp[q]
   · have:¬ (Sum.inl p.1:aQ)=Sum.inl k:=λz=>q (Wh z)
     simp[q,this]
theorem qG{f:X->D}{k:Int}{v:X}:∀F:DJ X,iL (F.map λp=>(Sum.inl p.1:aQ)) (F.map λp=>f p.2) (Sum.inl k) (f v)=(F.map λp=>if p.1=k then (p.1,v) else p).map λp=>f p.2
 |[]=>rfl
 | p::F=>by
   rw[Tr,Tr,iL,qG F];by_cases q:p.1=k
   ·simp[q]
   · have:¬ (Sum.inl p.1:aQ)=Sum.inl k:=λz=>q (Wh z)
     simp[q,this]
theorem Bf{f:X->D}{F:DJ X}{k:Int}{v:X}(h:F.length<ao):rD (lO f F) (.int k) (f v)=some (lO f (DJ.put F k v)):=by
 show((eJ (.int k)).bind λk=>if (F.map λp=>(Sum.inl p.1:aQ)).length<ao then some (if cF (F.map λp=>(Sum.inl p.1:aQ)) k=true then D.dK _ (iL _ _ k (f v)) else .dK _ _) else none)=_;show(if (F.map λp=>(Sum.inl p.1:aQ)).length<ao then some (if cF (F.map λp=>(Sum.inl p.1:aQ)) (Sum.inl k)=true then D.dK _ (iL _ _ (Sum.inl k) (f v)) else .dK _ _) else none)=_;rw[if_pos (by rw[List.length_map];exact h),vg];unfold DJ.put;by_cases q:(DJ.get F k).isSome=true
 ·rw[if_pos q,if_pos q,qG];unfold lO;congr 2;rw[List.map_map];refine List.map_congr_left λp _=>?_;show Sum.inl p.1=Sum.inl (if p.1=k then (p.1,v) else p).1;split<;>rfl
 ·rw[if_neg q,if_neg q];unfold lO;rw[List.map_append,List.map_append];rfl
theorem rB{f:X->D}{k:Int}:∀F:DJ X,iy (F.map λp=>(Sum.inl p.1:aQ)) (F.map λp=>f p.2) (Sum.inl k)=((DJ.del F k).map (λp=>Sum.inl p.1),(DJ.del F k).map λp=>f p.2)
 |[]=>rfl
 | p::F=>by
   have a:=rB (f:=f) (k:=k) F;unfold DJ.del at *;rw[List.map_cons,List.map_cons,iy,List.filter_cons,a];by_cases q:p.1=k
   ·simp[q]
   · have:¬ (Sum.inl p.1:aQ)=Sum.inl k:=λz=>q (Wh z)
     simp[q,this]
theorem Ba{p:Int×X}{F:DJ X}{k:Int}:DJ.get (p::F) k=if p.1=k then some p.2 else DJ.get F k:=by
 unfold DJ.get;rw[List.find?_cons];by_cases q:p.1=k
 ·simp[q]
 ·simp[q]
def DJ.nd(F:DJ X):Prop:=(F.map (·.1)).Nodup
theorem Fc{F:DJ X}(n:DJ.nd F){k:Int}{v:X}(h:(k,v)∈F):DJ.get F k=some v:=by
 induction F with
 |nil=>cases h
 |cons p F a=>
   unfold DJ.nd at n;rw[List.map_cons,List.nodup_cons]at n;rw[Ba];rcases List.mem_cons.mp h with e|e
   ·subst e;rw[Tq rfl]
   · by_cases q:p.1=k
     ·exact(n.1 (T9.mpr ⟨_,e,q.symm⟩)).elim
     ·rw[on q];exact a n.2 e
theorem y7{F:DJ X}{k:Int}(n:DJ.nd F):DJ.nd (DJ.del F k):=by
 unfold DJ.nd DJ.del at *;exact n.sublist (List.Sublist.map _ List.filter_sublist)
theorem AX{F:DJ X}{k:Int}{v:X}:(DJ.put F k v).map (·.1)=if (DJ.get F k).isSome=true then F.map (·.1) else F.map (·.1)++[k]:=by
 unfold DJ.put;split
 ·rw[UG];refine Vn λp _=>?_;show(if p.1=k then (p.1,v) else p).1=p.1;split<;>rfl
 ·rw[Uj];rfl
theorem Hq{F:DJ X}{k:Int}{v:X}(n:DJ.nd F):DJ.nd (DJ.put F k v):=by
 unfold DJ.nd at *;rw[AX];split
 ·exact n
 ·rename_i q;refine Uf.mpr ⟨n,by simp,λa d b c e=>?_⟩;rw[TX.mp c]at e;subst e;obtain⟨p,hp,rfl⟩:=T9.mp d;exact q (by rw[Fc n (show(p.1,p.2)∈F from hp)];rfl)
end
section
variable{Z σ' W X S L:Type}{rep:Z->L4}{Y:σ'->L4}
theorem Nu{e:W->D}{get:L4->Option D}{g:Z->Option W}(b:∀s,get (rep s)=(g s).map e):EJ rep e (Pg get) (vC g):=λs=>by
 unfold Pg vC;rw[b];cases g s with
 |none=>trivial
 |some a=>exact rfl
@[simp] def IH(F:DJ X):Res (List X):=.ok (F.map (·.2))
theorem Ml{e:X->D}(F:DJ X):SimR (eL e) (BG (lO e F)) (IH F):=by
 show Res.ok (D.lst (F.map λp=>e p.2))=Res.ok (D.lst ((F.map (·.2)).map e));rw[UG];rfl
@[simp] def Fx(F:DI (Option X))(k:List Int):Res (Option X):=.ok ((F.get k).bind id)
theorem vn{e:X->D}{a mk:L4->Res D}{b:Z->Res (DI (Option X))}{ck:Z->Res (List Int)}(d:EJ rep (bR (eO e)) a b)(c:EJ rep (pw D.int) mk ck):EJ rep (eO e) (rh a mk) (bx Fx b ck):=λs=>(d s).bnd λF=>by
 show SimR (eO e) (if true=true then _ else _) _;rw[if_pos rfl];refine(c s).bnd λk=>?_;show gu (bR (eO e) F) (.tup (k.map D.int)) .non=.ok (eO e ((F.get k).bind id));unfold gu;rw[gK];cases F.get k<;>rfl
theorem HY{e:X->D}{m:L4->Res D}{c:Z->Res (DI X)}(h:EJ rep (bR e) m c):EJ rep (List.map (pw D.int)) (Cb m) (bF EZ c):=λs=>by
 unfold Cb bF;refine(h s).bnd λF=>?_;show Res.ok _=Res.ok _;rw[List.map_map,List.map_map];congr 1;refine List.map_congr_left λp _=>?_;show D.tup ((p.1.map (Sum.inl:Int->aQ)).map kD)=D.tup (p.1.map D.int);rw[List.map_map];rfl
@[simp] def J7(g:Z->Option (DJ W))(p:Z->DJ W->Z)(ck:Z->Res Int)(a:Z->OutC Z W):Z->FlC Z X:=λs=>Il (a s) λx s=>match g s with
 |none=>.bad
 | some F=>(match ck s with
   |.ok k=>if F.length<ao then .nx (p s (DJ.put F k x)) else .bad
   |.exc y=>.exc y s
   |.bad=>.bad)
theorem Gx{e:W->D}{eR:X->D}{get:L4->Option D}{set:L4->D->L4}{g:Z->Option (DJ W)}{p:Z->DJ W->Z}{mk:L4->Res D}{ck:Z->Res Int}{b:L4->Out D}{c:Z->OutC Z W}(i:∀s,get (rep s)=(g s).map (lO e))(f:∀s F,set (rep s) (lO e F)=rep (p s F))
 (a:EJ rep D.int mk ck) (d:NJ rep e b c):TJ rep eR (kM get set mk b) (J7 g p ck c):=λs=>SimS.bd (d s) λx s=>by
 have a:=a s;rw[i];cases g s with
 |none=>trivial
 |some F=>
   show SimS rep eR (my set (e x) (lO e F) (rep s) (mk (rep s))) _;dsimp only;refine SimR.el a (λk=>?_) (λ_=>rfl) λ_=>trivial;show SimS rep eR (my set (e x) (lO e F) (rep s) (.ok (.int k))) (if F.length<ao then FlC.nx (p s (DJ.put F k x)) else .bad);by_cases h:F.length<ao
   ·rw[if_pos h];unfold my;dsimp only;rw[Bf h];show SO.nx _=SO.nx _;rw[f]
   ·rw[on h];trivial
@[simp] def qY(g:Z->Option (DJ W))(p:Z->DJ W->Z)(ck:Z->Res Int):Z->OutC Z (Option W):=λs=>match g s with
 |none=>.bad
 | some F=>bndO (ck s) s λk=>match DJ.get F k with
   |some x=>.ok (some x) (p s (DJ.del F k))
   |none=>.ok none s
theorem y0{e:W->D}{get:L4->Option D}{set:L4->D->L4}{g:Z->Option (DJ W)}{p:Z->DJ W->Z}{mk:L4->Res D}{ck:Z->Res Int}(c:∀s,get (rep s)=(g s).map (lO e))(b:∀s F,set (rep s) (lO e F)=rep (p s F))(a:EJ rep D.int mk ck):NJ rep (eO e) (rF get set mk) (qY g p ck):=λs=>by
 have a:=a s;unfold rF qY;rw[c];cases g s with
 |none=>trivial
 |some F=>
   show SimO rep (eO e) (((mk (rep s)).up (rep s)).bind λk T=>(match eJ k with|some k=>mz set T (F.map λp=>(Sum.inl p.1:aQ)) (F.map λp=>e p.2) k|none=>.bad)) (bndO (ck s) s _);refine SimR.el a (λk=>?_) (λ_=>rfl) λ_=>trivial;show SimO rep (eO e) (mz set (rep s) (F.map λp=>(Sum.inl p.1:aQ)) (F.map λp=>e p.2) (Sum.inl k)) (match DJ.get F k with|some x=>OutC.ok (some x) (p s (DJ.del F k))|none=>.ok none s);unfold mz;rw[qQ];cases d:DJ.get F k with
   |none=>exact rfl
   |some x=>
     show Out.ok (e x) (set (rep s) (.dK (iy _ _ (Sum.inl k)).1 (iy _ _ (Sum.inl k)).2))=Out.ok (e x) (rep (p s (DJ.del F k)));rw[rB,<-b];rfl
open Classical in
noncomputable def rW(g:Z->Option (DI W))(p:Z->DI W->Z)(c:Z->Res (DI W)):Z->OutC Z Unit:=λs=>match g s with
 |some []=>bndO (c s) s λF=>if ((F.map (·.1)).map cO).Nodup then .ok () (p s F) else .bad
 |_=>.bad
theorem xz(F:DI W):iV ((F.map λp=>p.1.map (Sum.inl:Int->aQ)).map λk=>.tup (k.map kD))=some (F.map (·.1)):=by
 have:((F.map λp=>p.1.map (Sum.inl:Int->aQ)).map λk=>D.tup (k.map kD))=(F.map (·.1)).map (pw D.int):=by
  rw[UG,UG];refine Vn λp _=>?_;show D.tup ((p.1.map (Sum.inl:Int->aQ)).map kD)=D.tup (p.1.map D.int);rw[UG];rfl
 rw[this];exact q8 _
theorem sE{e:W->D}{get:L4->Option D}{set:L4->D->L4}{g:Z->Option (DI W)}{p:Z->DI W->Z}{me:L4->Res D}{c:Z->Res (DI W)}(j:∀s,get (rep s)=(g s).map (bR e))(h:∀s F,set (rep s) (bR e F)=rep (p s F))(f:∀a,bv (e a)=true)(l:EJ rep (bR e) me c):NJ rep eN (uv get set me) (rW g p c):=λs=>by
 have i:=l s;unfold uv rW;rw[j];cases g s with
 |none=>trivial
 |some m=>
   cases m with
   |cons _ _=>trivial
   |nil=>
     show SimO rep eN (((me (rep s)).up (rep s)).bind λd T=>Gq set T d) (bndO (c s) s _);refine SimR.el i (λF=>?_) (λ_=>rfl) λ_=>trivial;show SimO rep eN (match iV ((F.map λp=>p.1.map (Sum.inl:Int->aQ)).map λk=>.tup (k.map kD)) with|some b=>(if (b.map cO).Nodup/\(F.map λp=>e p.2).all bv=true then Out.ok .non (set (rep s) (bR e F)) else .bad)|none=>.bad) (if ((F.map (·.1)).map cO).Nodup then OutC.ok () (p s F) else .bad);rw[xz];dsimp only;by_cases z:((F.map (·.1)).map cO).Nodup
     ·rw[Tq z,Tq ⟨z,by rw[WB,UY];exact λa _=>f _⟩,h];rfl
     ·rw[on z];trivial
@[simp] def SM{d c b a:Type}(f:d->c->b->a->OutC σ' S)(w:σ'->Z->Z)(e:Z->Option d)(n:Z->Res c)(m:Z->Res b)(l:Z->OutC Z a):Z->OutC Z S:=λs=>match e s with
 |none=>.bad
 | some _=>bndO (n s) s λj=>bndO (m s) s λi=>yf (l s) λh g=>match e g with
   |none=>.bad
   |some k=>(match f k j i h with | .ok r s'=>.ok r (w s' g) | .exc x s'=>.exc x (w s' g) | .bad=>.bad)
theorem P7{p n m l:Type}{e0:p->D}{e1:n->D}{v:m->D}{B:l->D}{K u:L4->Res D}{y:L4->Out D}{e:Z->Option p}{M:Z->Res n}{C:Z->Res m}{E:Z->OutC Z l}{eR:S->D}{c:Nat}{J:Str}{i:Nat}{t:List D->Out D}{f:p->n->m->l->OutC σ' S}{w:σ'->Z->Z}
 (P:∀a,bI c J (e0 a)=true) (L:∀s' s,cI [.O i,.F,.F,.F] 0 (Y s') (rep s)=rep (w s' s)) (j:∀s,rg (rep s) i=(e s).map e0) (Q:∀G d g q,SimO Y eR (t [e0 G,e1 d,v g,B q]) (f G d g q)) (V:EJ rep e1 K M) (U:EJ rep v u C) (R:NJ rep B y E):
 NJ rep eR (Ox c J i t K u y) (SM f w e M C E):=λs=>by
 have X:=V s;have A:=U s;have W:=R s;unfold Ox SM;rw[j];cases e s with
 |none=>trivial
 |some o=>
   dsimp only[Option.map];rw[if_pos (P o)];refine SimR.el X (λd=>?_) (λ_=>rfl) λ_=>trivial;show SimO rep eR (((u (rep s)).up (rep s)).bind λz T=>(y T).bind λw b=>(match rg b i with|some h=>ci [.O i,.F,.F,.F] t [h,e1 d,z,w] b|none=>.bad)) (bndO (C s) s _);cases I:C s with
   |bad=>trivial
   |exc x=>rw[I]at A;rw[show u (rep s)=_ from A];rfl
   |ok g=>
     rw[I]at A;rw[show u (rep s)=_ from A];show SimO rep eR ((y (rep s)).bind λw b=>(match rg b i with|some h=>ci [.O i,.F,.F,.F] t [h,e1 d,v g,w] b|none=>.bad)) (yf (E s) _);refine SimO.bd W λq N=>?_;rw[j];cases e N with
     |none=>trivial
     |some h=>
       dsimp only[Option.map];have k:=Q h d g q;unfold ci;cases H:f h d g q with
       |bad=>trivial
       |ok r s'=>rw[H]at k;rw[show t [e0 h,e1 d,v g,B q]=_ from k];show Out.ok _ _=Out.ok _ _;rw[L]
       |exc x s'=>rw[H]at k;rw[show t [e0 h,e1 d,v g,B q]=_ from k];show Out.exc _ _=Out.exc _ _;rw[L]
@[simp] def xE(g:Z->DI W)(p:List Int->Z->Z):Z->FlC Z (List Int):=λs=>match g s with
 |[]=>.nx s
 |q::_=>.rt q.1 (p q.1 s)
theorem BP{e:W->D}{c i j:Nat}{f:Str}{g:Z->DI W}{p:List Int->Z->Z}(b:∀s,∃d,rg (rep s) i=some d/\bL c f d=.ok (bR e (g s)))(a:∀s,j<(rep s).length)(hp:∀s k,(rep s).set j (some (pw D.int k))=rep (p k s)):
 TJ rep (pw D.int) (pd c f i j) (xE g p):=λs=>by
 obtain⟨d,l,h⟩:=b s;unfold pd xE;rw[l];dsimp only;rw[h];cases q:g s with
 |nil=>exact rfl
 |cons x r=>
   show SimS rep (pw D.int) (if j<(rep s).length then .rt (.tup ((x.1.map (Sum.inl:Int->aQ)).map kD)) ((rep s).set j (some (.tup ((x.1.map (Sum.inl:Int->aQ)).map kD)))) else .bad) (.rt x.1 (p x.1 s))
   have m:D.tup ((x.1.map (Sum.inl:Int->aQ)).map kD)=pw D.int x.1:=by
    show D.tup ((x.1.map (Sum.inl:Int->aQ)).map kD)=D.tup (x.1.map D.int);rw[UG];rfl
   rw[Tq (a s),m,hp];exact rfl
end
end Cl
namespace L2
open PySem PySem.Spec PyProof.Rows
section
variable{X:Cx}{pins:L0}{Z:St}{H:Hp}{s:Shared}{a b:Addr}{kvs:List (List aQ×V)}{k:List aQ}{v:V}{A:Around}{E:L1}
theorem Ie{dflt:Value}{Q:L1}(l:A.units+1<cLine)(I:Inv X pins Z H s)(e:H a=some (.dT kvs))(T:H b=some (.tup (k.map kV)))
 (h:∀v K s',cQ kvs k=some v->Inv X pins Z (upd H a (.dT (eM kvs k))) s'->RelV v K->Q K s') (h0:cQ kvs k=none->∀s',Inv X pins Z H s'->Q dflt s'):wpAny (model X.prog X.w) A (call (.builtin "dict.pop") [.ref a,.ref b,dflt]) Q E s:=by
 obtain⟨z,hd,xs,f,dd⟩:=Fn I.hok e;have hz:xs.length<=sizeLine:=by rw[<-Vd f];exact z
 have i:=fP I.hok T;have g:=tupleKind_room_in1 (knd:=aC X.prog X.w) l;have L:=dd.typeIs;obtain⟨o,n,ep,m,S,d,t,G,r⟩:=dd;have R:n.size=xs.length:=size_of_entries t;refine wpAny_call_entry PySem.F.slot_dict_pop L PySem.F.entry_dict_pop ?_ (PySem.F.args_dict_pop_3 _ _ _);unfold Builtin.«dict.pop»;refine wpAny_bind ?_;unfold Builtin.Dict.keyAndDefault;refine wpAny_bind (wpAny_notOrdered_dict L ?_);show wpAny _ _ (pure (a,Value.ref b,some dflt)) _ _ s;refine wpAny_pure ?_;dsimp only;rw[if_neg (by simp[keyPart])];refine wpAny_bind (wpAny_dictEntries m d ?_);refine wpAny_bind (wpAny_pure ?_);cases C:n.isEmpty with
 |true=>
   have O:xs=[]:=by
    have e1:n.size=0:=by simpa using C
    exact Uh.mp (by omega)
   rw[Tq rfl];refine Ts (Ts (wpAny_rule (TF ?_)));show wpAny _ _ (Builtin.Dict.missedRemoval a (.ref b) >>= _) _ _ _;refine Ts (wpAny_missedRemoval_other hd ?_);refine Ts (wpAny_rule (TF ⟨_,rfl,?_⟩));refine h0 ?_ _ I
   have:=f.val k
   rw[O]at this;cases q:cQ kvs k with
   |none=>rfl
   |some v=>rw[q]at this;obtain⟨u,l,_⟩:=RelO.some_of this;cases l
 |false=>
   rw[if_neg Bool.false_ne_true];refine wpAny_bind ?_;unfold Builtin.Dict.takeOut
   try with_reducible refine Vf ?_
   refine Ts ((tupleKind (aC X.prog X.w)).pyHash g i ?_);refine Ts (wpAny_dictFind_heap (knd:=tupleKind (aC X.prog X.w)) (s:={s with toks:=s.toks+(tupleKind (aC X.prog X.w)).draws k}) g i m d t G r ?_ ?_)
   · intro B
     have y:cQ kvs k=none:=by
      have:=f.val k
      rw[atKey_none_of_get B]at this;cases q:cQ kvs k with
      |none=>rfl
      |some v=>rw[q]at this;obtain⟨u,l,_⟩:=RelO.some_of this;cases l
     refine TF ?_;simp only[Option.isNone_none,WS];refine Ts (wpAny_missedRemoval_other hd ?_);exact Ts (wpAny_rule (TF ⟨_,rfl,h0 y _ (I.tok _)⟩))
   · intro j p D;have hp:atKey xs k=some p:=atKey_of_get r D
     obtain⟨v,y,x⟩:∃v,cQ kvs k=some v/\RelV v p.2:=by
      have:=f.val k
      rw[hp]at this;cases q:cQ kvs k with
      |none=>rw[q]at this;have:=RelO.none_of this;cases this
      |some v=>rw[q]at this;obtain⟨u,l,N⟩:=RelO.some_of this;cases l;exact⟨v,rfl,N⟩
     refine Ts (Vc (s:={s with toks:=s.toks+(tupleKind (aC X.prog X.w)).draws k}) m d ?_);rw[entry_at t j,D];refine Ts (wpAny_updateDictKeys (hz:=by omega) (s:={s with toks:=s.toks+(tupleKind (aC X.prog X.w)).draws k}) m d (TF ?_));rw[on (by simp)];refine Ts (V2 (TF ⟨_,rfl,?_⟩));show Q p.2 _;refine h v p.2 _ y ?_ x;have P:=VJ s.heap a (Obj.mapDictKeys λn=>n.eraseIdxIfInBounds j);refine kQ (s:=s) (t':=s.toks+(tupleKind (aC X.prog X.w)).draws k) I (by rw[e];exact True.intro) P ⟨_,Ug _ m (UT (Uq d _))⟩ ⟨Uk (pD kvs k) z,hd,_,(f.drop k).keeps λc U M=>?_,_,_,ep+1,Ug _ m (UT (Uq d _)),S.mapDictKeys _,Uq d _,?_,?_⟩
     ·rw[ay (DS M e (λz=>nomatch z))];exact M
     ·rw[<-g7 r D];obtain⟨el⟩:=n;have J:el=xs.map (entryOfKey (tupleKind (aC X.prog X.w))):=t;rw[Vl];show el.eraseIdx j=_;rw[J];exact lI
     ·exact(r.sublist ((List.filter_sublist).map _))
end
def yp(e ty d:TE):TE:=λZ H Q=>e Z H λx H1=>∃a,x=.ref a/\Ku H1 a/\ty Z H1 λy f=>d Z f λz c=>∃kvs k b,c a=some (.dT kvs)/\y=.ref b/\c b=some (.tup (k.map kV))/\(∀v,cQ kvs k=some v->Q v (upd c a (.dT (eM kvs k))))/\(cQ kvs k=none->Q z c)
theorem lB{X:Cx}{o e f:Expr}{i g:Pos}{q ty p:TE}(N:X.A.units+1<cLine)(O:PE X o q)(R:PE X e ty)(P:PE X f p)(m:M2 X o "pop" i e f g):PE X (.Call (.Attribute o "pop" i) [e,f] [] g) (yp q ty p):=by
 intro c s Z H Q I h;refine Vz m.base m.few m.line Ua U6 VW (bE (O c s Z H _ I h) λu C ⟨x,H1,r,F,a,ex,d,L⟩=>?_);subst ex;obtain rfl:u=Value.ref a:=F;obtain⟨w,t,_⟩:=lL r d;refine⟨w,t,?_⟩;rw[m.trees]
 refine UA rfl (UI (Us (bE (R c C Z H1 _ r L) λM s2 ⟨y,H2,W,E,K⟩=>
  Us (bE (P c s2 Z H2 _ W K) λfv s3 ⟨z,Y,V,D,kvs,k,b,U,S,T,J,G⟩=>UQ ?_))))
 subst S;obtain rfl:M=Value.ref b:=E;exact Ie N V U T (λv w' B l n j=>⟨v,_,n,j,J v l⟩) λl B n=>⟨z,Y,n,D,G l⟩
end L2
namespace Mi
open PySem L2
section
variable{Y:Cm}{E:XK}{M:List Md}{B U H:Hp}{I:Nat->List Addr}{Z:St}{T:L4}{t:TE}{get:L4->Option D}{set:L4->D->L4}
def hE(set:L4->D->L4)(a:List (List aQ))(vs:List D)(k:List aQ)(T:L4):Out D:=match bC a vs k with
 |some y=>.ok y (set T (.dT (dU a vs k).1 (dU a vs k).2))
 |none=>.ok .non T
def jM(get:L4->Option D)(set:L4->D->L4)(mk:L4->Res D):L4->Out D:=λT=>match get T with
 |some (.dT b vs)=>((mk T).up T).bind λk T=>(match k with | .tup a=>(match bT a with|some k=>hE set b vs k T|none=>.bad)|_=>.bad)
 |_=>.bad
theorem oM{C:TE}{mk:L4->Res D}(p:Pth Y M t get set)(hk:PJ Y (KR Y .X) E M C mk):MJ Y (KR Y .F) E M (yp t C (tC .non)) (jM get set mk):=by
 intro B U I Z H T Q R P;unfold jM at P;cases e:get T with
 |none=>rw[e]at P;exact P.elim
 |some d=>
   obtain⟨v,A,W,O,hA,cl⟩:=p.rd R e;cases d with
   |dT r vs=>
     rw[e]at P;replace P:Mo Y (KR Y .F) E M B U Z (((mk T).up T).bind λk T=>(match k with | .tup n=>(match bT n with|some k=>hE set r vs k T|none=>.bad)|_=>.bad)) Q:=P;obtain⟨a,kvs,rfl,K,h2,rfl,h3⟩:=O.dT rfl;refine W _ ⟨a,rfl,.inr ⟨kvs,.inl K⟩,hk B U I Z H T _ R ?_⟩;cases x:mk T with
     |exc c=>rw[x]at P;exact λB1 U1 H1 q f=>P B1 U1 I H1 q f.toEx
     |bad=>rw[x]at P;exact P.elim
     |ok J=>
       rw[x]at P;intro u B1 U1 H1 N q f n1 o;have o:Dn Y H1 J u:=o;cases J with
       |tup n=>
         replace P:Mo Y (KR Y .F) E M B U Z (match bT n with|some k=>hE set r vs k T|none=>.bad) Q:=P;cases z:bT n with
         |none=>rw[z]at P;exact P.elim
         |some g=>
           rw[z]at P;replace P:Mo Y (KR Y .F) E M B U Z (hE set r vs g T) Q:=P;rw[Dn]at o;obtain⟨b,xs,rfl,h4,h5⟩:=o;have ex:=fN z h5;subst ex;subst h2;have l:Dns Y B1 vs (kvs.map (·.2)):=h3.mono f.b;have j:=gG (Y:=Y) (G:=B1) g l;unfold hE at P;refine⟨kvs,g,b,f.h _ _ K,rfl,h4,λv i=>?_,λi=>?_⟩
           · cases m:bC (kvs.map (·.1)) vs g with
             |none=>rw[m]at j;rw[show cQ kvs g=none from j]at i;cases i
             |some y=>
               rw[m]at j P;obtain⟨w,s,L⟩:=j;rw[s]at i;cases i;obtain⟨V,S⟩:=pA (Y:=Y) (G:=B1) (k:=g) l;refine P _ B1 U1 I _ [] (cl B1 U1 H1 q f.b f.h a Tu _ _ ?_) f.toEx NewM.nil L;rw[<-V];exact Ow.dT' aM S
           · cases m:bC (kvs.map (·.1)) vs g with
             |some y=>rw[m]at j;obtain⟨w,s,L⟩:=j;rw[s]at i;cases i
             |none=>
               rw[m]at P;exact P .non B1 U1 I H1 [] q f.toEx NewM.nil (by show Dn Y B1 .non .non;rw[Dn])
       |_=>exact P.elim
   |_=>rw[e]at P;exact P.elim
end
end Mi
namespace Cl
open PySem L2 Mi
section
variable{Z W X S:Type}{rep:Z->L4}
def NA{e:W->D}{d:X->D}{c:S->D}[DecidableEq W][DecidableEq X][DecidableEq S](A:Dat e)(B:Dat d)(C:Dat c):Dat (rA e d c):=⟨λp=>.tuple [A.py p.1,B.py p.2.1,C.py p.2.2],A.dep+B.dep+C.dep+1,λp=>by
 show(toPys [e p.1,d p.2.1,c p.2.2]).map PyData.tuple=_;rw[toPys,toPys,toPys,toPys,A.h0,B.h0,C.h0];rfl,λp=>by rw[PyData.canLay0];simp[PyData.canLayAll0,A.lay,B.lay,C.lay],λp=>by
 rw[PyData.depth];simp only[PyData.depthAll];have:=A.depth p.1;have:=B.depth p.2.1;have:=C.depth p.2.2;omega,λa b=>by
 rw[PyData.eqv];simp only[PyData.eqvAll,A.eqv,B.eqv,C.eqv];obtain⟨n,m,l⟩:=a;obtain⟨k,j,i⟩:=b
 by_cases h:n=k<;>by_cases g:m=j<;>by_cases f:l=i<;>simp[h,g,f],λa b=>by rw[SeqAt.noMix];simp[SeqAt.noMixAll,A.nomix,B.nomix,C.nomix]⟩
@[simp] def jC(g:Z->Option (DI (Option W)))(p:Z->DI (Option W)->Z)(ck:Z->Res (List Int)):Z->OutC Z (Option W):=λs=>match g s with
 |none=>.bad
 | some F=>bndO (ck s) s λk=>match DI.get F k with
   |some x=>.ok x (p s (F.del k))
   |none=>.ok none s
theorem oW:∀k:List Int,bT (k.map D.int)=some (k.map Sum.inl)
 |[]=>rfl
 | x::k=>by
   have:=oW k
   rw[Tr,Tr,bT,this];rfl
theorem oE{e:W->D}{get:L4->Option D}{set:L4->D->L4}{g:Z->Option (DI (Option W))}{p:Z->DI (Option W)->Z}{mk:L4->Res D}{ck:Z->Res (List Int)}(d:∀s,get (rep s)=(g s).map (bR (eO e)))(c:∀s F,set (rep s) (bR (eO e) F)=rep (p s F))(a:EJ rep (pw D.int) mk ck):NJ rep (eO e) (jM get set mk) (jC g p ck):=λs=>by
 have a:=a s;unfold jM jC;rw[d];cases g s with
 |none=>trivial
 |some F=>
   show SimO rep (eO e) (((mk (rep s)).up (rep s)).bind λk T=>(match k with | .tup b=>(match bT b with|some k=>hE set (F.map λp=>p.1.map (Sum.inl:Int->aQ)) (F.map λp=>eO e p.2) k T|none=>.bad)|_=>.bad)) (bndO (ck s) s _);refine SimR.el a (λk=>?_) (λ_=>rfl) λ_=>trivial;show SimO rep (eO e) (match bT (k.map D.int) with|some k=>hE set (F.map λp=>p.1.map (Sum.inl:Int->aQ)) (F.map λp=>eO e p.2) k (rep s)|none=>.bad) (match DI.get F k with|some x=>OutC.ok x (p s (F.del k))|none=>.ok none s);rw[oW];show SimO rep (eO e) (hE set (F.map λp=>p.1.map (Sum.inl:Int->aQ)) (F.map λp=>eO e p.2) (k.map Sum.inl) (rep s)) _;unfold hE;rw[kq];cases f:DI.get F k with
   |none=>exact rfl
   |some x=>
     show Out.ok (eO e x) (set (rep s) (.dT (dU _ _ (k.map Sum.inl)).1 (dU _ _ (k.map Sum.inl)).2))=Out.ok (eO e x) (rep (p s (F.del k)));rw[pz,<-c];rfl
end
end Cl
namespace L2
open PySem PySem.Spec PyProof.Rows
theorem BQ{X:Cx}{k:Nat}{f C:Addr}{fd:FuncData}{ps:List Str}{sp:Sp}{e:List V}{ds:List Value}{m:Str}{pos b:Pos}{o:Expr}{i:TE}{pl:Sem Bool}(v:PE X.nox o i)(c:Cls X.K C)(j:Meth X.K C m f)(F:FnOk X.prog X.w X.K X.mg X.base (dR X.prog X.w) k f fd ps sp)(t:Room k X.A)(y:Binds X.K fd ps ds)(hd:Vals e ds)
 (r:eval (.Call (.Attribute o m b) [] [] pos) X.env=(do
   let ov <-eval o X.env
   standAt b.atName
   let (f,first) <-holding [ov] (getMethod ov m pl)
   callWith pos f first (backTo pos (starEach [] X.env)) (backToKw pos (keywordEach [] X.env))):=by rfl):
 Th X (.Call (.Attribute o m b) [] [] pos) (λE=>gy C m sp e E i cT):=by
 intro q d Z E p s H Q I h;refine Vv (pl:=pl) (bE (PE.wish (q:=q) v d s Z H _ I h) λu B ⟨x,H1,g,n,a,dx,fs,ex,z,l,q⟩=>?_) r;subst ex;obtain rfl:u=Value.ref a:=n;refine g6 g z c j l ?_;exact PySem.W.callWith_K0 (first:=[.ref a]) g.kIn j.kp (yA (us:=[.ref a]) (vs:=[.ref a]) F t y hd p g (.cons rfl .nil) q)
end L2
namespace Mi
open PySem L2
def SV(a b c:L4->Out D):L4->Out D:=λT=>(a T).bind λx T=>(b T).bind λy T=>(c T).bind λz T=>.ok (.lst [x,y,z]) T
section
variable{Y:Cm}{E:XK}{M:List Md}
theorem MY{e tb d:TE}{g f mc:L4->Out D}(o:MJ Y (KR Y .F) E M e g)(n:MJ Y (KR Y .F) E M tb f)(m:MJ Y (KR Y .F) E M d mc):MJ Y (KR Y .F) E M (wB (bz e (bz tb (bz d cT)))) (SV g f mc):=by
 intro B U I Z H T Q R P;refine o.bnd R P λx l v B1 U1 J H1 L A e1 O t W=>n.bnd A W λy k u B2 V G H2 N2 R2 q N s C=>m.bnd R2 C λz j w i S c H3 X a h K r P3=>?_;have dd:Dns Y i [x,y,z] [v,u,w]:=Dns.append (ds:=[x]) (xs:=[v]) (Dns.one (Dn.mono h.b (Dn.mono q.b t))) (Dns.append (ds:=[y]) (xs:=[u]) (Dns.one (Dn.mono h.b s)) (Dns.one r));refine⟨(by decide:3<=sizeLine),λp hp=>P3 (.ref p) _ _ c _ [] (a.newB hp) (Gw.newB a hp).toEx NewM.nil ?_⟩;show Dn Y (upd i p (.lst [v,u,w])) (.lst [x,y,z]) (.ref p);rw[Dn];exact⟨p,_,rfl,aM,dd.mono (Gd.cA (a.bh.free hp))⟩
end
theorem qD:∀{bl:List Bool} {Z:St} {H:Hp} {Q Q':List V->Hp->Prop},(∀xs H1,Q xs H1->Q' xs H1)->Ax bl Z H Q->Ax bl Z H Q'
 |[],_,_,_,_,k,h=>k _ _ h
 |b::_,_,_,Q,Q',k,h=>qD (Q:=λxs H1=>Q (.bl b::xs) H1) (Q':=λxs H1=>Q' (.bl b::xs) H1) (λ_ _=>k _ _) h
theorem re{K:F0}{C:Addr}{i j:Nat}{L L':List (V×Value)}{bl bl':List Bool}(b:i≠j)(e:Od K C (L.map (·.2))=bl)(f:Od K C (L'.map (·.2))=bl'):∀(a:Addr) (D:Ends) (Z:St) (H:Hp),Z[j]?=some (some (.ref a))->Gy (qg (wB (Ax bl)) (fc i)) (qg (Ao Di (cR i) (wB (Ax bl'))) (fc i)) D Z H->Gy (qg (wB (GW K a C j L)) (fc i)) (qg (Ao Di (cR i) (wB (GW K a C j L'))) (fc i)) D Z H:=λa D Z H c h=>by
 subst e f;refine r0 c (qD (λxs H1 q=>⟨q.1,λp hp=>?_⟩) h);obtain⟨v,d,q⟩:=q.2 p hp;exact⟨v,d,r0 (by rw[VA b];exact c) q⟩
end Mi
namespace Cl
open PySem L2 Mi
section
variable{Z W X S:Type}{rep:Z->L4}{e:W->D}{e':X->D}{e'':S->D}
instance decH3 {W X S:Type} [DecidableEq W] [DecidableEq X] [DecidableEq S]:DecidableEq (W×X×S):=inferInstance
def Ny(e:W->D)(e':X->D)(e'':S->D):W×X×S->D:=λp=>.lst [e p.1,e' p.2.1,e'' p.2.2]
@[simp] def QL(a:Z->OutC Z W)(b:Z->OutC Z X)(c:Z->OutC Z S):Z->OutC Z (W×X×S):=λs=>yf (a s) λx s=>yf (b s) λy s=>yf (c s) λz s=>.ok (x,y,z) s
theorem P8{m n o:L4->Out D}{c:Z->OutC Z W}{d:Z->OutC Z X}{f:Z->OutC Z S}(g:NJ rep e m c)(b:NJ rep e' n d)(a:NJ rep e'' o f):NJ rep (Ny e e' e'') (SV m n o) (QL c d f):=λs=>(g s).bd λ_ s=>(b s).bd λ_ s=>(a s).bd λ_ s=>rfl
def NB[DecidableEq W][DecidableEq X][DecidableEq S](A:Dat e)(B:Dat e')(C:Dat e''):Dat (Ny e e' e''):=⟨λp=>.list [A.py p.1,B.py p.2.1,C.py p.2.2],A.dep+B.dep+C.dep+1,λp=>by
 show(toPys [e p.1,e' p.2.1,e'' p.2.2]).map PyData.list=_;rw[toPys,toPys,toPys,toPys,A.h0,B.h0,C.h0];rfl,λp=>by rw[PyData.canLay0];simp[PyData.canLayAll0,A.lay,B.lay,C.lay],λp=>by
 rw[PyData.depth];simp only[PyData.depthAll];have:=A.depth p.1;have:=B.depth p.2.1;have:=C.depth p.2.2;omega,λa b=>by
 rw[PyData.eqv];simp only[PyData.eqvAll,A.eqv,B.eqv,C.eqv];obtain⟨l,k,j⟩:=a;obtain⟨i,h,g⟩:=b
 by_cases f:l=i<;>by_cases d:k=h<;>by_cases c:j=g<;>simp[f,d,c],λa b=>by rw[SeqAt.noMix];simp[SeqAt.noMixAll,A.nomix,B.nomix,C.nomix]⟩
end
end Cl
set_option genInjectivity false
set_option genSizeOf false
open PySem L2 in
theorem L2.Room.mm{j k:Nat}{A:Around}(r:Room k A)(h:j<=k:=by decide):Room j A:=r.mono h
namespace K11
open PySem L2
def top(i:Nat):Stmt:=PySem.Challenge.pw_heraldways_k11_deeds_refused.main.body.getD i (.Pass ⟨0,0,0,0⟩)
abbrev Lv:Stmt:=bo (top 12) 0
abbrev CK:Stmt:=bo (top 12) 13
abbrev GS:Stmt:=bo (top 12) 15
abbrev Lh:Stmt:=bo (top 12) 1
abbrev K9:Stmt:=bo (top 19) 11
abbrev K8:Stmt:=bo (top 19) 15
abbrev K4:Stmt:=bo (top 19) 12
abbrev CF:Stmt:=top 21
abbrev yz:Stmt:=top 23
abbrev CC:Stmt:=top 24
abbrev CB:Stmt:=top 22
abbrev CI:Stmt:=top 16
abbrev CH:Stmt:=top 18
abbrev Cz:Stmt:=top 11
abbrev Lk:Stmt:=bo (top 12) 16
abbrev Cs:Stmt:=bo (top 19) 2
abbrev Cr:Stmt:=bo (top 19) 4
abbrev CA:Stmt:=top 15
abbrev Lr:Stmt:=bo (top 12) 7
abbrev Lq:Stmt:=bo (top 12) 2
abbrev Lj:Stmt:=bo (top 12) 18
abbrev Li:Stmt:=bo (top 12) 17
abbrev Lg:Stmt:=bo (top 12) 14
abbrev K5:Stmt:=bo (top 19) 3
abbrev Lu:Stmt:=bo (top 12) 4
abbrev Ls:Stmt:=bo (top 12) 5
abbrev Lm:Stmt:=bo (top 12) 12
abbrev CJ:Stmt:=bo (top 19) 13
abbrev yy:Stmt:=top 26
abbrev Ct:Stmt:=bo (top 19) 0
abbrev Lc:Stmt:=bo (top 19) 16
abbrev K6:Stmt:=bo (top 19) 10
abbrev Cy:Stmt:=top 14
abbrev Lb:Stmt:=bo (top 19) 9
abbrev K7:Stmt:=bo (top 19) 14
abbrev Le:Stmt:=bo (top 19) 6
abbrev Ld:Stmt:=bo (top 19) 7
abbrev CD:Stmt:=top 25
abbrev CG:Stmt:=top 27
theorem O9:FnScope ["self","size"] ["self","size"] (am Lv):=by ac_rfl
theorem O8:FnScope ["self","pairs","a"] ["self","pairs","a"] (am CK):=by ac_rfl
theorem O0:FnScope ["self","a","houses"] ["self","a","houses"] (am GS):=by ac_rfl
theorem OZ:FnScope ["self"] ["self"] (am Lh):=by ac_rfl
theorem IS:FnScope ["self","pair"] ["self"] (am K9):=by ac_rfl
theorem OV:FnScope ["self","writer","receiver"] ["self","writer","receiver"] (am K8):=by ac_rfl
theorem IR:FnScope ["self","writer","receiver","road"] ["self","writer","receiver"] (am K4):=by ac_rfl
theorem K2:FnScope ["script","k"] ["script","k"] (am CF):=by ac_rfl
theorem Co:FnScope ["line","ways","size","kind","a","b","there"] ["line","ways","size","kind","a","b"] (am yz):=by ac_rfl
theorem K1:FnScope ["due"] ["due"] (am CC):=by ac_rfl
theorem jD:FnScope ["cell","size","seed","ways","k","a","b"] ["cell","size"] (am CB):=by ac_rfl
theorem Cp:FnScope ["house","standings","best"] ["house","standings"] (am CI):=by ac_rfl
theorem K3:FnScope ["road"] ["road"] (am CH):=by ac_rfl
theorem KZ:FnScope ["houses","count"] ["houses","count"] (am Cz):=by ac_rfl
theorem O3:FnScope ["self","houses"] ["self","houses"] (am Lk):=by ac_rfl
theorem OS:FnScope ["self"] ["self"] (am Cs):=by ac_rfl
theorem OQ:FnScope ["self"] ["self"] (am Cr):=by ac_rfl
theorem K0:FnScope ["guild","house","road"] ["guild","house","road"] (am CA):=by ac_rfl
theorem O5:FnScope ["self","a","b"] ["self","a","b"] (am Lr):=by ac_rfl
theorem O4:FnScope ["self","a"] ["self","a"] (am Lq):=by ac_rfl
theorem O2:FnScope ["self","road"] ["self","road"] (am Lj):=by ac_rfl
theorem O1:FnScope ["self","a","b"] ["self","a","b"] (am Li):=by ac_rfl
theorem IV:FnScope ["self","other"] ["self"] (am Lg):=by ac_rfl
theorem OR:FnScope ["self","a","b"] ["self","a","b"] (am K5):=by ac_rfl
theorem O7:FnScope ["self","a","b"] ["self","a","b"] (am Lu):=by ac_rfl
theorem O6:FnScope ["self","a","b"] ["self","a","b"] (am Ls):=by ac_rfl
theorem IW:FnScope ["self","road","wish_rank"] ["self","road"] (am Lm):=by ac_rfl
theorem Cq:FnScope ["self","writer","receiver"] ["self","writer"] (am CJ):=by ac_rfl
theorem wG:FnScope ["post","size","heard","a"] ["post","size"] (am yy):=by ac_rfl
theorem OY:FnScope ["self","guild"] ["self","guild"] (am Ct):=by ac_rfl
theorem IT:FnScope ["self","house","road"] ["self","house"] (am Lc):=by ac_rfl
theorem OT:FnScope ["self","a","b"] ["self","a","b"] (am K6):=by ac_rfl
theorem KY:FnScope ["guild","road"] ["guild","road"] (am Cy):=by ac_rfl
theorem OW:FnScope ["self","a","b"] ["self","a","b"] (am Lb):=by ac_rfl
theorem OU:FnScope ["self","writer","receiver","road"] ["self","writer","receiver","road"] (am K7):=by ac_rfl
theorem OX:FnScope ["self","a","b"] ["self","a","b"] (am Le):=by ac_rfl
theorem IU:FnScope ["self","pair"] ["self"] (am Ld):=by ac_rfl
theorem nR:FnScope ["post","kind","a","b","marks","e"] ["post","kind","a","b"] (am CD):=by ac_rfl
theorem cU:FnScope ["script","size","ways","guild","a","b","post","cell","kind","seen","line","due"] ["script"] (am CG):=by ac_rfl
structure Adr where
 C_Guild:Addr
 C_Post:Addr
 C_GuildError:Addr
 C_NoHouse:Addr
 C_NoWay:Addr
 C_WayThere:Addr
 C_NoRoad:Addr
 C_NoLetter:Addr
 f_a9:Addr
 d_a9:FuncData
 f_b9:Addr
 d_b9:FuncData
 f_k9:Addr
 d_k9:FuncData
 f_l9:Addr
 d_l9:FuncData
 f_s9:Addr
 d_s9:FuncData
 f_t9:Addr
 d_t9:FuncData
 f_z9:Addr
 d_z9:FuncData
 f_be9:Addr
 d_be9:FuncData
 f_bg9:Addr
 d_bg9:FuncData
 f_bh9:Addr
 d_bh9:FuncData
 f_bj9:Addr
 d_bj9:FuncData
 f_bb9:Addr
 d_bb9:FuncData
 f_bc9:Addr
 d_bc9:FuncData
 f_bl9:Addr
 d_bl9:FuncData
 f_h9:Addr
 d_h9:FuncData
 f_w9:Addr
 d_w9:FuncData
 f_y9:Addr
 d_y9:FuncData
 f_bk9:Addr
 d_bk9:FuncData
 f_e9:Addr
 d_e9:FuncData
 f_f9:Addr
 d_f9:FuncData
 f_i9:Addr
 d_i9:FuncData
 f_j9:Addr
 d_j9:FuncData
 f_m9:Addr
 d_m9:FuncData
 f_x9:Addr
 d_x9:FuncData
 f_c9:Addr
 d_c9:FuncData
 f_d9:Addr
 d_d9:FuncData
 f_g9:Addr
 d_g9:FuncData
 f_ba9:Addr
 d_ba9:FuncData
 f_bi9:Addr
 d_bi9:FuncData
 f_n9:Addr
 d_n9:FuncData
 f_q9:Addr
 d_q9:FuncData
 f_v9:Addr
 d_v9:FuncData
 f_bm9:Addr
 d_bm9:FuncData
 f_r9:Addr
 d_r9:FuncData
 f_u9:Addr
 d_u9:FuncData
 f_o9:Addr
 d_o9:FuncData
 f_p9:Addr
 d_p9:FuncData
 f_bf9:Addr
 d_bf9:FuncData
 f_bd9:Addr
 d_bd9:FuncData
structure Txt (K:F0) (mg:Str->Option Value) (a:Adr) (base:Heap):Prop where
 cl_Guild:Cls K a.C_Guild
 mgC_Guild:mg "Guild" = some (.ref a.C_Guild)
 mk_Guild:Mk K a.C_Guild a.f_a9
 cl_Post:Cls K a.C_Post
 mgC_Post:mg "Post" = some (.ref a.C_Post)
 mk_Post:Mk K a.C_Post a.f_n9
 n_house_count:NoAttr K a.C_Guild "house_count"
 n_ways:NoAttr K a.C_Guild "ways"
 n_likings:NoAttr K a.C_Guild "likings"
 n_shuns:NoAttr K a.C_Guild "shuns"
 n_wish_ranks:NoAttr K a.C_Guild "wish_ranks"
 n_guild:NoAttr K a.C_Post "guild"
 n_roads:NoAttr K a.C_Post "roads"
 n_told_last:NoAttr K a.C_Post "told_last"
 n_written_last:NoAttr K a.C_Post "written_last"
 n_letters:NoAttr K a.C_Post "letters"
 n_standings:NoAttr K a.C_Post "standings"
 mgC_GuildError:mg "GuildError" = some (.ref a.C_GuildError)
 ek_GuildError:iZ K a.C_GuildError=true
 xa_GuildError:PySem.W.excAt K a.C_GuildError=true
 mgC_NoHouse:mg "NoHouse" = some (.ref a.C_NoHouse)
 ek_NoHouse:iZ K a.C_NoHouse=true
 xa_NoHouse:PySem.W.excAt K a.C_NoHouse=true
 mgC_NoWay:mg "NoWay" = some (.ref a.C_NoWay)
 ek_NoWay:iZ K a.C_NoWay=true
 xa_NoWay:PySem.W.excAt K a.C_NoWay=true
 mgC_WayThere:mg "WayThere" = some (.ref a.C_WayThere)
 ek_WayThere:iZ K a.C_WayThere=true
 xa_WayThere:PySem.W.excAt K a.C_WayThere=true
 mgC_NoRoad:mg "NoRoad" = some (.ref a.C_NoRoad)
 ek_NoRoad:iZ K a.C_NoRoad=true
 xa_NoRoad:PySem.W.excAt K a.C_NoRoad=true
 mgC_NoLetter:mg "NoLetter" = some (.ref a.C_NoLetter)
 ek_NoLetter:iZ K a.C_NoLetter=true
 xa_NoLetter:PySem.W.excAt K a.C_NoLetter=true
 sb_GuildError_GuildError:(gr K a.C_GuildError).contains (.ref a.C_GuildError)=true
 sb_NoHouse_GuildError:(gr K a.C_NoHouse).contains (.ref a.C_GuildError)=true
 sb_NoWay_GuildError:(gr K a.C_NoWay).contains (.ref a.C_GuildError)=true
 sb_WayThere_GuildError:(gr K a.C_WayThere).contains (.ref a.C_GuildError)=true
 sb_NoRoad_GuildError:(gr K a.C_NoRoad).contains (.ref a.C_GuildError)=true
 sb_NoLetter_GuildError:(gr K a.C_NoLetter).contains (.ref a.C_GuildError)=true
 kt_GuildError_NoHouse:PySem.W.kitOne K (.ref a.C_GuildError) (.ref a.C_NoHouse)=some false
 kt_GuildError_NoLetter:PySem.W.kitOne K (.ref a.C_GuildError) (.ref a.C_NoLetter)=some false
 kt_GuildError_NoWay:PySem.W.kitOne K (.ref a.C_GuildError) (.ref a.C_NoWay)=some false
 kt_GuildError_WayThere:PySem.W.kitOne K (.ref a.C_GuildError) (.ref a.C_WayThere)=some false
 kt_GuildError_ValueError:PySem.W.kitOne K (.ref a.C_GuildError) (.type "ValueError")=some true
 kt_NoHouse_NoHouse:PySem.W.kitOne K (.ref a.C_NoHouse) (.ref a.C_NoHouse)=some true
 kt_NoHouse_NoLetter:PySem.W.kitOne K (.ref a.C_NoHouse) (.ref a.C_NoLetter)=some false
 kt_NoHouse_NoWay:PySem.W.kitOne K (.ref a.C_NoHouse) (.ref a.C_NoWay)=some false
 kt_NoHouse_WayThere:PySem.W.kitOne K (.ref a.C_NoHouse) (.ref a.C_WayThere)=some false
 kt_NoHouse_ValueError:PySem.W.kitOne K (.ref a.C_NoHouse) (.type "ValueError")=some true
 kt_NoWay_NoHouse:PySem.W.kitOne K (.ref a.C_NoWay) (.ref a.C_NoHouse)=some false
 kt_NoWay_NoLetter:PySem.W.kitOne K (.ref a.C_NoWay) (.ref a.C_NoLetter)=some false
 kt_NoWay_NoWay:PySem.W.kitOne K (.ref a.C_NoWay) (.ref a.C_NoWay)=some true
 kt_NoWay_WayThere:PySem.W.kitOne K (.ref a.C_NoWay) (.ref a.C_WayThere)=some false
 kt_NoWay_ValueError:PySem.W.kitOne K (.ref a.C_NoWay) (.type "ValueError")=some true
 kt_WayThere_NoHouse:PySem.W.kitOne K (.ref a.C_WayThere) (.ref a.C_NoHouse)=some false
 kt_WayThere_NoLetter:PySem.W.kitOne K (.ref a.C_WayThere) (.ref a.C_NoLetter)=some false
 kt_WayThere_NoWay:PySem.W.kitOne K (.ref a.C_WayThere) (.ref a.C_NoWay)=some false
 kt_WayThere_WayThere:PySem.W.kitOne K (.ref a.C_WayThere) (.ref a.C_WayThere)=some true
 kt_WayThere_ValueError:PySem.W.kitOne K (.ref a.C_WayThere) (.type "ValueError")=some true
 kt_NoRoad_NoHouse:PySem.W.kitOne K (.ref a.C_NoRoad) (.ref a.C_NoHouse)=some false
 kt_NoRoad_NoLetter:PySem.W.kitOne K (.ref a.C_NoRoad) (.ref a.C_NoLetter)=some false
 kt_NoRoad_NoWay:PySem.W.kitOne K (.ref a.C_NoRoad) (.ref a.C_NoWay)=some false
 kt_NoRoad_WayThere:PySem.W.kitOne K (.ref a.C_NoRoad) (.ref a.C_WayThere)=some false
 kt_NoRoad_ValueError:PySem.W.kitOne K (.ref a.C_NoRoad) (.type "ValueError")=some true
 kt_NoLetter_NoHouse:PySem.W.kitOne K (.ref a.C_NoLetter) (.ref a.C_NoHouse)=some false
 kt_NoLetter_NoLetter:PySem.W.kitOne K (.ref a.C_NoLetter) (.ref a.C_NoLetter)=some true
 kt_NoLetter_NoWay:PySem.W.kitOne K (.ref a.C_NoLetter) (.ref a.C_NoWay)=some false
 kt_NoLetter_WayThere:PySem.W.kitOne K (.ref a.C_NoLetter) (.ref a.C_WayThere)=some false
 kt_NoLetter_ValueError:PySem.W.kitOne K (.ref a.C_NoLetter) (.type "ValueError")=some true
 F_a9:Fun K "__init__" "Guild.__init__" Lv a.f_a9 a.d_a9
 b_a9:Binds K a.d_a9 ["self","size"] []
 F_b9:Fun K "houses_paired" "Guild.houses_paired" CK a.f_b9 a.d_b9
 b_b9:Binds K a.d_b9 ["self","pairs","a"] []
 me_b9:Meth K a.C_Guild "houses_paired" a.f_b9
 F_k9:Fun K "shuns_one_of" "Guild.shuns_one_of" GS a.f_k9 a.d_k9
 b_k9:Binds K a.d_k9 ["self","a","houses"] []
 me_k9:Meth K a.C_Guild "shuns_one_of" a.f_k9
 F_l9:Fun K "size" "Guild.size" Lh a.f_l9 a.d_l9
 b_l9:Binds K a.d_l9 ["self"] []
 me_l9:Meth K a.C_Guild "size" a.f_l9
 F_s9:Fun K "first_of_line" "Post.first_of_line" K9 a.f_s9 a.d_s9
 b_s9:Binds K a.d_s9 ["self"] []
 me_s9:Meth K a.C_Post "first_of_line" a.f_s9
 F_t9:Fun K "forget" "Post.forget" K8 a.f_t9 a.d_t9
 b_t9:Binds K a.d_t9 ["self","writer","receiver"] []
 me_t9:Meth K a.C_Post "forget" a.f_t9
 F_z9:Fun K "write_road" "Post.write_road" K4 a.f_z9 a.d_z9
 b_z9:Binds K a.d_z9 ["self","writer","receiver"] []
 me_z9:Meth K a.C_Post "write_road" a.f_z9
 F_be9:Fun K "_law_cell_at" "_law_cell_at" CF a.f_be9 a.d_be9
 b_be9:Binds K a.d_be9 ["script","k"] []
 m_be9:mg "_law_cell_at" = some (.ref a.f_be9)
 F_bg9:Fun K "_law_due" "_law_due" yz a.f_bg9 a.d_bg9
 b_bg9:Binds K a.d_bg9 ["line","ways","size","kind","a","b"] []
 m_bg9:mg "_law_due" = some (.ref a.f_bg9)
 F_bh9:Fun K "_law_marks" "_law_marks" CC a.f_bh9 a.d_bh9
 b_bh9:Binds K a.d_bh9 ["due"] []
 m_bh9:mg "_law_marks" = some (.ref a.f_bh9)
 F_bj9:Fun K "_law_ways_by" "_law_ways_by" CB a.f_bj9 a.d_bj9
 b_bj9:Binds K a.d_bj9 ["cell","size"] []
 m_bj9:mg "_law_ways_by" = some (.ref a.f_bj9)
 F_bb9:Fun K "best_road" "best_road" CI a.f_bb9 a.d_bb9
 b_bb9:Binds K a.d_bb9 ["house","standings"] []
 m_bb9:mg "best_road" = some (.ref a.f_bb9)
 F_bc9:Fun K "copied" "copied" CH a.f_bc9 a.d_bc9
 b_bc9:Binds K a.d_bc9 ["road"] []
 m_bc9:mg "copied" = some (.ref a.f_bc9)
 F_bl9:Fun K "require_within" "require_within" Cz a.f_bl9 a.d_bl9
 b_bl9:Binds K a.d_bl9 ["houses","count"] []
 m_bl9:mg "require_within" = some (.ref a.f_bl9)
 F_h9:Fun K "require_houses" "Guild.require_houses" Lk a.f_h9 a.d_h9
 b_h9:Binds K a.d_h9 ["self","houses"] []
 me_h9:Meth K a.C_Guild "require_houses" a.f_h9
 F_w9:Fun K "table" "Post.table" Cs a.f_w9 a.d_w9
 b_w9:Binds K a.d_w9 ["self"] []
 me_w9:Meth K a.C_Post "table" a.f_w9
 F_y9:Fun K "waiting" "Post.waiting" Cr a.f_y9 a.d_y9
 b_y9:Binds K a.d_y9 ["self"] []
 me_y9:Meth K a.C_Post "waiting" a.f_y9
 F_bk9:Fun K "may_take" "may_take" CA a.f_bk9 a.d_bk9
 b_bk9:Binds K a.d_bk9 ["guild","house","road"] []
 m_bk9:mg "may_take" = some (.ref a.f_bk9)
 F_e9:Fun K "liking" "Guild.liking" Lr a.f_e9 a.d_e9
 b_e9:Binds K a.d_e9 ["self","a","b"] []
 me_e9:Meth K a.C_Guild "liking" a.f_e9
 F_f9:Fun K "neighbours" "Guild.neighbours" Lq a.f_f9 a.d_f9
 b_f9:Binds K a.d_f9 ["self","a"] []
 me_f9:Meth K a.C_Guild "neighbours" a.f_f9
 F_i9:Fun K "require_long_road" "Guild.require_long_road" Lj a.f_i9 a.d_i9
 b_i9:Binds K a.d_i9 ["self","road"] []
 me_i9:Meth K a.C_Guild "require_long_road" a.f_i9
 F_j9:Fun K "require_two_houses" "Guild.require_two_houses" Li a.f_j9 a.d_j9
 b_j9:Binds K a.d_j9 ["self","a","b"] []
 me_j9:Meth K a.C_Guild "require_two_houses" a.f_j9
 F_m9:Fun K "twin" "Guild.twin" Lg a.f_m9 a.d_m9
 b_m9:Binds K a.d_m9 ["self"] []
 me_m9:Meth K a.C_Guild "twin" a.f_m9
 F_x9:Fun K "told" "Post.told" K5 a.f_x9 a.d_x9
 b_x9:Binds K a.d_x9 ["self","a","b"] []
 me_x9:Meth K a.C_Post "told" a.f_x9
 F_c9:Fun K "lay_way" "Guild.lay_way" Lu a.f_c9 a.d_c9
 b_c9:Binds K a.d_c9 ["self","a","b"] []
 me_c9:Meth K a.C_Guild "lay_way" a.f_c9
 F_d9:Fun K "lift_way" "Guild.lift_way" Ls a.f_d9 a.d_d9
 b_d9:Binds K a.d_d9 ["self","a","b"] []
 me_d9:Meth K a.C_Guild "lift_way" a.f_d9
 F_g9:Fun K "rank_of" "Guild.rank_of" Lm a.f_g9 a.d_g9
 b_g9:Binds K a.d_g9 ["self","road"] []
 me_g9:Meth K a.C_Guild "rank_of" a.f_g9
 F_ba9:Fun K "write_to_all" "Post.write_to_all" CJ a.f_ba9 a.d_ba9
 b_ba9:Binds K a.d_ba9 ["self","writer"] []
 me_ba9:Meth K a.C_Post "write_to_all" a.f_ba9
 F_bi9:Fun K "_law_seen" "_law_seen" yy a.f_bi9 a.d_bi9
 b_bi9:Binds K a.d_bi9 ["post","size"] []
 m_bi9:mg "_law_seen" = some (.ref a.f_bi9)
 F_n9:Fun K "__init__" "Post.__init__" Ct a.f_n9 a.d_n9
 b_n9:Binds K a.d_n9 ["self","guild"] []
 F_q9:Fun K "choose_anew" "Post.choose_anew" Lc a.f_q9 a.d_q9
 b_q9:Binds K a.d_q9 ["self","house"] []
 me_q9:Meth K a.C_Post "choose_anew" a.f_q9
 F_v9:Fun K "rise" "Post.rise" K6 a.f_v9 a.d_v9
 b_v9:Binds K a.d_v9 ["self","a","b"] []
 me_v9:Meth K a.C_Post "rise" a.f_v9
 F_bm9:Fun K "standing" "standing" Cy a.f_bm9 a.d_bm9
 b_bm9:Binds K a.d_bm9 ["guild","road"] []
 m_bm9:mg "standing" = some (.ref a.f_bm9)
 F_r9:Fun K "fall" "Post.fall" Lb a.f_r9 a.d_r9
 b_r9:Binds K a.d_r9 ["self","a","b"] []
 me_r9:Meth K a.C_Post "fall" a.f_r9
 F_u9:Fun K "hear" "Post.hear" K7 a.f_u9 a.d_u9
 b_u9:Binds K a.d_u9 ["self","writer","receiver","road"] []
 me_u9:Meth K a.C_Post "hear" a.f_u9
 F_o9:Fun K "carry" "Post.carry" Le a.f_o9 a.d_o9
 b_o9:Binds K a.d_o9 ["self","a","b"] []
 me_o9:Meth K a.C_Post "carry" a.f_o9
 F_p9:Fun K "carry_next" "Post.carry_next" Ld a.f_p9 a.d_p9
 b_p9:Binds K a.d_p9 ["self"] []
 me_p9:Meth K a.C_Post "carry_next" a.f_p9
 F_bf9:Fun K "_law_did" "_law_did" CD a.f_bf9 a.d_bf9
 b_bf9:Binds K a.d_bf9 ["post","kind","a","b"] []
 m_bf9:mg "_law_did" = some (.ref a.f_bf9)
 F_bd9:Fun K "law" "law" CG a.f_bd9 a.d_bd9
 b_bd9:Binds K a.d_bd9 ["script"] []
 m_bd9:mg "law" = some (.ref a.f_bd9)
 g_SEAT:∃t,mg "SEAT" = some (.int 0 t)
 g_MOST_HOUSES:∃t,mg "MOST_HOUSES" = some (.int 60 t)
 z_len:mg "len" = none
 z_range:mg "range" = none
 z_min:mg "min" = none
 z_max:mg "max" = none
 z_set:mg "set" = none
 z_list:mg "list" = none
 z_tuple:mg "tuple" = none
 z_isinstance:mg "isinstance" = none
 z_any:mg "any" = none
 z_ValueError:mg "ValueError" = none
def aA(a:Adr)(K:F0):Mi.Cm:=⟨λc=>match c with|0=>a.C_Guild|1=>a.C_Post|10=>a.C_GuildError|11=>a.C_NoHouse|12=>a.C_NoWay|13=>a.C_WayThere|14=>a.C_NoRoad|15=>a.C_NoLetter|_=>0,K,[]⟩
end K11
namespace K11
open PySem L2 Mi
noncomputable section
def fA:List (Str×Sh):=[("ways",.ct .fz),("likings",.ct .fz),("shuns",.ct .fz),("wish_ranks",.ct .fz)]
def dk:List (Str×Sh):=[("guild",.ob fA),("roads",.ct .fz),("told_last",.ct .fz),("written_last",.ct .fz),("letters",.ct .fz),("standings",.ct (.ct .fz))]
def JX:List Md:=[.O (.ob fA),.F]
def QD:List Md:=[]
def EF:L4->SO:=az (gx (aV (BE (di (bn HF (vr 1) (aW (.int 1)))) (di (bn No (vr 1) (aW (.int 60))))))
 (dC 11)
 bM)
 (az (cL 0 "house_count" 0 (aV (vr 1)))
 (az (cL 0 "ways" 0 (aV (aW (.dT [] []))))
 (az (cL 0 "likings" 0 (aV (aW (.dT [] []))))
 (az (cL 0 "shuns" 0 (aV (aW (.dT [] []))))
 (cL 0 "wish_ranks" 0 (aV (aW (.dT [] []))))))))
def u6:List D->Out D:=run 2 EF
theorem u3:EF=(az (gx (aV (BE (di (bn HF (vr 1) (aW (.int 1)))) (di (bn No (vr 1) (aW (.int 60))))))
 (dC 11)
 bM)
 (az (cL 0 "house_count" 0 (aV (vr 1)))
 (az (cL 0 "ways" 0 (aV (aW (.dT [] []))))
 (az (cL 0 "likings" 0 (aV (aW (.dT [] []))))
 (az (cL 0 "shuns" 0 (aV (aW (.dT [] []))))
 (cL 0 "wish_ranks" 0 (aV (aW (.dT [] []))))))))):=rfl
def JW:List Md:=[.R,.R,.F]
def QC:List Md:=[]
def EE:L4->SO:=b8 (aV (iD (iq (un (bL 0 "house_count") (vr 0))) [1,2] (di (bn (m8 false) (jZ (aE (vr 2) (aE (vr 0) bj))) (vr 1))) (vr 0)))
def M8:List D->Out D:=mT 3 EE
def JN:List Md:=[.R,.F,.R]
def Qt:List Md:=[]
def Eu:L4->SO:=b8 (aV (un uj (iD (nH (vr 2)) [1,0] (λ_=>.ok true) (bn (m8 false) (jZ (aE (vr 1) (aE (yx (vr 0)) bj))) (un (bL 0 "shuns") (vr 2))))))
def MZ:List D->Out D:=run 3 Eu
def JM:List Md:=[.R]
def Qs:List Md:=[]
def Et:L4->SO:=b8 (aV (yx (un (bL 0 "house_count") (vr 0))))
def oK:List D->Out D:=run 1 Et
def JF:List Md:=[.R]
def Ql:List Md:=[.F]
def El:L4->SO:=az (pd 1 "letters" 0 1)
 (dC 15)
def MU:List D->Out D:=run 2 El
def JE:List Md:=[.O (.ob dk),.F,.F]
def Qk:List Md:=[]
def Ek:L4->SO:=az (bb (jM (fZ 1 "letters" 0) (fB "letters" 0) (jZ (aE (vr 1) (aE (vr 2) bj)))))
 (az (bb (jM (fZ 1 "told_last" 0) (fB "told_last" 0) (jZ (aE (vr 1) (aE (vr 2) bj)))))
 (az (bb (jM (fZ 1 "written_last" 0) (fB "written_last" 0) (jZ (aE (vr 1) (aE (vr 2) bj)))))
 (bb (rF (ml (iX (dD 0) 1 "standings") (E2 2)) (nO (iX (dD 0) 1 "standings") (nP (dD 0) (iH 0) "standings") (E2 2)) (vr 1)))))
def Hw:List D->Out D:=run 3 Ek
def Jy:List Md:=[.O (.ob dk),.F,.F]
def Qd:List Md:=[.F]
def Ee:L4->SO:=az (cZ 3 (aV (bn E3 (un (bL 1 "roads") (vr 0)) (vr 1))))
 (az (gx (aV (di (bn (Gm false) (rh (un (bL 1 "written_last") (vr 0)) (jZ (aE (vr 1) (aE (vr 2) bj)))) (vr 3))))
 Lw
 bM)
 (az (kM (fZ 1 "written_last" 0) (fB "written_last" 0) (jZ (aE (vr 1) (aE (vr 2) bj))) (aV (vr 3)))
 (kM (fZ 1 "letters" 0) (fB "letters" 0) (jZ (aE (vr 1) (aE (vr 2) bj))) (aV (vr 3)))))
def EH:List D->Out D:=run 4 Ee
def D2:List Md:=[.R,.F]
def MI:List Md:=[]
def xg:L4->SO:=az (gx (aV (di (bn HF (vr 1) (un mX (vr 0)))))
 (b8 (aV (yx (bn E3 (vr 0) (vr 1)))))
 bM)
 (b8 (aV (aW (.int 0))))
def m_be9:List D->Out D:=run 2 xg
def D0:List Md:=[.F,.R,.F,.F,.F,.F]
def MG:List Md:=[.F]
def xc:L4->SO:=az (gx (aV (na (di (bn (jq false) (vr 3) (aW (.int 3)))) (di (bn (jq false) (un mX (vr 0)) (aW (.int 0))))))
 (b8 (aV (aW (.str ("letter" : Str)))))
 bM)
 (az (gx (aV (di (bn (jq false) (vr 3) (aW (.int 3)))))
 (b8 (aV (aW (.str ("done" : Str)))))
 bM)
 (az (gx (aV (BE (di (bn HF (bn ql (vr 4) (vr 5)) (aW (.int 0)))) (BE (di (bn QW (bn qm (vr 4) (vr 5)) (vr 2))) (na (di (bn No (vr 3) (aW (.int 0)))) (di (bn (jq false) (vr 4) (vr 5)))))))
 (b8 (aV (aW (.str ("house" : Str)))))
 bM)
 (az (gx (aV (na (di (bn (jq false) (vr 3) (aW (.int 0)))) (di (bn (jq false) (un mX (iD (nH (vr 0)) [4,5] (di (bn (Gm false) (jZ (aE (bn ze (vr 0) (aW (.int 0))) (aE (bn ze (vr 0) (aW (.int 1))) bj))) (jZ (aE (vr 1) (aE (vr 2) bj))))) (vr 0))) (aW (.int 0))))))
 (b8 (aV (aW (.str ("letter" : Str)))))
 bM)
 (az (cZ 6 (aV (bn J8 (jZ (aE (bn ql (vr 4) (vr 5)) (aE (bn qm (vr 4) (vr 5)) bj))) (vr 1))))
 (az (gx (aV (na (di (bn (jq false) (vr 3) (aW (.int 1)))) (Ms (di (vr 6)))))
 (b8 (aV (aW (.str ("way" : Str)))))
 bM)
 (az (gx (aV (na (di (bn (jq false) (vr 3) (aW (.int 2)))) (di (vr 6))))
 (b8 (aV (aW (.str ("there" : Str)))))
 bM)
 (b8 (aV (aW (.str ("done" : Str)))))))))))
def m_bg9:List D->Out D:=run 7 xc
def DZ:List Md:=[.F]
def MF:List Md:=[]
def xb:L4->SO:=az (gx (aV (di (bn (jq false) (vr 0) (aW (.str ("done" : Str))))))
 (b8 (aV (nj bj)))
 bM)
 (b8 (aV (nj (aE (bn (jq false) (vr 0) (aW (.str ("house" : Str)))) (aE (bn (jq false) (vr 0) (aW (.str ("letter" : Str)))) (aE (bn (jq false) (vr 0) (aW (.str ("way" : Str)))) (aE (bn (jq false) (vr 0) (aW (.str ("there" : Str)))) (aE (aW (.bl true)) bj))))))))
def m_bh9:List D->Out D:=mT 1 xb
def DX:List Md:=[.F,.F]
def MC:List Md:=[.F,.O (.ct .fz),.F,.F,.F]
abbrev xy:L4->SO:=(az (gx (aV (di (bn (jq false) (bn jH (bn Cj (vr 2) (bn jH (vr 4) (aW (.int 29)))) (aW (.int 2))) (aW (.int 1)))))
 (bb (qo (dD 3) (iH 3) wo (jZ (aE (vr 5) (aE (vr 6) bj)))))
 bM)
 (cZ 4 (aV (bn qt (vr 4) (aW (.int 1))))))
abbrev EQ:L4->SO:=(l6 (aV (Ca (bn qt (vr 5) (aW (.int 1))) (vr 1))) (II 6)
 xy)
def w9:L4->SO:=az (cZ 2 (aV (bn jH (bn AM (bn jH (bn AM (bn qt (vr 0) (aW (.int 1))) (aW (.int 48271))) (aW (.int 2147483647))) (aW (.int 16807))) (aW (.int 2147483647)))))
 (az (cZ 3 (aV (nj bj)))
 (az (cZ 4 (aV (aW (.int 0))))
 (az (l6 (aV (iq (vr 1))) (II 5)
 EQ)
 (b8 (Jx 3)))))
def m_bj9:List D->Out D:=mT 7 w9
def D5:List Md:=[.F,.F]
def MM:List Md:=[.F]
def xj:L4->SO:=az (gx (aV (di (bn (jq false) (vr 0) (aW (.int 0)))))
 (b8 (aV (nj (aE (aW (.int 0)) bj))))
 bM)
 (az (cZ 2 (aV (bn uW (vr 1) (aW .non))))
 (az (gx (aV (di (bn (vd false) (vr 2) (aW .non))))
 (b8 (aV (aW .non)))
 bM)
 (b8 (aV (bn ze (vr 2) (aW (.int 2)))))))
def m_bb9:List D->Out D:=run 3 xj
def D4:List Md:=[.R]
def ML:List Md:=[]
def xi:L4->SO:=az (gx (aV (di (bn (vd false) (vr 0) (aW .non))))
 (b8 (aV (aW .non)))
 bM)
 (b8 (aV (un sL (v7 (vr 0)))))
def m_bc9:List D->Out D:=run 1 xi
def DV:List Md:=[.R,.F]
def MA:List Md:=[]
def w6:L4->SO:=gx (aV (BE (di (bn HF (bn (pf cX) (vr 0) (aW (.int 0))) (aW (.int 0)))) (di (bn QW (bn (pf f9) (vr 0) (aW (.int 0))) (vr 1)))))
 (dC 11)
 bM
def m_bl9:List D->Out D:=run 2 w6
def JQ:List Md:=[.R,.R]
def Qw:List Md:=[]
def Ey:L4->SO:=bb (aV (pc m_bl9 (aE (vr 1) (aE (yx (un (bL 0 "house_count") (vr 0))) bj))))
def u5:List D->Out D:=run 2 Ey
def JB:List Md:=[.R]
def Qh:List Md:=[]
def Eh:L4->SO:=b8 (aV (iD (nH (un (bL 1 "roads") (vr 0))) [] (λ_=>.ok true) (pc m_bc9 (aE (vr 0) bj))))
def MR:List D->Out D:=mT 1 Eh
def Jz:List Md:=[.R]
def Qf:List Md:=[]
def Ef:L4->SO:=b8 (aV (iD (Cb (un (bL 1 "letters") (vr 0))) [0] (λ_=>.ok true) (jZ (aE (bn ze (vr 0) (aW (.int 0))) (aE (bn ze (vr 0) (aW (.int 1))) (aE (pc m_bc9 (aE (bn rH (un (bL 1 "letters") (vr 1)) (vr 0)) bj)) bj))))))
def Hv:List D->Out D:=mT 1 Ef
def DW:List Md:=[.R,.F,.R]
def MB:List Md:=[]
def w8:L4->SO:=az (gx (aV (BE (di (bn (vd false) (vr 2) (aW .non))) (BE (di (bn (jq false) (vr 1) (aW (.int 0)))) (di (bn J8 (vr 1) (vr 2))))))
 (b8 (aV (aW (.bl false))))
 bM)
 (b8 (aV (un Mt (pm 0 "shuns_one_of" MZ (vr 0) (aE (vr 1) (aE (vr 2) bj))))))
def m_bk9:List D->Out D:=run 3 w8
def JT:List Md:=[.R,.F,.F]
def Qz:List Md:=[]
def EB:L4->SO:=az (bb (aV (pm 0 "require_houses" u5 (vr 0) (aE (nj (aE (vr 1) (aE (vr 2) bj))) bj))))
 (b8 (aV (yx (Fd (un (bL 0 "likings") (vr 0)) (jZ (aE (vr 1) (aE (vr 2) bj))) (aW (.int 0))))))
def M5:List D->Out D:=run 3 EB
def JS:List Md:=[.R,.F]
def Qy:List Md:=[]
def EA:L4->SO:=az (bb (aV (pm 0 "require_houses" u5 (vr 0) (aE (nj (aE (vr 1) bj)) bj))))
 (b8 (aV (pm 0 "houses_paired" M8 (vr 0) (aE (un (bL 0 "ways") (vr 0)) (aE (vr 1) bj)))))
def M4:List D->Out D:=mT 2 EA
def JP:List Md:=[.R,.R]
def Qv:List Md:=[]
def Ew:L4->SO:=az (bb (aV (pm 0 "require_houses" u5 (vr 0) (aE (vr 1) bj))))
 (az (gx (aV (di (bn HF (un mX (vr 1)) (aW (.int 2)))))
 (dC 14)
 bM)
 (az (gx (aV (di (bn (jq true) (bn E3 (vr 1) (un Ho (aW (.int 1)))) (aW (.int 0)))))
 (dC 14)
 bM)
 (gx (aV (di (bn (jq true) (un oT (vr 1)) (un mX (vr 1)))))
 (dC 14)
 bM)))
def M0:List D->Out D:=run 2 Ew
def JO:List Md:=[.R,.F,.F]
def Qu:List Md:=[]
def Ev:L4->SO:=az (bb (aV (pm 0 "require_houses" u5 (vr 0) (aE (nj (aE (vr 1) (aE (vr 2) bj))) bj))))
 (gx (aV (di (bn (jq false) (vr 1) (vr 2))))
 (dC 11)
 bM)
def HC:List D->Out D:=run 3 Ev
def JL:List Md:=[.R]
def Qr:List Md:=[.O (.ob fA)]
def Es:L4->SO:=az (cZ 1 (aV (pk 0 u6 (aE (yx (un (bL 0 "house_count") (vr 0))) bj))))
 (az (bb (uv (fZ 0 "ways" 1) (fB "ways" 1) (un (bL 0 "ways") (vr 0))))
 (az (bb (uv (fZ 0 "likings" 1) (fB "likings" 1) (un (bL 0 "likings") (vr 0))))
 (az (bb (uv (fZ 0 "shuns" 1) (fB "shuns" 1) (un (bL 0 "shuns") (vr 0))))
 (az (bb (uv (fZ 0 "wish_ranks" 1) (fB "wish_ranks" 1) (un (bL 0 "wish_ranks") (vr 0))))
 (b8 (Jx 1))))))
def xu:List D->Out D:=mT 2 Es
def JA:List Md:=[.R,.F,.F]
def Qg:List Md:=[]
def Eg:L4->SO:=az (bb (aV (pm 0 "require_houses" u5 (un (bL 1 "guild") (vr 0)) (aE (nj (aE (vr 1) (aE (vr 2) bj))) bj))))
 (b8 (aV (pc m_bc9 (aE (rh (un (bL 1 "told_last") (vr 0)) (jZ (aE (vr 1) (aE (vr 2) bj)))) bj))))
def MQ:List D->Out D:=run 3 Eg
def JV:List Md:=[.O (.ob fA),.F,.F]
def QB:List Md:=[]
def ED:L4->SO:=az (bb (aV (pm 0 "require_two_houses" HC (vr 0) (aE (vr 1) (aE (vr 2) bj)))))
 (az (gx (aV (di (bn (m8 false) (jZ (aE (vr 1) (aE (vr 2) bj))) (un (bL 0 "ways") (vr 0)))))
 (dC 13)
 bM)
 (az (kM (fZ 0 "ways" 0) (fB "ways" 0) (jZ (aE (vr 1) (aE (vr 2) bj))) (aV (aW (.bl true))))
 (kM (fZ 0 "ways" 0) (fB "ways" 0) (jZ (aE (vr 2) (aE (vr 1) bj))) (aV (aW (.bl true))))))
def HE:List D->Out D:=run 3 ED
def JU:List Md:=[.O (.ob fA),.F,.F]
def QA:List Md:=[]
def EC:L4->SO:=az (bb (aV (pm 0 "require_two_houses" HC (vr 0) (aE (vr 1) (aE (vr 2) bj)))))
 (az (gx (aV (di (bn (m8 true) (jZ (aE (vr 1) (aE (vr 2) bj))) (un (bL 0 "ways") (vr 0)))))
 (dC 12)
 bM)
 (az (bb (pE (fZ 0 "ways" 0) (fB "ways" 0) (jZ (aE (vr 1) (aE (vr 2) bj)))))
 (bb (pE (fZ 0 "ways" 0) (fB "ways" 0) (jZ (aE (vr 2) (aE (vr 1) bj)))))))
def M6:List D->Out D:=run 3 EC
def JR:List Md:=[.R,.R]
def Qx:List Md:=[.F]
def Ez:L4->SO:=az (bb (aV (pm 0 "require_long_road" M0 (vr 0) (aE (vr 1) bj))))
 (az (cZ 2 (aV (yx (rh (un (bL 0 "wish_ranks") (vr 0)) (un Kx (v7 (vr 1)))))))
 (az (gx (aV (di (bn (vd false) (vr 2) (aW .non))))
 (b8 (aV (pm 0 "liking" M5 (vr 0) (aE (yx (bn E3 (vr 1) (aW (.int 0)))) (aE (yx (bn E3 (vr 1) (aW (.int 1)))) bj)))))
 bM)
 (b8 (aV (vr 2)))))
def M3:List D->Out D:=run 3 Ez
def D6:List Md:=[.O (.ob dk),.F]
def MN:List Md:=[.F]
abbrev EU:L4->SO:=(bb (mm 1 "write_road" [(.O 0),.F,.F] EH (vr 0) (aE (vr 1) (aE (vr 2) bj))))
def xl:L4->SO:=l6 (aV (nH (pm 0 "neighbours" M4 (un (bL 1 "guild") (vr 0)) (aE (vr 1) bj)))) (II 2)
 EU
def ir:List D->Out D:=run 3 xl
def DY:List Md:=[.R,.F]
def ME:List Md:=[.O (.ct .fz),.F]
abbrev ER:L4->SO:=(bb (qo (dD 2) (iH 2) wo (iD (iq (vr 1)) [3,0] (λ_=>.ok true) (pm 1 "told" MQ (vr 2) (aE (vr 1) (aE (vr 0) bj))))))
def xa:L4->SO:=az (cZ 2 (aV (nj bj)))
 (az (l6 (aV (iq (vr 1))) (II 3)
 ER)
 (b8 (SV (aV (pm 1 "table" MR (vr 0) bj)) (aV (pm 1 "waiting" Hv (vr 0) bj)) (Jx 2))))
def m_bi9:List D->Out D:=run 4 xa
def JK:List Md:=[.O (.ob dk),.R]
def Qq:List Md:=[]
def Er:L4->SO:=az (cL 1 "guild" 0 (aV (pm 0 "twin" xu (vr 1) bj)))
 (az (cL 1 "roads" 0 (aV (bn wL (nj (aE (aW .non) bj)) (pm 0 "size" oK (vr 1) bj))))
 (az (oO (fZ 1 "roads" 0) (fB "roads" 0) (aW (.int 0)) (aV (nj (aE (aW (.int 0)) bj))))
 (az (cL 1 "told_last" 0 (aV (aW (.dT [] []))))
 (az (cL 1 "written_last" 0 (aV (aW (.dT [] []))))
 (az (cL 1 "letters" 0 (aV (aW (.dT [] []))))
 (az (cL 1 "standings" 0 (aV (iD (iq (pm 0 "size" oK (vr 1) bj)) [] (λ_=>.ok true) (aW (.dK [] [])))))
 (bb (mm 1 "write_to_all" [(.O 0),.F] ir (vr 0) (aE (aW (.int 0)) bj)))))))))
def xt:List D->Out D:=run 2 Er
theorem uZ:Er=(az (cL 1 "guild" 0 (aV (pm 0 "twin" xu (vr 1) bj)))
 (az (cL 1 "roads" 0 (aV (bn wL (nj (aE (aW .non) bj)) (pm 0 "size" oK (vr 1) bj))))
 (az (oO (fZ 1 "roads" 0) (fB "roads" 0) (aW (.int 0)) (aV (nj (aE (aW (.int 0)) bj))))
 (az (cL 1 "told_last" 0 (aV (aW (.dT [] []))))
 (az (cL 1 "written_last" 0 (aV (aW (.dT [] []))))
 (az (cL 1 "letters" 0 (aV (aW (.dT [] []))))
 (az (cL 1 "standings" 0 (aV (iD (iq (pm 0 "size" oK (vr 1) bj)) [] (λ_=>.ok true) (aW (.dK [] [])))))
 (bb (mm 1 "write_to_all" [(.O 0),.F] ir (vr 0) (aE (aW (.int 0)) bj)))))))))):=rfl
def JH:List Md:=[.O (.ob dk),.F]
def Qn:List Md:=[.F]
def En:L4->SO:=az (cZ 2 (aV (pc m_bb9 (aE (vr 1) (aE (un BG (Pg (ml (iX (dD 0) 1 "standings") (E2 1)))) bj)))))
 (az (gx (aV (di (bn (Gm false) (vr 2) (bn E3 (un (bL 1 "roads") (vr 0)) (vr 1)))))
 (b8 (aV (aW (.bl false))))
 bM)
 (az (oO (fZ 1 "roads" 0) (fB "roads" 0) (vr 1) (aV (vr 2)))
 (az (bb (mm 1 "write_to_all" [(.O 0),.F] ir (vr 0) (aE (vr 1) bj)))
 (b8 (aV (aW (.bl true)))))))
def EK:List D->Out D:=run 3 En
def JC:List Md:=[.O (.ob dk),.F,.F]
def Qi:List Md:=[]
def Ei:L4->SO:=az (bb (MP 0 "lay_way" (iX (dD 0) 1 "guild") (nP (dD 0) (iH 0) "guild") HE (aE (vr 1) (aE (vr 2) bj))))
 (az (bb (mm 1 "write_road" [(.O 0),.F,.F] EH (vr 0) (aE (bn ql (vr 1) (vr 2)) (aE (bn qm (vr 1) (vr 2)) bj))))
 (bb (mm 1 "write_road" [(.O 0),.F,.F] EH (vr 0) (aE (bn qm (vr 1) (vr 2)) (aE (bn ql (vr 1) (vr 2)) bj)))))
def MS:List D->Out D:=run 3 Ei
def DU:List Md:=[.R,.F]
def Mz:List Md:=[]
def wZ:L4->SO:=b8 (aV (jZ (aE (un Ho (pm 0 "rank_of" M3 (vr 0) (aE (vr 1) bj))) (aE (un mX (vr 1)) (aE (vr 1) bj)))))
def m_bm9:List D->Out D:=run 2 wZ
def JG:List Md:=[.O (.ob dk),.F,.F]
def Qm:List Md:=[]
def Em:L4->SO:=az (bb (MP 0 "lift_way" (iX (dD 0) 1 "guild") (nP (dD 0) (iH 0) "guild") M6 (aE (vr 1) (aE (vr 2) bj))))
 (az (bb (mm 1 "forget" [(.O 0),.F,.F] Hw (vr 0) (aE (vr 1) (aE (vr 2) bj))))
 (az (bb (mm 1 "forget" [(.O 0),.F,.F] Hw (vr 0) (aE (vr 2) (aE (vr 1) bj))))
 (az (bb (mm 1 "choose_anew" [(.O 0),.F] EK (vr 0) (aE (bn ql (vr 1) (vr 2)) bj)))
 (bb (mm 1 "choose_anew" [(.O 0),.F] EK (vr 0) (aE (bn qm (vr 1) (vr 2)) bj))))))
def MV:List D->Out D:=run 3 Em
def JD:List Md:=[.O (.ob dk),.F,.F,.F]
def Qj:List Md:=[]
def Ej:L4->SO:=az (kM (fZ 1 "told_last" 0) (fB "told_last" 0) (jZ (aE (vr 1) (aE (vr 2) bj))) (aV (vr 3)))
 (gx (aV (di (pc m_bk9 (aE (un (bL 1 "guild") (vr 0)) (aE (vr 2) (aE (vr 3) bj))))))
 (kM (ml (iX (dD 0) 1 "standings") (E2 2)) (nO (iX (dD 0) 1 "standings") (nP (dD 0) (iH 0) "standings") (E2 2)) (vr 1) (aV (pc m_bm9 (aE (un (bL 1 "guild") (vr 0)) (aE (bn F5 (nj (aE (vr 2) bj)) (vr 3)) bj)))))
 (bb (rF (ml (iX (dD 0) 1 "standings") (E2 2)) (nO (iX (dD 0) 1 "standings") (nP (dD 0) (iH 0) "standings") (E2 2)) (vr 1))))
def MT:List D->Out D:=run 4 Ej
def JJ:List Md:=[.O (.ob dk),.F,.F]
def Qp:List Md:=[]
def Ep:L4->SO:=az (bb (aV (pm 0 "require_houses" u5 (un (bL 1 "guild") (vr 0)) (aE (nj (aE (vr 1) (aE (vr 2) bj))) bj))))
 (az (gx (aV (di (bn (m8 true) (jZ (aE (vr 1) (aE (vr 2) bj))) (un (bL 1 "letters") (vr 0)))))
 (dC 15)
 bM)
 (az (bb (Ox 1 "hear" 0 MT (vr 1) (vr 2) (pE (fZ 1 "letters" 0) (fB "letters" 0) (jZ (aE (vr 1) (aE (vr 2) bj))))))
 (b8 (mm 1 "choose_anew" [(.O 0),.F] EK (vr 0) (aE (vr 2) bj)))))
def Hy:List D->Out D:=run 3 Ep
def JI:List Md:=[.O (.ob dk)]
def Qo:List Md:=[.F]
def Eo:L4->SO:=az (cZ 1 (aV (pm 1 "first_of_line" MU (vr 0) bj)))
 (b8 (mm 1 "carry" [(.O 0),.F,.F] Hy (vr 0) (aE (bn ze (vr 1) (aW (.int 0))) (aE (bn ze (vr 1) (aW (.int 1))) bj))))
def MW:List D->Out D:=run 2 Eo
def D1:List Md:=[.O (.ob dk),.F,.F,.F]
def MH:List Md:=[.O (.ct .fz),.F]
def xf:L4->SO:=az (cZ 4 (aV (nj bj)))
 (az (BM (some 5) (N9 [10,11,12,13,14,15]) (gx (aV (di (bn (jq false) (vr 1) (aW (.int 0))))) (bb (mm 1 "carry" [(.O 0),.F,.F] Hy (vr 0) (aE (vr 2) (aE (vr 3) bj)))) (gx (aV (di (bn (jq false) (vr 1) (aW (.int 1))))) (bb (mm 1 "fall" [(.O 0),.F,.F] MV (vr 0) (aE (vr 2) (aE (vr 3) bj)))) (gx (aV (di (bn (jq false) (vr 1) (aW (.int 2))))) (bb (mm 1 "rise" [(.O 0),.F,.F] MS (vr 0) (aE (vr 2) (aE (vr 3) bj)))) (bb (mm 1 "carry_next" [(.O 0)] MW (vr 0) bj))))) λc=>(az (cZ 4 (aV (nj (aE (aW (.bl (match c with|10=>false|11=>true|12=>false|13=>false|14=>false|15=>false|_=>false))) (aE (aW (.bl (match c with|10=>false|11=>false|12=>false|13=>false|14=>false|15=>true|_=>false))) (aE (aW (.bl (match c with|10=>false|11=>false|12=>true|13=>false|14=>false|15=>false|_=>false))) bj)))))) (cZ 4 (aV (bn F5 (vr 4) (nj (aE (aW (.bl (match c with|10=>false|11=>false|12=>false|13=>true|14=>false|15=>false|_=>false))) (aE (aW (.bl (match c with|10=>true|11=>true|12=>true|13=>true|14=>true|15=>true|_=>false))) bj))))))))
 (b8 (Jx 4)))
def m_bf9:List D->Out D:=mT 6 xf
def D3:List Md:=[.R]
def MK:List Md:=[.F,.O (.ct .fz),.O (.ob fA),.F,.F,.O (.ob dk),.F,.F,.F,.F,.F]
abbrev ET:L4->SO:=(bb (mm 0 "lay_way" [(.O 3),.F,.F] HE (vr 3) (aE (vr 4) (aE (vr 5) bj))))
abbrev ES:L4->SO:=(az (cZ 8 (aV (bn jH (vr 7) (aW (.int 4)))))
 (az (cZ 4 (aV (bn B9 (bn jH (bn jz (vr 7) (aW (.int 4))) (bn qt (vr 1) (aW (.int 2)))) (aW (.int 1)))))
 (az (cZ 5 (aV (bn B9 (bn jH (bn jz (bn jz (vr 7) (aW (.int 4))) (bn qt (vr 1) (aW (.int 2)))) (bn qt (vr 1) (aW (.int 2)))) (aW (.int 1)))))
 (az (cZ 9 (aV (pc m_bi9 (aE (vr 6) (aE (vr 1) bj)))))
 (az (cZ 10 (aV (pm 1 "waiting" Hv (vr 6) bj)))
 (az (gx (aV (na (di (bn (jq false) (vr 8) (aW (.int 0)))) (na (di (bn (jq false) (bn jH (bn jz (vr 7) (aW (.int 4))) (aW (.int 3))) (aW (.int 0)))) (di (bn No (un mX (vr 10)) (aW (.int 0)))))))
 (az (cZ 4 (aV (bn ze (bn E3 (vr 10) (bn jH (bn jz (vr 7) (aW (.int 12))) (un mX (vr 10)))) (aW (.int 0)))))
 (cZ 5 (aV (bn ze (bn E3 (vr 10) (bn jH (bn jz (vr 7) (aW (.int 12))) (un mX (vr 10)))) (aW (.int 1))))))
 bM)
 (az (cZ 11 (aV (pc m_bg9 (aE (vr 10) (aE (vr 2) (aE (vr 1) (aE (vr 8) (aE (vr 4) (aE (vr 5) bj)))))))))
 (az (gx (BL (S9 (Gm true) (mc [(.O 6),.F,.F,.F] m_bf9 (aE (vr 6) (aE (vr 8) (aE (vr 4) (aE (vr 5) bj))))) (aV (pc m_bh9 (aE (vr 11) bj)))))
 (b8 (aV (aW (.bl false))))
 bM)
 (az (gx (aV (na (di (bn (jq false) (vr 11) (aW (.str ("done" : Str))))) (di (bn (jq false) (vr 8) (aW (.int 1))))))
 (bb (qo (dD 2) (iH 2) Az (jZ (aE (bn ql (vr 4) (vr 5)) (aE (bn qm (vr 4) (vr 5)) bj)))))
 bM)
 (az (gx (aV (na (di (bn (jq false) (vr 11) (aW (.str ("done" : Str))))) (di (bn (jq false) (vr 8) (aW (.int 2))))))
 (bb (qo (dD 2) (iH 2) wo (jZ (aE (bn ql (vr 4) (vr 5)) (aE (bn qm (vr 4) (vr 5)) bj)))))
 bM)
 (gx (aV (na (di (bn (jq true) (vr 11) (aW (.str ("done" : Str))))) (di (bn (Gm true) (pc m_bi9 (aE (vr 6) (aE (vr 1) bj))) (vr 9)))))
 (b8 (aV (aW (.bl false))))
 bM)))))))))))
def xh:L4->SO:=az (cZ 1 (aV (bn qt (aW (.int 1)) (bn jH (pc m_be9 (aE (vr 0) (aE (aW (.int 0)) bj))) (aW (.int 6))))))
 (az (cZ 2 (aV (pc m_bj9 (aE (pc m_be9 (aE (vr 0) (aE (aW (.int 1)) bj))) (aE (vr 1) bj)))))
 (az (cZ 3 (aV (pk 0 u6 (aE (vr 1) bj))))
 (az (u7 2 (OE 4 5)
 ET)
 (az (cZ 6 (aV (pk 1 xt (aE (vr 3) bj))))
 (az (l6 (aV (nH (bn Fp (v7 (vr 0)) (aW (.int 2))))) (II 7)
 ES)
 (b8 (aV (aW (.bl true)))))))))
def m_bd9:List D->Out D:=run 12 xh
end
variable{P:Program}{w:World}{K:F0}{mg:Str->Option Value}{base:Heap}{a:Adr}
theorem Jq(T:Txt K mg a base):FnOk P w K mg base (dR P w) 1 a.f_a9 a.d_a9 ["self","size"] (dt (aA a K) JX (KR (aA a K) .F) u6):=by
 obtain⟨b,g_MOST_HOUSES⟩:=T.g_MOST_HOUSES;refine T.F_a9.okX O9 (λ_ _ _ _=>aH) (λ_ _ _ _ _ _ _ _ d h=>?_)
 refine⟨_,(ae (bS (PW.pt (qF (aB uO (pv 1) ax (aK _)) (si (aB DE (pv 1) (cG rfl g_MOST_HOUSES (v:=.int 60) ⟨_,rfl⟩) (aK _))))) (ag (c9 eV rfl rfl T.mgC_NoHouse T.ek_NoHouse (aa bN ac))) a7)
  (ae (fE (pv 0) (pv 1) rfl)
  (ae (fE (pv 0) fH rfl)
  (ae (fE (pv 0) fH rfl)
  (ae (fE (pv 0) fH rfl)
  (ag (fE (pv 0) fH rfl))))))),?_⟩
 refine aN (Y:=aA a K) (M:=JX) (more:=QD) (body:=EF) ?_ rfl rfl (λ_ _ _=>c8) h
 exact(aq (dy (bg (qI (bX (fx (aY Cu (fx (fF 1)) (fx pI)))) (bX (fx (aY Ll (fx (fF 1)) (fx pI)))))) (d8 (c:=11)) bV)
  (aq (Lp (c:=0) (i:=0) T.cl_Guild T.n_house_count rfl rfl (bg (fF 1)))
  (aq (gj (c:=0) (i:=0) T.cl_Guild T.n_ways rfl rfl (bg oj))
  (aq (gj (c:=0) (i:=0) T.cl_Guild T.n_likings rfl rfl (bg oj))
  (aq (gj (c:=0) (i:=0) T.cl_Guild T.n_shuns rfl rfl (bg oj))
  (gj (c:=0) (i:=0) T.cl_Guild T.n_wish_ranks rfl rfl (bg oj)))))))
theorem FJ:CompSc (am CK) (Gd.nk (Gd.yu (Gd.nth (eC CK) 0))) "b" ["pairs","a"]:=by ac_rfl
theorem PM(T:Txt K mg a base):FnOk P w K mg base (dR P w) 1 a.f_b9 a.d_b9 ["self","pairs","a"] (dt (aA a K) JW (KO (aA a K) (.ct .fz)) M8):=by
 refine T.F_b9.okX O8 (λ_ _ _ _=>aH) (λ_ _ _ _ _ _ _ _ d h=>?_);have b:=iw d;refine⟨_,(ag (aS (gR rfl (gC rfl T.z_range (aa (aw K rfl (pv 0) rfl) ac)) FJ (ix:=[1,2]) rfl (λ_ _ _ _=>yU (sk (wS b (bH (aa (pv 2) (aa (pv 0) ac))) (pv 1)))) (λ_ _ _ _=>(pv 0))))),?_⟩;refine dF (Y:=aA a K) (M:=JW) (more:=QC) (body:=EE) ?_ rfl rfl h;exact(bA (bg (om (ix:=[1,2]) (E7 (ux (dE (c:=0) T.cl_Guild T.n_house_count (rc (fR 0))))) (by decide) (wP (fx (Dy (fx (cc (af (fF 2) (af (fF 0) aD)))) (rc (fR 1))))) (fF 0))))
theorem FI:CompSc (am GS) { kind:=.function,names:=[ (".0",.local),("b",.local),("a",.free),("self",.free)],isGenerator:=false,isCoroutine:=false,more:=[]:PySem.Scope } "b" ["a","self"]:=by ac_rfl
theorem Pz(T:Txt K mg a base):FnOk P w K mg base (dR P w) 1 a.f_k9 a.d_k9 ["self","a","houses"] (dt (aA a K) JN (KR (aA a K) .F) MZ):=by
 refine T.F_k9.okX O0 (λ_ _ _ _=>aH) (λ_ _ _ _ _ _ _ _ d h=>?_);have b:=iw d;refine⟨_,(ag (aS (aP (Bq K rfl rfl) rfl T.z_any Gd.Oc (aa (gR rfl (gD K rfl (pv 2)) FI (ix:=[1,0]) rfl (λ_ _ _ _=>kh) (λ_ _ _ _=>(LM (wS b (bH (aa (pv 1) (aa (pv 0) ac))) (aw K rfl (pv 2) rfl))))) ac)))),?_⟩;refine aN (Y:=aA a K) (M:=JN) (more:=Qt) (body:=Eu) ?_ rfl rfl (λ_ _ _=>c8) h;exact(bA (bg (ju Pc (fx (oF (uN (ix:=[1,0]) (xB (rc (fR 2))) (by decide) n6 (Dy (fx (cc (af (fF 1) (af (rS (k:= .X) (ux (fR 0))) aD)))) (rc (dE (c:=0) T.cl_Guild T.n_shuns (rc (fR 2)))))))))))
theorem Jn(T:Txt K mg a base):FnOk P w K mg base (dR P w) 1 a.f_l9 a.d_l9 ["self"] (dt (aA a K) JM (KR (aA a K) .F) oK):=by
 refine T.F_l9.okX OZ (λ_ _ _ _=>aH) (λ_ _ _ _ _ _ _ _ b h=>?_);refine⟨_,(ag (aS (aw K rfl (pv 0) rfl))),?_⟩;refine aN (Y:=aA a K) (M:=JM) (more:=Qs) (body:=Et) ?_ rfl rfl (λ_ _ _=>c8) h;exact(bA (bg (rS (k:= .X) (ux (dE (c:=0) T.cl_Guild T.n_house_count (rc (fR 0)))))))
theorem Pu(T:Txt K mg a base):FnOk P w K mg base (dR P w) 1 a.f_s9 a.d_s9 ["self"] (dt (aA a K) JF (KR (aA a K) .F) MU):=by
 refine T.F_s9.okX IS (λ_ _ _ _=>aH) (λ_ _ _ _ _ _ _ _ b h=>?_)
 refine⟨_,(ae (Dl wT rfl (aw K rfl (pv 0) rfl) (fk (i:=1) IS.nd rfl (Or.inl rfl)) (ag (aS (pv 1))))
  (ag (c9 eV rfl rfl T.mgC_NoLetter T.ek_NoLetter (aa bN ac)))),?_⟩
 refine aN (Y:=aA a K) (M:=JF) (more:=Ql) (body:=El) ?_ rfl rfl (λ_ _ _=>c8) h
 exact(aq (GU (i:=0) (j:=1) (c:=1) (f := "letters") T.cl_Post T.n_letters rfl rfl rfl)
  (d8 (c:=15)))
theorem Jl(T:Txt K mg a base):FnOk P w K mg base (dR P w) 1 a.f_t9 a.d_t9 ["self","writer","receiver"] (dt (aA a K) JE (KR (aA a K) .F) Hw):=by
 refine T.F_t9.okX OV (λ_ _ _ _=>aH) (λ_ _ _ _ _ _ _ _ d h=>?_);have b:=iw d
 refine⟨_,(ae (aL (lB b (aw K rfl (pv 0) rfl) (bH (aa (pv 1) (aa (pv 2) ac))) dY ⟨rfl,rfl,rfl,rfl⟩))
  (ae (aL (lB b (aw K rfl (pv 0) rfl) (bH (aa (pv 1) (aa (pv 2) ac))) dY ⟨rfl,rfl,rfl,rfl⟩))
  (ae (aL (lB b (aw K rfl (pv 0) rfl) (bH (aa (pv 1) (aa (pv 2) ac))) dY ⟨rfl,rfl,rfl,rfl⟩))
  (ag (aL (uM (da (cB K rfl) (aw K rfl (pv 0) rfl) (pv 2) (λ_ _=>rfl)) (pv 1) dY ⟨rfl,rfl,rfl,rfl⟩)))))),?_⟩
 refine aN (Y:=aA a K) (M:=JE) (more:=Qk) (body:=Ek) ?_ rfl rfl (λ_ _ _=>c8) h
 exact(aq (a6 (oM (iM (c:=1) (i:=0) T.cl_Post T.n_letters rfl rfl) (fx (cc (af (fF 1) (af (fF 2) aD))))))
  (aq (a6 (oM (iM (c:=1) (i:=0) T.cl_Post T.n_told_last rfl rfl) (fx (cc (af (fF 1) (af (fF 2) aD))))))
  (aq (a6 (oM (iM (c:=1) (i:=0) T.cl_Post T.n_written_last rfl rfl) (fx (cc (af (fF 1) (af (fF 2) aD))))))
  (a6 (za (LB (G5 (AD (c:=1) (AC (i:=0) rfl) T.cl_Post T.n_standings rfl) (sO (j:=2)))) (fx (fF 1)))))))
theorem DG(T:Txt K mg a base):FnOk P w K mg base (dR P w) 1 a.f_z9 a.d_z9 ["self","writer","receiver"] (dt (aA a K) Jy (KR (aA a K) .F) EH):=by
 refine T.F_z9.okX IR (λ_ _ _ _=>aH) (λ_ _ _ _ _ _ _ _ e h=>?_);have d:=iw e;have b:=e.units
 refine⟨_,(ae (bG (i:=3) IR.nd rfl (Or.inl rfl) (da (cB K rfl) (aw K rfl (pv 0) rfl) (pv 1) (λ_ _=>rfl)))
  (ae (bS (aB (sC K rfl b) (og d (aw K rfl (pv 0) rfl) (bH (aa (pv 1) (aa (pv 2) ac))) ⟨rfl,rfl,rfl,rfl⟩) (pv 3) (aK _)) (ag G4) a7)
  (ae (ji d (aw K rfl (pv 0) rfl) (bH (aa (pv 1) (aa (pv 2) ac))) (pv 3) rfl)
  (ag (ji d (aw K rfl (pv 0) rfl) (bH (aa (pv 1) (aa (pv 2) ac))) (pv 3) rfl))))),?_⟩
 refine aN (Y:=aA a K) (M:=Jy) (more:=Qd) (body:=Ee) ?_ rfl rfl (λ_ _ _=>c8) h
 exact(aq (cC (i:=3) (bg (lZ (lE (c:=1) (i:=0) T.cl_Post T.n_roads rfl rfl) (fx (fF 1)))) rfl rfl)
  (aq (dy (bg (bX (fx (aY nX (fx (sx (lE (c:=1) (i:=0) T.cl_Post T.n_written_last rfl rfl) (fx (cc (af (fF 1) (af (fF 2) aD)))))) (fx (fF 3)))))) (La λ_ _ _=>c8) bV)
  (aq (lx (iM (c:=1) (i:=0) T.cl_Post T.n_written_last rfl rfl) (fx (cc (af (fF 1) (af (fF 2) aD)))) (bg (fF 3)))
  (lx (iM (c:=1) (i:=0) T.cl_Post T.n_letters rfl rfl) (fx (cc (af (fF 1) (af (fF 2) aD)))) (bg (fF 3))))))
theorem DL(T:Txt K mg a base):FnOk P w K mg base (dR P w) 1 a.f_be9 a.d_be9 ["script","k"] (dt (aA a K) D2 (KR (aA a K) .F) m_be9):=by
 refine T.F_be9.okX K2 (λ_ _ _ _=>aH) (λ_ _ _ _ _ _ _ _ b h=>?_)
 refine⟨_,(ae (bS (aB uO (pv 1) (aP (bK K rfl) rfl T.z_len Gd.gv (aa (pv 0) ac)) (aK _)) (ag (aS (da (cB K rfl) (pv 0) (pv 1) (λ_ _=>rfl)))) a7)
  (ag (aS ax))),?_⟩
 refine aN (Y:=aA a K) (M:=D2) (more:=MI) (body:=xg) ?_ rfl rfl (λ_ _ _=>c8) h
 exact(aq (dy (bg (bX (fx (aY Cu (fx (fF 1)) (fx (ju j9 (ux (fR 0)))))))) (bA (bg (rS (k:= .X) (ux (lZ (rc (fR 0)) (fx (fF 1))))))) bV)
  (bA (bg pI)))
theorem Bl:CompSc (am yz) { kind:=.function,names:=[ (".0",.local),("note",.local),("a",.free),("b",.free)],isGenerator:=false,isCoroutine:=false,more:=[]:PySem.Scope } "note" ["a","b"]:=by ac_rfl
theorem Mf(T:Txt K mg a base):FnOk P w K mg base (dR P w) 1 a.f_bg9 a.d_bg9 ["line","ways","size","kind","a","b"] (dt (aA a K) D0 (KR (aA a K) .F) m_bg9):=by
 refine T.F_bg9.okX Co (λ_ _ _ _=>aH) (λ_ _ _ _ _ _ _ _ c h=>?_);have b:=c.units;have A6:=Mi.A6 c
 refine⟨_,(ae (bS (PW.pt (gk (aB cg (pv 3) ax (aK _)) (fi (aB cg (aP (bK K rfl) rfl T.z_len Gd.gv (aa (pv 0) ac)) ax (aK _))))) (ag (aS bN)) a7)
  (ae (bS (aB cg (pv 3) ax (aK _)) (ag (aS bN)) a7)
  (ae (bS (PW.pt (qF (aB uO (aP (d6 rfl) rfl T.z_min Gd.ik (aa (pv 4) (aa (pv 5) ac))) ax (aK _)) (qF (aB Jj (aP (d7 rfl) rfl T.z_max Gd.je (aa (pv 4) (aa (pv 5) ac))) (pv 2) (aK _)) (si (PW.pt (gk (aB DE (pv 3) ax (aK _)) (fi (aB cg (pv 4) (pv 5) (aK _))))))))) (ag (aS bN)) a7)
  (ae (bS (PW.pt (gk (aB cg (pv 3) ax (aK _)) (fi (aB cg (aP (bK K rfl) rfl T.z_len Gd.gv (aa (gR rfl (gD K rfl (pv 0)) Bl (ix:=[4,5]) rfl (λ_ _ _ _=>yU (aB (sC K rfl b) (bH (aa (da (fq K rfl) (pv 0) ax (λ_ _=>rfl)) (aa (da (fq K rfl) (pv 0) ax (λ_ _=>rfl)) ac))) (bH (aa (pv 1) (aa (pv 2) ac))) (aK _))) (λ_ _ _ _=>(pv 0))) ac)) ax (aK _))))) (ag (aS bN)) a7)
  (ae (bG (i:=6) Co.nd rfl (Or.inl rfl) (ki (yX K rfl A6) (bH (aa (aP (d6 rfl) rfl T.z_min Gd.ik (aa (pv 4) (aa (pv 5) ac))) (aa (aP (d7 rfl) rfl T.z_max Gd.je (aa (pv 4) (aa (pv 5) ac))) ac))) (pv 1) (by with_unfolding_all rfl)))
  (ae (bS (PW.pt (gk (aB cg (pv 3) ax (aK _)) (fi (LC (wO (pv 6)))))) (ag (aS bN)) a7)
  (ae (bS (PW.pt (gk (aB cg (pv 3) ax (aK _)) (fi (wO (pv 6))))) (ag (aS bN)) a7)
  (ag (aS bN))))))))),?_⟩
 refine aN (Y:=aA a K) (M:=D0) (more:=MG) (body:=xc) ?_ rfl rfl (λ_ _ _=>c8) h
 exact(aq (dy (bg (gm (bX (fx (aY eF (fx (fF 3)) (fx pI)))) (bX (fx (aY eF (fx (ju j9 (fx (fF 0)))) (fx pI)))))) (bA (bg pS)) bV)
  (aq (dy (bg (bX (fx (aY eF (fx (fF 3)) (fx pI))))) (bA (bg pS)) bV)
  (aq (dy (bg (qI (bX (fx (aY Cu (fx (f8 nT (fx (fF 4)) (fx (fF 5)))) (fx pI)))) (qI (bX (fx (aY Pb (fx (f8 nV (fx (fF 4)) (fx (fF 5)))) (fx (fF 2))))) (gm (bX (fx (aY Ll (fx (fF 3)) (fx pI)))) (bX (fx (aY eF (fx (fF 4)) (fx (fF 5))))))))) (bA (bg pS)) bV)
  (aq (dy (bg (gm (bX (fx (aY eF (fx (fF 3)) (fx pI)))) (bX (fx (aY eF (fx (ju j9 (fx (oF (om (ix:=[4,5]) (xB (rc (fF 0))) (by decide) (bX (fx (aY nX (fx (cc (af (kl (rc (fF 0)) (fx pI)) (af (kl (rc (fF 0)) (fx pI)) aD)))) (fx (cc (af (fF 1) (af (fF 2) aD))))))) (fF 0)))))) (fx pI)))))) (bA (bg pS)) bV)
  (aq (cC (i:=6) (bg (aY I8 (fx (cc (af (f8 nT (fx (fF 4)) (fx (fF 5))) (af (f8 nV (fx (fF 4)) (fx (fF 5))) aD)))) (ux (fR 1)))) rfl rfl)
  (aq (dy (bg (gm (bX (fx (aY eF (fx (fF 3)) (fx pI)))) (G2 (wP (fx (fF 6)))))) (bA (bg pS)) bV)
  (aq (dy (bg (gm (bX (fx (aY eF (fx (fF 3)) (fx pI)))) (wP (fx (fF 6))))) (bA (bg pS)) bV)
  (bA (bg pS)))))))))
theorem Me(T:Txt K mg a base):FnOk P w K mg base (dR P w) 1 a.f_bh9 a.d_bh9 ["due"] (dt (aA a K) DZ (KO (aA a K) (.ct .fz)) m_bh9):=by
 refine T.F_bh9.okX K1 (λ_ _ _ _=>aH) (λ_ _ _ _ _ _ _ _ b h=>?_)
 refine⟨_,(ae (bS (aB cg (pv 0) bN (aK _)) (ag (aS (cK ac))) a7)
  (ag (aS (cK (aa (ki cg (pv 0) bN (aK _)) (aa (ki cg (pv 0) bN (aK _)) (aa (ki cg (pv 0) bN (aK _)) (aa (ki cg (pv 0) bN (aK _)) (aa kj ac))))))))),?_⟩
 refine dF (Y:=aA a K) (M:=DZ) (more:=MF) (body:=xb) ?_ rfl rfl h
 exact(aq (dy (bg (bX (fx (aY eF (fx (fF 0)) (fx pS))))) (bA (bg (cf aD))) bV)
  (bA (bg (cf (af (aY eF (fx (fF 0)) (fx pS)) (af (aY eF (fx (fF 0)) (fx pS)) (af (aY eF (fx (fF 0)) (fx pS)) (af (aY eF (fx (fF 0)) (fx pS)) (af pB aD)))))))))
theorem Mc(T:Txt K mg a base):FnOk P w K mg base (dR P w) 1 a.f_bj9 a.d_bj9 ["cell","size"] (dt (aA a K) DX (KO (aA a K) (.ct .fz)) m_bj9):=by
 refine T.F_bj9.okX jD (λ_ _ _ _=>aH) (λ_ _ _ _ _ _ _ _ b h=>?_)
 refine⟨_,(ae (bG (i:=2) jD.nd rfl (Or.inl rfl) (bQ fJ (bQ DD (bQ fJ (bQ DD (bQ jE (pv 0) ax) ax) ax) ax) ax))
  (ae (bG (i:=3) jD.nd rfl (Or.inl rfl) (cK ac))
  (ae (bG (i:=4) jD.nd rfl (Or.inl rfl) ax)
  (ae (lA wT rfl (gC rfl T.z_range (aa (pv 1) ac)) (fk (i:=5) jD.nd rfl (Or.inl rfl)) (ag (lA wT rfl (AF rfl T.z_range (aa (bQ jE (pv 5) ax) (aa (pv 1) ac))) (fk (i:=6) jD.nd rfl (Or.inl rfl)) (ae (bS (aB cg (bQ fJ (bQ LY (pv 2) (bQ fJ (pv 4) ax)) ax) ax (aK _)) (ag (aL (lY Vp VL VM jm (pv 3) (aa (bH (aa (pv 5) (aa (pv 6) ac))) ac)))) a7)
  (ag (bG (i:=4) jD.nd rfl (Or.inl rfl) (bQ jE (pv 4) ax)))))))
  (ag (aS (pv 3))))))),?_⟩
 refine dF (Y:=aA a K) (M:=DX) (more:=MC) (body:=w9) ?_ rfl rfl h
 exact(aq (cC (i:=2) (bg (aY iJ (fx (aY I0 (fx (aY iJ (fx (aY I0 (fx (aY nY (fx (fF 0)) (fx pI))) (fx pI))) (fx pI))) (fx pI))) (fx pI))) rfl rfl)
  (aq (cj (i:=3) (bg (cf aD)) rfl rfl)
  (aq (cC (i:=4) (bg pI) rfl rfl)
  (aq (uC (bg (E7 (fx (fF 1)))) (.inl rfl) (KA (i:=5) rfl rfl) (uC (bg (SY (fx (aY nY (fx (fF 5)) (fx pI))) (fx (fF 1)))) (.inl rfl) (KA (i:=6) rfl rfl) (aq (dy (bg (bX (fx (aY eF (fx (aY iJ (fx (aY Pa (fx (fF 2)) (fx (aY iJ (fx (fF 4)) (fx pI))))) (fx pI))) (fx pI))))) (a6 (oN (G1 (i:=3) rfl) (cc (af (fF 5) (af (fF 6) aD))))) bV)
  (cC (i:=4) (bg (aY nY (fx (fF 4)) (fx pI))) rfl rfl))))
  (bA (Hz (i:=3) rfl))))))
theorem Mj(T:Txt K mg a base):FnOk P w K mg base (dR P w) 1 a.f_bb9 a.d_bb9 ["house","standings"] (dt (aA a K) D5 (KR (aA a K) .F) m_bb9):=by
 obtain⟨b,g_SEAT⟩:=T.g_SEAT;refine T.F_bb9.okX Cp (λ_ _ _ _=>aH) (λ_ _ _ _ _ _ _ _ c h=>?_);have E8:=Mi.E8 c
 refine⟨_,(ae (bS (aB cg (pv 0) (cG rfl g_SEAT (v:=.int 0) ⟨_,rfl⟩) (aK _)) (ag (aS (cK (aa (cG rfl g_SEAT (v:=.int 0) ⟨_,rfl⟩) ac)))) a7)
  (ae (bG (i:=2) Cp.nd rfl (Or.inl rfl) (lD (wj K rfl rfl E8) rfl T.z_min Gd.ik (aa (pv 1) ac) (sr dY wR)))
  (ae (bS (aB sy (pv 2) dY (aK _)) (ag (aS dY)) a7)
  (ag (aS (da (fq K rfl) (pv 2) ax (λ_ _=>rfl))))))),?_⟩
 refine aN (Y:=aA a K) (M:=D5) (more:=MM) (body:=xj) ?_ rfl rfl (λ_ _ _=>c8) h
 exact(aq (dy (bg (bX (fx (aY eF (fx (fF 0)) (fx pI))))) (bA (bg (oF (cf (af pI aD))))) bV)
  (aq (cC (i:=2) (bg (LP (rc (fF 1)) (fx pN))) rfl rfl)
  (aq (dy (bg (bX (fx (aY GT (fx (fF 2)) (fx pN))))) (bA (bg pN)) bV)
  (bA (bg (kl (rc (fF 2)) (fx pI)))))))
theorem wV(T:Txt K mg a base):FnOk P w K mg base (dR P w) 1 a.f_bc9 a.d_bc9 ["road"] (dt (aA a K) D4 (KR (aA a K) .F) m_bc9):=by
 refine T.F_bc9.okX K3 (λ_ _ _ _=>aH) (λ_ _ _ _ _ _ _ _ b h=>?_)
 refine⟨_,(ae (bS (aB sy (pv 0) dY (aK _)) (ag (aS dY)) a7)
  (ag (aS (lC (qq K rfl) rfl T.z_list Gd.z7 (aa (pv 0) ac))))),?_⟩
 refine aN (Y:=aA a K) (M:=D4) (more:=ML) (body:=xi) ?_ rfl rfl (λ_ _ _=>c8) h
 exact(aq (dy (bg (bX (fx (aY GT (ux (fR 0)) (fx pN))))) (bA (bg pN)) bV)
  (bA (bg (oF (LU (cS (k':= .F) (rc (fR 0))))))))
theorem Ma(T:Txt K mg a base):FnOk P w K mg base (dR P w) 1 a.f_bl9 a.d_bl9 ["houses","count"] (dt (aA a K) DV (KR (aA a K) .F) m_bl9):=by
 obtain⟨b,g_SEAT⟩:=T.g_SEAT;refine T.F_bl9.okX KZ (λ_ _ _ _=>aH) (λ_ _ _ _ _ _ _ _ d h=>?_);refine⟨_,(ag (bS (PW.pt (qF (aB uO (lD (yd K rfl rfl) rfl T.z_min Gd.ik (aa (pv 0) ac) (sr (cG rfl g_SEAT (v:=.int 0) ⟨_,rfl⟩) wR)) ax (aK _)) (si (aB Jj (lD (ye K rfl rfl) rfl T.z_max Gd.je (aa (pv 0) ac) (sr (cG rfl g_SEAT (v:=.int 0) ⟨_,rfl⟩) wR)) (pv 1) (aK _))))) (ag (c9 eV rfl rfl T.mgC_NoHouse T.ek_NoHouse (aa bN ac))) a7)),?_⟩;refine aN (Y:=aA a K) (M:=DV) (more:=MA) (body:=w6) ?_ rfl rfl (λ_ _ _=>c8) h;exact(dy (bg (qI (bX (fx (aY Cu (fx (LQ (ux (fR 0)) (fx pI))) (fx pI)))) (bX (fx (aY Pb (fx (LR (ux (fR 0)) (fx pI))) (fx (fF 1))))))) (d8 (c:=11)) bV)
theorem qL(T:Txt K mg a base):FnOk P w K mg base (dR P w) 2 a.f_h9 a.d_h9 ["self","houses"] (dt (aA a K) JQ (KR (aA a K) .F) u5):=by
 refine T.F_h9.okX O3 (λ_ _ _ _=>aH) (λ_ _ _ _ _ _ _ _ b h=>?_);refine⟨_,(ag (aL (cq (Ma T) b.mm rfl T.m_bl9 T.F_bl9.kp T.b_bl9 .nil aZ (aa (pv 1) (aa (aw K rfl (pv 0) rfl) ac))))),?_⟩;refine aN (Y:=aA a K) (M:=JQ) (more:=Qw) (body:=Ey) ?_ rfl rfl (λ_ _ _=>c8) h;exact(a6 (bg (eU (ah (aU (fR 1)) (ah (aF (rS (k:= .X) (ux (dE (c:=0) T.cl_Guild T.n_house_count (rc (fR 0)))))) aR)) rfl)))
theorem FF:CompSc (am Cs) (Gd.nk (Gd.yu (Gd.nth (eC Cs) 0))) "road" []:=by ac_rfl
theorem Pr(T:Txt K mg a base):FnOk P w K mg base (dR P w) 2 a.f_w9 a.d_w9 ["self"] (dt (aA a K) JB (KO (aA a K) (.ct .fz)) MR):=by
 refine T.F_w9.okX OS (λ_ _ _ _=>aH) (λ_ _ _ _ _ _ _ _ b h=>?_);refine⟨_,(ag (aS (gR rfl (gD K rfl (aw K rfl (pv 0) rfl)) FF (ix:=[]) rfl (λ_ _ _ _=>kh) (λ_ _ _ _=>(cq (wV T) b.mm rfl T.m_bc9 T.F_bc9.kp T.b_bc9 .nil Dt (aa (pv 0) ac)))))),?_⟩;refine dF (Y:=aA a K) (M:=JB) (more:=Qh) (body:=Eh) ?_ rfl rfl h;exact(bA (bg (uN (ix:=[]) (xB (rc (dE (c:=1) T.cl_Post T.n_roads (rc (fR 0))))) (by decide) n6 (eU (ah (aU (fR 0)) aR) rfl))))
theorem FE:CompSc (am Cr) (Gd.nk (Gd.yu (Gd.nth (eC Cr) 0))) "pair" ["self"]:=by ac_rfl
theorem Jk(T:Txt K mg a base):FnOk P w K mg base (dR P w) 2 a.f_y9 a.d_y9 ["self"] (dt (aA a K) Jz (KO (aA a K) (.ct .fz)) Hv):=by
 refine T.F_y9.okX OQ (λ_ _ _ _=>aH) (λ_ _ _ _ _ _ _ _ b h=>?_);have d:=iw b;refine⟨_,(ag (aS (Hb (gR rfl (LG (aw K rfl (pv 0) rfl)) FE (ix:=[0]) rfl (λ_ _ _ _=>kh) (λ_ _ _ _=>(bH (aa (da (fq K rfl) (pv 0) ax (λ_ _=>rfl)) (aa (da (fq K rfl) (pv 0) ax (λ_ _=>rfl)) (aa (cq (wV T) b.mm rfl T.m_bc9 T.F_bc9.kp T.b_bc9 .nil Dt (aa (Hc d (aw K rfl (pv 1) rfl) (pv 0) (λ_ _=>rfl)) ac)) ac))))))))),?_⟩;refine dF (Y:=aA a K) (M:=Jz) (more:=Qf) (body:=Ef) ?_ rfl rfl h;exact(bA (bg (Hh (i:=0) (c:=1) (f := "letters") (ix:=[0]) T.cl_Post T.n_letters rfl (by decide) n6 (cc (af (kl (rc (fF 0)) (fx pI)) (af (kl (rc (fF 0)) (fx pI)) (af (eU (ah (aU (LX (rc (dE (c:=1) T.cl_Post T.n_letters (rc (fR 1)))) (fx (fF 0)))) aR) rfl) aD)))))))
theorem Mb(T:Txt K mg a base):FnOk P w K mg base (dR P w) 2 a.f_bk9 a.d_bk9 ["guild","house","road"] (dt (aA a K) DW (KR (aA a K) .F) m_bk9):=by
 obtain⟨b,g_SEAT⟩:=T.g_SEAT;refine T.F_bk9.okX K0 (λ_ _ _ _=>aH) (λ_ _ _ _ _ _ _ _ d h=>?_);have A6:=Mi.A6 d
 refine⟨_,(ae (bS (PW.pt (qF (aB sy (pv 2) dY (aK _)) (qF (aB cg (pv 1) (cG rfl g_SEAT (v:=.int 0) ⟨_,rfl⟩) (aK _)) (si (aB (yX K rfl A6) (pv 1) (pv 2) (by with_unfolding_all rfl)))))) (ag (aS kj)) a7)
  (ag (aS (LK (a8 (pv 0) T.cl_Guild T.me_k9 (Pz T) d.mm T.b_k9 .nil aZ (aa (pv 1) (aa (pv 2) ac))))))),?_⟩
 refine aN (Y:=aA a K) (M:=DW) (more:=MB) (body:=w8) ?_ rfl rfl (λ_ _ _=>c8) h
 exact(aq (dy (bg (qI (bX (fx (aY GT (ux (fR 2)) (fx pN)))) (qI (bX (fx (aY eF (fx (fF 1)) (fx pI)))) (bX (fx (aY I8 (fx (fF 1)) (ux (fR 2)))))))) (bA (bg pB)) bV)
  (bA (bg (Pm (fx (cV (c:=0) (aU (fR 0)) (ah (aF (fF 1)) (ah (aU (fR 2)) aR)) rfl))))))
theorem PH(T:Txt K mg a base):FnOk P w K mg base (dR P w) 3 a.f_e9 a.d_e9 ["self","a","b"] (dt (aA a K) JT (KR (aA a K) .F) M5):=by
 refine T.F_e9.okX O5 (λ_ _ _ _=>aH) (λ_ _ _ _ _ _ _ _ b h=>?_);have d:=iw b
 refine⟨_,(ae (aL (a8 (pv 0) T.cl_Guild T.me_h9 (qL T) b.mm T.b_h9 .nil aZ (aa (cK (aa (pv 1) (aa (pv 2) ac))) ac)))
  (ag (aS (Ds d (aw K rfl (pv 0) rfl) (bH (aa (pv 1) (aa (pv 2) ac))) ax ⟨rfl,rfl,rfl,rfl⟩)))),?_⟩
 refine aN (Y:=aA a K) (M:=JT) (more:=Qz) (body:=EB) ?_ rfl rfl (λ_ _ _=>c8) h
 exact(aq (a6 (bg (cV (c:=0) (aU (fR 0)) (ah (aF (oF (cf (af (fF 1) (af (fF 2) aD))))) aR) rfl)))
  (bA (bg (rS (k:= .X) (ux (Hg (rc (dE (c:=0) T.cl_Guild T.n_likings (rc (fR 0)))) (fx (cc (af (fF 1) (af (fF 2) aD)))) (fu pI)))))))
theorem PF(T:Txt K mg a base):FnOk P w K mg base (dR P w) 3 a.f_f9 a.d_f9 ["self","a"] (dt (aA a K) JS (KO (aA a K) (.ct .fz)) M4):=by
 refine T.F_f9.okX O4 (λ_ _ _ _=>aH) (λ_ _ _ _ _ _ _ _ b h=>?_)
 refine⟨_,(ae (aL (a8 (pv 0) T.cl_Guild T.me_h9 (qL T) b.mm T.b_h9 .nil aZ (aa (cK (aa (pv 1) ac)) ac)))
  (ag (aS (a8 (pv 0) T.cl_Guild T.me_b9 (PM T) b.mm T.b_b9 .nil aZ (aa (aw K rfl (pv 0) rfl) (aa (pv 1) ac)))))),?_⟩
 refine dF (Y:=aA a K) (M:=JS) (more:=Qy) (body:=EA) ?_ rfl rfl h
 exact(aq (a6 (bg (cV (c:=0) (aU (fR 0)) (ah (aF (oF (cf (af (fF 1) aD)))) aR) rfl)))
  (bA (bg (jj (c:=0) (aU (fR 0)) (ah (aU (dE (c:=0) T.cl_Guild T.n_ways (rc (fR 0)))) (ah (aF (fF 1)) aR)) rfl))))
theorem PB(T:Txt K mg a base):FnOk P w K mg base (dR P w) 3 a.f_i9 a.d_i9 ["self","road"] (dt (aA a K) JP (KR (aA a K) .F) M0):=by
 obtain⟨b,g_SEAT⟩:=T.g_SEAT;refine T.F_i9.okX O2 (λ_ _ _ _=>aH) (λ_ _ _ _ _ _ _ _ d h=>?_)
 refine⟨_,(ae (aL (a8 (pv 0) T.cl_Guild T.me_h9 (qL T) d.mm T.b_h9 .nil aZ (aa (pv 1) ac)))
  (ae (bS (aB uO (aP (bK K rfl) rfl T.z_len Gd.gv (aa (pv 1) ac)) ax (aK _)) (ag (c9 eV rfl rfl T.mgC_NoRoad T.ek_NoRoad (aa bN ac))) a7)
  (ae (bS (aB DC (da (cB K rfl) (pv 1) (Jf BK ax) (λ_ _=>rfl)) (cG rfl g_SEAT (v:=.int 0) ⟨_,rfl⟩) (aK _)) (ag (c9 eV rfl rfl T.mgC_NoRoad T.ek_NoRoad (aa bN ac))) a7)
  (ag (bS (aB DC (aP Bp rfl T.z_len Gd.gv (aa (lC (yb K rfl rfl) rfl T.z_set Gd.Oa (aa (pv 1) ac)) ac)) (aP (bK K rfl) rfl T.z_len Gd.gv (aa (pv 1) ac)) (aK _)) (ag (c9 eV rfl rfl T.mgC_NoRoad T.ek_NoRoad (aa bN ac))) a7))))),?_⟩
 refine aN (Y:=aA a K) (M:=JP) (more:=Qv) (body:=Ew) ?_ rfl rfl (λ_ _ _=>c8) h
 exact(aq (a6 (bg (cV (c:=0) (aU (fR 0)) (ah (aU (fR 1)) aR) rfl)))
  (aq (dy (bg (bX (fx (aY Cu (fx (ju j9 (ux (fR 1)))) (fx pI))))) (d8 (c:=14)) bV)
  (aq (dy (bg (bX (fx (aY Lf (ux (lZ (rc (fR 1)) (fx (LO IZ (fx pI))))) (fx pI))))) (d8 (c:=14)) bV)
  (dy (bg (bX (fx (aY Lf (fx (Dw (ux (fR 1)))) (fx (ju j9 (ux (fR 1)))))))) (d8 (c:=14)) bV))))
theorem Jo(T:Txt K mg a base):FnOk P w K mg base (dR P w) 3 a.f_j9 a.d_j9 ["self","a","b"] (dt (aA a K) JO (KR (aA a K) .F) HC):=by
 refine T.F_j9.okX O1 (λ_ _ _ _=>aH) (λ_ _ _ _ _ _ _ _ b h=>?_)
 refine⟨_,(ae (aL (a8 (pv 0) T.cl_Guild T.me_h9 (qL T) b.mm T.b_h9 .nil aZ (aa (cK (aa (pv 1) (aa (pv 2) ac))) ac)))
  (ag (bS (aB cg (pv 1) (pv 2) (aK _)) (ag (c9 eV rfl rfl T.mgC_NoHouse T.ek_NoHouse (aa bN ac))) a7))),?_⟩
 refine aN (Y:=aA a K) (M:=JO) (more:=Qu) (body:=Ev) ?_ rfl rfl (λ_ _ _=>c8) h
 exact(aq (a6 (bg (cV (c:=0) (aU (fR 0)) (ah (aF (oF (cf (af (fF 1) (af (fF 2) aD))))) aR) rfl)))
  (dy (bg (bX (fx (aY eF (fx (fF 1)) (fx (fF 2)))))) (d8 (c:=11)) bV))
theorem Py(T:Txt K mg a base):FnOk P w K mg base (dR P w) 3 a.f_m9 a.d_m9 ["self"] (dt (aA a K) JL (KO (aA a K) (.ob fA)) xu):=by
 refine T.F_m9.okX IV (λ_ _ _ _=>aH) (λ_ _ _ _ _ _ _ _ b h=>?_)
 refine⟨_,(ae (bG (i:=1) IV.nd rfl (Or.inl rfl) (ss T.mk_Guild (Jq T) b.mm rfl T.mgC_Guild T.b_a9 .nil aZ (aa (aw K rfl (pv 0) rfl) ac)))
  (ae (aL (lY Ua Vj Vk jl (aw K rfl (pv 1) rfl) (aa (aw K rfl (pv 0) rfl) ac)))
  (ae (aL (lY Ua Vj Vk jl (aw K rfl (pv 1) rfl) (aa (aw K rfl (pv 0) rfl) ac)))
  (ae (aL (lY Ua Vj Vk jl (aw K rfl (pv 1) rfl) (aa (aw K rfl (pv 0) rfl) ac)))
  (ae (aL (lY Ua Vj Vk jl (aw K rfl (pv 1) rfl) (aa (aw K rfl (pv 0) rfl) ac)))
  (ag (aS (pv 1)))))))),?_⟩
 refine dF (Y:=aA a K) (M:=JL) (more:=Qr) (body:=Es) ?_ rfl rfl h
 exact(aq (cj (i:=1) (bg (wQ (c:=0) (ah (aF (rS (k:= .X) (ux (dE (c:=0) T.cl_Guild T.n_house_count (rc (fR 0)))))) aR) rfl)) rfl rfl)
  (aq (a6 (kn (iM (c:=0) (i:=1) T.cl_Guild T.n_ways rfl rfl) (dE (c:=0) T.cl_Guild T.n_ways (rc (fR 0)))))
  (aq (a6 (kn (iM (c:=0) (i:=1) T.cl_Guild T.n_likings rfl rfl) (dE (c:=0) T.cl_Guild T.n_likings (rc (fR 0)))))
  (aq (a6 (kn (iM (c:=0) (i:=1) T.cl_Guild T.n_shuns rfl rfl) (dE (c:=0) T.cl_Guild T.n_shuns (rc (fR 0)))))
  (aq (a6 (kn (iM (c:=0) (i:=1) T.cl_Guild T.n_wish_ranks rfl rfl) (dE (c:=0) T.cl_Guild T.n_wish_ranks (rc (fR 0)))))
  (bA (Hz (i:=1) rfl)))))))
theorem Pq(T:Txt K mg a base):FnOk P w K mg base (dR P w) 3 a.f_x9 a.d_x9 ["self","a","b"] (dt (aA a K) JA (KR (aA a K) .F) MQ):=by
 refine T.F_x9.okX OR (λ_ _ _ _=>aH) (λ_ _ _ _ _ _ _ _ b h=>?_);have d:=iw b
 refine⟨_,(ae (aL (a8 (aw K rfl (pv 0) rfl) T.cl_Guild T.me_h9 (qL T) b.mm T.b_h9 .nil aZ (aa (cK (aa (pv 1) (aa (pv 2) ac))) ac)))
  (ag (aS (cq (wV T) b.mm rfl T.m_bc9 T.F_bc9.kp T.b_bc9 .nil aZ (aa (og d (aw K rfl (pv 0) rfl) (bH (aa (pv 1) (aa (pv 2) ac))) ⟨rfl,rfl,rfl,rfl⟩) ac))))),?_⟩
 refine aN (Y:=aA a K) (M:=JA) (more:=Qg) (body:=Eg) ?_ rfl rfl (λ_ _ _=>c8) h
 exact(aq (a6 (bg (cV (c:=0) (aU (dE (c:=1) T.cl_Post T.n_guild (rc (fR 0)))) (ah (aF (oF (cf (af (fF 1) (af (fF 2) aD))))) aR) rfl)))
  (bA (bg (eU (ah (aU (sx (rc (dE (c:=1) T.cl_Post T.n_told_last (rc (fR 0)))) (fx (cc (af (fF 1) (af (fF 2) aD)))))) aR) rfl))))
theorem Jp(T:Txt K mg a base):FnOk P w K mg base (dR P w) 4 a.f_c9 a.d_c9 ["self","a","b"] (dt (aA a K) JV (KR (aA a K) .F) HE):=by
 refine T.F_c9.okX O7 (λ_ _ _ _=>aH) (λ_ _ _ _ _ _ _ _ d h=>?_);have b:=iw d
 refine⟨_,(ae (aL (a8 (pv 0) T.cl_Guild T.me_j9 (Jo T) d.mm T.b_j9 .nil aZ (aa (pv 1) (aa (pv 2) ac))))
  (ae (bS (sk (wS b (bH (aa (pv 1) (aa (pv 2) ac))) (aw K rfl (pv 0) rfl))) (ag (c9 eV rfl rfl T.mgC_WayThere T.ek_WayThere (aa bN ac))) a7)
  (ae (ji b (aw K rfl (pv 0) rfl) (bH (aa (pv 1) (aa (pv 2) ac))) kj rfl)
  (ag (ji b (aw K rfl (pv 0) rfl) (bH (aa (pv 2) (aa (pv 1) ac))) kj rfl))))),?_⟩
 refine aN (Y:=aA a K) (M:=JV) (more:=QB) (body:=ED) ?_ rfl rfl (λ_ _ _=>c8) h
 exact(aq (a6 (bg (cV (c:=0) (aX (fO 0)) (ah (aF (fF 1)) (ah (aF (fF 2)) aR)) rfl)))
  (aq (dy (bg (wP (fx (Dy (fx (cc (af (fF 1) (af (fF 2) aD)))) (lE (c:=0) (i:=0) T.cl_Guild T.n_ways rfl rfl))))) (d8 (c:=13)) bV)
  (aq (lx (iM (c:=0) (i:=0) T.cl_Guild T.n_ways rfl rfl) (fx (cc (af (fF 1) (af (fF 2) aD)))) (bg pB))
  (lx (iM (c:=0) (i:=0) T.cl_Guild T.n_ways rfl rfl) (fx (cc (af (fF 2) (af (fF 1) aD)))) (bg pB)))))
theorem PL(T:Txt K mg a base):FnOk P w K mg base (dR P w) 4 a.f_d9 a.d_d9 ["self","a","b"] (dt (aA a K) JU (KR (aA a K) .F) M6):=by
 refine T.F_d9.okX O6 (λ_ _ _ _=>aH) (λ_ _ _ _ _ _ _ _ d h=>?_);have b:=iw d
 refine⟨_,(ae (aL (a8 (pv 0) T.cl_Guild T.me_j9 (Jo T) d.mm T.b_j9 .nil aZ (aa (pv 1) (aa (pv 2) ac))))
  (ae (bS (sk (qJ b (bH (aa (pv 1) (aa (pv 2) ac))) (aw K rfl (pv 0) rfl))) (ag (c9 eV rfl rfl T.mgC_NoWay T.ek_NoWay (aa bN ac))) a7)
  (ae (aL (n9 b (aw K rfl (pv 0) rfl) (bH (aa (pv 1) (aa (pv 2) ac))) ⟨rfl,rfl,rfl,rfl⟩))
  (ag (aL (n9 b (aw K rfl (pv 0) rfl) (bH (aa (pv 2) (aa (pv 1) ac))) ⟨rfl,rfl,rfl,rfl⟩)))))),?_⟩
 refine aN (Y:=aA a K) (M:=JU) (more:=QA) (body:=EC) ?_ rfl rfl (λ_ _ _=>c8) h
 exact(aq (a6 (bg (cV (c:=0) (aX (fO 0)) (ah (aF (fF 1)) (ah (aF (fF 2)) aR)) rfl)))
  (aq (dy (bg (wP (fx (Dx (fx (cc (af (fF 1) (af (fF 2) aD)))) (lE (c:=0) (i:=0) T.cl_Guild T.n_ways rfl rfl))))) (d8 (c:=12)) bV)
  (aq (a6 (xw (iM (c:=0) (i:=0) T.cl_Guild T.n_ways rfl rfl) (fx (cc (af (fF 1) (af (fF 2) aD))))))
  (a6 (xw (iM (c:=0) (i:=0) T.cl_Guild T.n_ways rfl rfl) (fx (cc (af (fF 2) (af (fF 1) aD)))))))))
theorem PD(T:Txt K mg a base):FnOk P w K mg base (dR P w) 4 a.f_g9 a.d_g9 ["self","road"] (dt (aA a K) JR (KR (aA a K) .F) M3):=by
 refine T.F_g9.okX IW (λ_ _ _ _=>aH) (λ_ _ _ _ _ _ _ _ b h=>?_);have d:=iw b
 refine⟨_,(ae (aL (a8 (pv 0) T.cl_Guild T.me_i9 (PB T) b.mm T.b_i9 .nil aZ (aa (pv 1) ac)))
  (ae (bG (i:=2) IW.nd rfl (Or.inl rfl) (og d (aw K rfl (pv 0) rfl) (lC (pZ K rfl) rfl T.z_tuple Gd.F6 (aa (pv 1) ac)) ⟨rfl,rfl,rfl,rfl⟩))
  (ae (bS (aB sy (pv 2) dY (aK _)) (ag (aS (a8 (pv 0) T.cl_Guild T.me_e9 (PH T) b.mm T.b_e9 .nil aZ (aa (da (cB K rfl) (pv 1) ax (λ_ _=>rfl)) (aa (da (cB K rfl) (pv 1) ax (λ_ _=>rfl)) ac))))) a7)
  (ag (aS (pv 2)))))),?_⟩
 refine aN (Y:=aA a K) (M:=JR) (more:=Qx) (body:=Ez) ?_ rfl rfl (λ_ _ _=>c8) h
 exact(aq (a6 (bg (cV (c:=0) (aU (fR 0)) (ah (aU (fR 1)) aR) rfl)))
  (aq (cC (i:=2) (bg (rS (k:= .X) (ux (sx (rc (dE (c:=0) T.cl_Guild T.n_wish_ranks (rc (fR 0)))) (fx (Hf (cS (k':= .F) (rc (fR 1))))))))) rfl rfl)
  (aq (dy (bg (bX (fx (aY GT (fx (fF 2)) (fx pN))))) (bA (bg (cV (c:=0) (aU (fR 0)) (ah (aF (rS (k:= .X) (ux (lZ (rc (fR 1)) (fx pI))))) (ah (aF (rS (k:= .X) (ux (lZ (rc (fR 1)) (fx pI))))) aR)) rfl))) bV)
  (bA (bg (fF 2))))))
theorem DM(T:Txt K mg a base):FnOk P w K mg base (dR P w) 4 a.f_ba9 a.d_ba9 ["self","writer"] (dt (aA a K) D6 (KR (aA a K) .F) ir):=by
 refine T.F_ba9.okX Cq (λ_ _ _ _=>aH) (λ_ _ _ _ _ _ _ _ b h=>?_);refine⟨_,(ag (lA wT rfl (gD K rfl (a8 (aw K rfl (pv 0) rfl) T.cl_Guild T.me_f9 (PF T) b.mm T.b_f9 .nil aZ (aa (pv 1) ac))) (fk (i:=2) Cq.nd rfl (Or.inl rfl)) (ag (aL (a8 (pv 0) T.cl_Post T.me_z9 (DG T) b.mm T.b_z9 .nil aZ (aa (pv 1) (aa (pv 2) ac))))))),?_⟩;refine aN (Y:=aA a K) (M:=D6) (more:=MN) (body:=xl) ?_ rfl rfl (λ_ _ _=>c8) h;exact(uC (bg (zi (oF (jj (c:=0) (aX (dE (c:=1) T.cl_Post T.n_guild (rc (fO 0)))) (ah (aF (fF 1)) aR) rfl)))) (.inl rfl) (KA (i:=2) rfl rfl) (a6 (cW (c:=1) (aO (i:=0)) (ah (aF (fF 1)) (ah (aF (fF 2)) aR)) ⟨rfl,trivial,trivial,trivial⟩ (by decide) (by decide))))
theorem Bk:CompSc (am yy) { kind:=.function,names:=[ (".0",.local),("b",.local),("a",.free),("post",.free)],isGenerator:=false,isCoroutine:=false,more:=[]:PySem.Scope } "b" ["a","post"]:=by ac_rfl
theorem DK(T:Txt K mg a base):FnOk P w K mg base (dR P w) 4 a.f_bi9 a.d_bi9 ["post","size"] (dt (aA a K) DY (KR (aA a K) .F) m_bi9):=by
 refine T.F_bi9.okX wG (λ_ _ _ _=>aH) (λ_ _ _ _ _ _ _ _ b h=>?_)
 refine⟨_,(ae (bG (i:=2) wG.nd rfl (Or.inl rfl) (cK ac))
  (ae (lA wT rfl (gC rfl T.z_range (aa (pv 1) ac)) (fk (i:=3) wG.nd rfl (Or.inr rfl)) (ag (aL (lY Vp VL VM jm (pv 2) (aa (gR rfl (gC rfl T.z_range (aa (pv 1) ac)) Bk (ix:=[3,0]) rfl (λ_ _ _ _=>kh) (λ_ _ _ _=>(a8 (pv 2) T.cl_Post T.me_x9 (Pq T) b.mm T.b_x9 .nil Dt (aa (pv 1) (aa (pv 0) ac))))) ac)))))
  (ag (aS (cK (aa (fG (pv 0) T.cl_Post T.me_w9 (Pr T) b.mm T.b_w9 .nil aZ) (aa (fG (pv 0) T.cl_Post T.me_y9 (Jk T) b.mm T.b_y9 .nil aZ) (aa (pv 2) ac)))))))),?_⟩
 refine aN (Y:=aA a K) (M:=DY) (more:=ME) (body:=xa) ?_ rfl rfl (λ_ _ _=>c8) h
 exact(aq (cj (i:=2) (bg (cf aD)) rfl rfl)
  (aq (uC (bg (E7 (fx (fF 1)))) (.inl rfl) (KA (i:=3) rfl rfl) (a6 (oN (G1 (i:=2) rfl) (oF (om (ix:=[3,0]) (E7 (fx (fF 1))) (by decide) n6 (cV (c:=1) (aU (fR 2)) (ah (aF (fF 1)) (ah (aF (fF 0)) aR)) rfl))))))
  (bA (MY (bg (oF (jj (c:=1) (aU (fR 0)) aR rfl))) (bg (oF (jj (c:=1) (aU (fR 0)) aR rfl))) (moF (Hz (i:=2) rfl))))))
theorem FG:CompSc (am Ct) (Gd.nk (Gd.yu (Gd.nth (eC Ct) 6))) "house" []:=by ac_rfl
theorem Px(T:Txt K mg a base):FnOk P w K mg base (dR P w) 5 a.f_n9 a.d_n9 ["self","guild"] (dt (aA a K) JK (KR (aA a K) .F) xt):=by
 obtain⟨b,g_SEAT⟩:=T.g_SEAT;refine T.F_n9.okX OY (λ_ _ _ _=>aH) (λ_ _ _ _ _ _ _ _ d h=>?_)
 refine⟨_,(ae (fE (pv 0) (fG (pv 1) T.cl_Guild T.me_m9 (Py T) d.mm T.b_m9 .nil aZ) rfl)
  (ae (fE (pv 0) (bQ LZ (cK (aa dY ac)) (fG (pv 1) T.cl_Guild T.me_l9 (Jn T) d.mm T.b_l9 .nil aZ)) rfl)
  (ae (Dm (cK (aa (cG rfl g_SEAT (v:=.int 0) ⟨_,rfl⟩) ac)) (Dp (aw K rfl (pv 0) rfl) (cG rfl g_SEAT (v:=.int 0) ⟨_,rfl⟩) uA))
  (ae (fE (pv 0) fH rfl)
  (ae (fE (pv 0) fH rfl)
  (ae (fE (pv 0) fH rfl)
  (ae (fE (pv 0) (gR rfl (gC rfl T.z_range (aa (fG (pv 1) T.cl_Guild T.me_l9 (Jn T) d.mm T.b_l9 .nil aZ) ac)) FG (ix:=[]) rfl (λ_ _ _ _=>kh) (λ_ _ _ _=>Dr)) rfl)
  (ag (aL (a8 (pv 0) T.cl_Post T.me_ba9 (DM T) d.mm T.b_ba9 .nil aZ (aa (cG rfl g_SEAT (v:=.int 0) ⟨_,rfl⟩) ac))))))))))),?_⟩
 refine aN (Y:=aA a K) (M:=JK) (more:=Qq) (body:=Er) ?_ rfl rfl (λ_ _ _=>c8) h
 exact(aq (gj (c:=1) (i:=0) T.cl_Post T.n_guild rfl rfl (bg (jj (c:=0) (aU (fR 1)) aR rfl)))
  (aq (gj (c:=1) (i:=0) T.cl_Post T.n_roads rfl rfl (bg (Pk (oc (cf (af pN aD))) (fx (cV (c:=0) (aU (fR 1)) aR rfl)))))
  (aq (Cw (iM (c:=1) (i:=0) T.cl_Post T.n_roads rfl rfl) (fx pI) (bg (oF (cf (af pI aD)))))
  (aq (gj (c:=1) (i:=0) T.cl_Post T.n_told_last rfl rfl (bg oj))
  (aq (gj (c:=1) (i:=0) T.cl_Post T.n_written_last rfl rfl (bg oj))
  (aq (gj (c:=1) (i:=0) T.cl_Post T.n_letters rfl rfl (bg oj))
  (aq (gj (c:=1) (i:=0) T.cl_Post T.n_standings rfl rfl (bg (Dz (ix:=[]) (E7 (fx (cV (c:=0) (aU (fR 1)) aR rfl))) (by decide) n6 Pn)))
  (a6 (cW (c:=1) (aO (i:=0)) (ah (aF pI) aR) ⟨rfl,trivial,trivial⟩ (by decide) (by decide))))))))))
theorem DH(T:Txt K mg a base):FnOk P w K mg base (dR P w) 5 a.f_q9 a.d_q9 ["self","house"] (dt (aA a K) JH (KR (aA a K) .F) EK):=by
 refine T.F_q9.okX IT (λ_ _ _ _=>aH) (λ_ _ _ _ _ _ _ _ d h=>?_);have b:=d.units
 refine⟨_,(ae (bG (i:=2) IT.nd rfl (Or.inl rfl) (cq (Mj T) d.mm rfl T.m_bb9 T.F_bb9.kp T.b_bb9 .nil aZ (aa (pv 1) (aa (uL rfl rfl T.z_list Gd.z7 (da (cB K rfl) (aw K rfl (pv 0) rfl) (pv 1) (λ_ _=>rfl))) ac))))
  (ae (bS (aB (sC K rfl b) (pv 2) (da (cB K rfl) (aw K rfl (pv 0) rfl) (pv 1) (λ_ _=>rfl)) (aK _)) (ag (aS kj)) a7)
  (ae (Dm (pv 2) (Dp (aw K rfl (pv 0) rfl) (pv 1) uA))
  (ae (aL (a8 (pv 0) T.cl_Post T.me_ba9 (DM T) d.mm T.b_ba9 .nil aZ (aa (pv 1) ac)))
  (ag (aS kj)))))),?_⟩
 refine aN (Y:=aA a K) (M:=JH) (more:=Qn) (body:=En) ?_ rfl rfl (λ_ _ _=>c8) h
 exact(aq (cC (i:=2) (bg (eU (ah (aF (fF 1)) (ah (aF (oF (LN (Pl (G5 (AD (c:=1) (AC (i:=0) rfl) T.cl_Post T.n_standings rfl) (sO (j:=1))))))) aR)) rfl)) rfl rfl)
  (aq (dy (bg (bX (fx (aY nX (fx (fF 2)) (fx (lZ (lE (c:=1) (i:=0) T.cl_Post T.n_roads rfl rfl) (fx (fF 1)))))))) (bA (bg pB)) bV)
  (aq (Cw (iM (c:=1) (i:=0) T.cl_Post T.n_roads rfl rfl) (fx (fF 1)) (bg (fF 2)))
  (aq (a6 (cW (c:=1) (aO (i:=0)) (ah (aF (fF 1)) aR) ⟨rfl,trivial,trivial⟩ (by decide) (by decide)))
  (bA (bg pB))))))
theorem Ps(T:Txt K mg a base):FnOk P w K mg base (dR P w) 5 a.f_v9 a.d_v9 ["self","a","b"] (dt (aA a K) JC (KR (aA a K) .F) MS):=by
 refine T.F_v9.okX OT (λ_ _ _ _=>aH) (λ_ _ _ _ _ _ _ _ b h=>?_)
 refine⟨_,(ae (aL (a8 (aw K rfl (pv 0) rfl) T.cl_Guild T.me_c9 (Jp T) b.mm T.b_c9 .nil aZ (aa (pv 1) (aa (pv 2) ac))))
  (ae (aL (a8 (pv 0) T.cl_Post T.me_z9 (DG T) b.mm T.b_z9 .nil aZ (aa (aP (d6 rfl) rfl T.z_min Gd.ik (aa (pv 1) (aa (pv 2) ac))) (aa (aP (d7 rfl) rfl T.z_max Gd.je (aa (pv 1) (aa (pv 2) ac))) ac))))
  (ag (aL (a8 (pv 0) T.cl_Post T.me_z9 (DG T) b.mm T.b_z9 .nil aZ (aa (aP (d7 rfl) rfl T.z_max Gd.je (aa (pv 1) (aa (pv 2) ac))) (aa (aP (d6 rfl) rfl T.z_min Gd.ik (aa (pv 1) (aa (pv 2) ac))) ac))))))),?_⟩
 refine aN (Y:=aA a K) (M:=JC) (more:=Qi) (body:=Ei) ?_ rfl rfl (λ_ _ _=>c8) h
 exact(aq (a6 (D8 (c:=0) (AD (c:=1) (AC (i:=0) rfl) T.cl_Post T.n_guild rfl) (ah (aF (fF 1)) (ah (aF (fF 2)) aR)) ⟨trivial,trivial,trivial⟩ rfl (by decide)))
  (aq (a6 (cW (c:=1) (aO (i:=0)) (ah (aF (f8 nT (fx (fF 1)) (fx (fF 2)))) (ah (aF (f8 nV (fx (fF 1)) (fx (fF 2)))) aR)) ⟨rfl,trivial,trivial,trivial⟩ (by decide) (by decide)))
  (a6 (cW (c:=1) (aO (i:=0)) (ah (aF (f8 nV (fx (fF 1)) (fx (fF 2)))) (ah (aF (f8 nT (fx (fF 1)) (fx (fF 2)))) aR)) ⟨rfl,trivial,trivial,trivial⟩ (by decide) (by decide)))))
theorem L9(T:Txt K mg a base):FnOk P w K mg base (dR P w) 5 a.f_bm9 a.d_bm9 ["guild","road"] (dt (aA a K) DU (KR (aA a K) .F) m_bm9):=by
 refine T.F_bm9.okX KY (λ_ _ _ _=>aH) (λ_ _ _ _ _ _ _ _ b h=>?_);refine⟨_,(ag (aS (bH (aa (Jf BK (a8 (pv 0) T.cl_Guild T.me_g9 (PD T) b.mm T.b_g9 .nil aZ (aa (pv 1) ac))) (aa (aP (bK K rfl) rfl T.z_len Gd.gv (aa (pv 1) ac)) (aa (pv 1) ac)))))),?_⟩;refine aN (Y:=aA a K) (M:=DU) (more:=Mz) (body:=wZ) ?_ rfl rfl (λ_ _ _=>c8) h;exact(bA (bg (cc (af (LO IZ (fx (cV (c:=0) (aU (fR 0)) (ah (aF (fF 1)) aR) rfl))) (af (ju j9 (fx (fF 1))) (af (fF 1) aD))))))
theorem Pv(T:Txt K mg a base):FnOk P w K mg base (dR P w) 6 a.f_r9 a.d_r9 ["self","a","b"] (dt (aA a K) JG (KR (aA a K) .F) MV):=by
 refine T.F_r9.okX OW (λ_ _ _ _=>aH) (λ_ _ _ _ _ _ _ _ b h=>?_)
 refine⟨_,(ae (aL (a8 (aw K rfl (pv 0) rfl) T.cl_Guild T.me_d9 (PL T) b.mm T.b_d9 .nil aZ (aa (pv 1) (aa (pv 2) ac))))
  (ae (aL (a8 (pv 0) T.cl_Post T.me_t9 (Jl T) b.mm T.b_t9 .nil aZ (aa (pv 1) (aa (pv 2) ac))))
  (ae (aL (a8 (pv 0) T.cl_Post T.me_t9 (Jl T) b.mm T.b_t9 .nil aZ (aa (pv 2) (aa (pv 1) ac))))
  (ae (aL (a8 (pv 0) T.cl_Post T.me_q9 (DH T) b.mm T.b_q9 .nil aZ (aa (aP (d6 rfl) rfl T.z_min Gd.ik (aa (pv 1) (aa (pv 2) ac))) ac)))
  (ag (aL (a8 (pv 0) T.cl_Post T.me_q9 (DH T) b.mm T.b_q9 .nil aZ (aa (aP (d7 rfl) rfl T.z_max Gd.je (aa (pv 1) (aa (pv 2) ac))) ac)))))))),?_⟩
 refine aN (Y:=aA a K) (M:=JG) (more:=Qm) (body:=Em) ?_ rfl rfl (λ_ _ _=>c8) h
 exact(aq (a6 (D8 (c:=0) (AD (c:=1) (AC (i:=0) rfl) T.cl_Post T.n_guild rfl) (ah (aF (fF 1)) (ah (aF (fF 2)) aR)) ⟨trivial,trivial,trivial⟩ rfl (by decide)))
  (aq (a6 (cW (c:=1) (aO (i:=0)) (ah (aF (fF 1)) (ah (aF (fF 2)) aR)) ⟨rfl,trivial,trivial,trivial⟩ (by decide) (by decide)))
  (aq (a6 (cW (c:=1) (aO (i:=0)) (ah (aF (fF 2)) (ah (aF (fF 1)) aR)) ⟨rfl,trivial,trivial,trivial⟩ (by decide) (by decide)))
  (aq (a6 (cW (c:=1) (aO (i:=0)) (ah (aF (f8 nT (fx (fF 1)) (fx (fF 2)))) aR) ⟨rfl,trivial,trivial⟩ (by decide) (by decide)))
  (a6 (cW (c:=1) (aO (i:=0)) (ah (aF (f8 nV (fx (fF 1)) (fx (fF 2)))) aR) ⟨rfl,trivial,trivial⟩ (by decide) (by decide)))))))
theorem Pt(T:Txt K mg a base):FnOk P w K mg base (dR P w) 6 a.f_u9 a.d_u9 ["self","writer","receiver","road"] (dt (aA a K) JD (KR (aA a K) .F) MT):=by
 refine T.F_u9.okX OU (λ_ _ _ _=>aH) (λ_ _ _ _ _ _ _ _ b h=>?_);have d:=iw b
 refine⟨_,(ae (ji d (aw K rfl (pv 0) rfl) (bH (aa (pv 1) (aa (pv 2) ac))) (pv 3) rfl)
  (ag (bS (wO (cq (Mb T) b.mm rfl T.m_bk9 T.F_bk9.kp T.b_bk9 .nil aZ (aa (aw K rfl (pv 0) rfl) (aa (pv 2) (aa (pv 3) ac))))) (ag (ji d (da (cB K rfl) (aw K rfl (pv 0) rfl) (pv 2) (λ_ _=>rfl)) (pv 1) (cq (L9 T) b.mm rfl T.m_bm9 T.F_bm9.kp T.b_bm9 .nil aZ (aa (aw K rfl (pv 0) rfl) (aa (bQ DF (cK (aa (pv 2) ac)) (pv 3)) ac))) rfl)) (ag (aL (uM (da (cB K rfl) (aw K rfl (pv 0) rfl) (pv 2) (λ_ _=>rfl)) (pv 1) dY ⟨rfl,rfl,rfl,rfl⟩)))))),?_⟩
 refine aN (Y:=aA a K) (M:=JD) (more:=Qj) (body:=Ej) ?_ rfl rfl (λ_ _ _=>c8) h
 exact(aq (lx (iM (c:=1) (i:=0) T.cl_Post T.n_told_last rfl rfl) (fx (cc (af (fF 1) (af (fF 2) aD)))) (bg (fF 3)))
  (dy (bg (wP (fx (eU (ah (aX (dE (c:=1) T.cl_Post T.n_guild (rc (fO 0)))) (ah (aF (fF 2)) (ah (aF (fF 3)) aR))) rfl)))) (lx (LB (G5 (AD (c:=1) (AC (i:=0) rfl) T.cl_Post T.n_standings rfl) (sO (j:=2)))) (fx (fF 1)) (bg (eU (ah (aX (dE (c:=1) T.cl_Post T.n_guild (rc (fO 0)))) (ah (aF (oF (oq (oc (cf (af (fF 2) aD))) (rc (fF 3))))) aR)) rfl))) (a6 (za (LB (G5 (AD (c:=1) (AC (i:=0) rfl) T.cl_Post T.n_standings rfl) (sO (j:=2)))) (fx (fF 1))))))
theorem Jm(T:Txt K mg a base):FnOk P w K mg base (dR P w) 7 a.f_o9 a.d_o9 ["self","a","b"] (dt (aA a K) JJ (KR (aA a K) .F) Hy):=by
 refine T.F_o9.okX OX (λ_ _ _ _=>aH) (λ_ _ _ _ _ _ _ _ b h=>?_);have d:=iw b
 refine⟨_,(ae (aL (a8 (aw K rfl (pv 0) rfl) T.cl_Guild T.me_h9 (qL T) b.mm T.b_h9 .nil aZ (aa (cK (aa (pv 1) (aa (pv 2) ac))) ac)))
  (ae (bS (sk (qJ d (bH (aa (pv 1) (aa (pv 2) ac))) (aw K rfl (pv 0) rfl))) (ag (c9 eV rfl rfl T.mgC_NoLetter T.ek_NoLetter (aa bN ac))) a7)
  (ae (aL (a8 (pv 0) T.cl_Post T.me_u9 (Pt T) b.mm T.b_u9 .nil aZ (aa (pv 1) (aa (pv 2) (aa (n9 d (aw K rfl (pv 0) rfl) (bH (aa (pv 1) (aa (pv 2) ac))) ⟨rfl,rfl,rfl,rfl⟩) ac)))))
  (ag (aS (a8 (pv 0) T.cl_Post T.me_q9 (DH T) b.mm T.b_q9 .nil aZ (aa (pv 2) ac))))))),?_⟩
 refine aN (Y:=aA a K) (M:=JJ) (more:=Qp) (body:=Ep) ?_ rfl rfl (λ_ _ _=>c8) h
 exact(aq (a6 (bg (cV (c:=0) (aX (dE (c:=1) T.cl_Post T.n_guild (rc (fO 0)))) (ah (aF (oF (cf (af (fF 1) (af (fF 2) aD))))) aR) rfl)))
  (aq (dy (bg (wP (fx (Dx (fx (cc (af (fF 1) (af (fF 2) aD)))) (lE (c:=1) (i:=0) T.cl_Post T.n_letters rfl rfl))))) (d8 (c:=15)) bV)
  (aq (a6 (MO (c:=1) (i:=0) (fF 1) (fF 2) (xw (iM (c:=1) (i:=0) T.cl_Post T.n_letters rfl rfl) (fx (cc (af (fF 1) (af (fF 2) aD))))) ⟨rfl,trivial,trivial,trivial,trivial⟩))
  (bA (cW (c:=1) (aO (i:=0)) (ah (aF (fF 2)) aR) ⟨rfl,trivial,trivial⟩ (by decide) (by decide))))))
theorem Pw(T:Txt K mg a base):FnOk P w K mg base (dR P w) 8 a.f_p9 a.d_p9 ["self"] (dt (aA a K) JI (KR (aA a K) .F) MW):=by
 refine T.F_p9.okX IU (λ_ _ _ _=>aH) (λ_ _ _ _ _ _ _ _ b h=>?_)
 refine⟨_,(ae (bG (i:=1) IU.nd rfl (Or.inl rfl) (fG (pv 0) T.cl_Post T.me_s9 (Pu T) b.mm T.b_s9 .nil aZ))
  (ag (aS (a8 (pv 0) T.cl_Post T.me_o9 (Jm T) b.mm T.b_o9 .nil aZ (aa (da (fq K rfl) (pv 1) ax (λ_ _=>rfl)) (aa (da (fq K rfl) (pv 1) ax (λ_ _=>rfl)) ac)))))),?_⟩
 refine aN (Y:=aA a K) (M:=JI) (more:=Qo) (body:=Eo) ?_ rfl rfl (λ_ _ _=>c8) h
 exact(aq (cC (i:=1) (bg (cV (c:=1) (aX (fO 0)) aR rfl)) rfl rfl)
  (bA (cW (c:=1) (aO (i:=0)) (ah (aF (kl (rc (fF 1)) (fx pI))) (ah (aF (kl (rc (fF 1)) (fx pI))) aR)) ⟨rfl,trivial,trivial,trivial⟩ (by decide) (by decide))))
theorem Mg(T:Txt K mg a base):FnOk P w K mg base (dR P w) 9 a.f_bf9 a.d_bf9 ["post","kind","a","b"] (dt (aA a K) D1 (KO (aA a K) (.ct .fz)) m_bf9):=by
 refine T.F_bf9.okX nR (λ_ _ _ _=>aH) (λ_ _ _ _ _ _ _ _ e h=>?_)
 refine⟨_,(ae (bG (i:=4) nR.nd rfl (Or.inl rfl) (cK ac))
  (ae (Dk (j:=5) (ok:=okL K [.ref a.C_NoHouse,.ref a.C_NoLetter,.ref a.C_NoWay,.ref a.C_WayThere,.type "ValueError"]) rfl rfl (BR (aB cg (pv 1) ax (aK _)) (nh (rX (pv 0) T.cl_Post T.me_o9 (Jm T) e.mm T.b_o9 .nil (aa (pv 2) (aa (pv 3) ac)) )) (BR (aB cg (pv 1) ax (aK _)) (nh (rX (pv 0) T.cl_Post T.me_r9 (Pv T) e.mm T.b_r9 .nil (aa (pv 2) (aa (pv 3) ac)) )) (BR (aB cg (pv 1) ax (aK _)) (nh (rX (pv 0) T.cl_Post T.me_v9 (Ps T) e.mm T.b_v9 .nil (aa (pv 2) (aa (pv 3) ac)) )) (nh (BQ (pv 0) T.cl_Post T.me_p9 (Pw T) e.mm T.b_p9 .nil ))))) rfl T.mgC_GuildError T.ek_GuildError nR.nd rfl rfl (Or.inl rfl) (λk f C d b=>(ae (bG (i:=4) nR.nd rfl (Or.inl rfl) (cK (aa (aP (jd (g:=.ref a.C_NoHouse) (c:=.ref a.C_NoHouse) d (λ_ h=>h) b.1 (b.kit 0 rfl)) rfl T.z_isinstance Gd.dh (aa (pv 5) (aa (cG rfl T.mgC_NoHouse (v:=.ref a.C_NoHouse) rfl) ac))) (aa (aP (jd (g:=.ref a.C_NoLetter) (c:=.ref a.C_NoLetter) d (λ_ h=>h) b.1 (b.kit 1 rfl)) rfl T.z_isinstance Gd.dh (aa (pv 5) (aa (cG rfl T.mgC_NoLetter (v:=.ref a.C_NoLetter) rfl) ac))) (aa (aP (jd (g:=.ref a.C_NoWay) (c:=.ref a.C_NoWay) d (λ_ h=>h) b.1 (b.kit 2 rfl)) rfl T.z_isinstance Gd.dh (aa (pv 5) (aa (cG rfl T.mgC_NoWay (v:=.ref a.C_NoWay) rfl) ac))) ac))))) (ag (bG (i:=4) nR.nd rfl (Or.inl rfl) (bQ DF (pv 4) (cK (aa (aP (jd (g:=.ref a.C_WayThere) (c:=.ref a.C_WayThere) d (λ_ h=>h) b.1 (b.kit 3 rfl)) rfl T.z_isinstance Gd.dh (aa (pv 5) (aa (cG rfl T.mgC_WayThere (v:=.ref a.C_WayThere) rfl) ac))) (aa (aP (jd (g:=.ty "ValueError") (c:=.type "ValueError") d (λ_ h=>h) b.1 (b.kit 4 rfl)) rfl T.z_isinstance Gd.dh (aa (pv 5) (aa (Hd rfl T.z_ValueError Gd.qr (v:=.ty "ValueError") rfl) ac))) ac)))))))))
  (ag (aS (pv 4))))),?_⟩
 refine dF (Y:=aA a K) (M:=D1) (more:=MH) (body:=xf) ?_ rfl rfl h
 exact(aq (cj (i:=4) (bg (cf aD)) rfl rfl)
  (aq (GR (g:=10) (l:=[10,11,12,13,14,15]) (Nr (λE=>(bg (bX (fx (aY eF (fx (fF 1)) (fx pI)))))) (sX λE=>(cW (c:=1) (aO (i:=0)) (ah (aF (fF 2)) (ah (aF (fF 3)) aR)) ⟨rfl,trivial,trivial,trivial⟩ (by decide) (by decide))) (Nr (λE=>(bg (bX (fx (aY eF (fx (fF 1)) (fx pI)))))) (sX λE=>(cW (c:=1) (aO (i:=0)) (ah (aF (fF 2)) (ah (aF (fF 3)) aR)) ⟨rfl,trivial,trivial,trivial⟩ (by decide) (by decide))) (Nr (λE=>(bg (bX (fx (aY eF (fx (fF 1)) (fx pI)))))) (sX λE=>(cW (c:=1) (aO (i:=0)) (ah (aF (fF 2)) (ah (aF (fF 3)) aR)) ⟨rfl,trivial,trivial,trivial⟩ (by decide) (by decide))) (sX λE=>(cW (c:=1) (aO (i:=0)) aR ⟨rfl,trivial⟩ (by decide) (by decide)))))) rfl (lM _ T.ek_GuildError T.sb_GuildError_GuildError ⟨T.xa_GuildError,(ar T.kt_GuildError_NoHouse (ar T.kt_GuildError_NoLetter (ar T.kt_GuildError_NoWay (ar T.kt_GuildError_WayThere (ar T.kt_GuildError_ValueError cD))))).1⟩ (aq (cj (i:=4) (bg (cf (af pB (af pB (af pB aD))))) rfl rfl) (cj (i:=4) (bg (oq (fC 4) (oc (cf (af pB (af pB aD)))))) rfl rfl)) (re (L:=[(.ref a.C_NoHouse,.ref a.C_NoHouse),(.ref a.C_NoLetter,.ref a.C_NoLetter),(.ref a.C_NoWay,.ref a.C_NoWay)]) (bl:=[false,false,false]) (L':=[(.ref a.C_WayThere,.ref a.C_WayThere),(.ty "ValueError",.type "ValueError")]) (bl':=[false,true]) (by decide) (ar T.kt_GuildError_NoHouse (ar T.kt_GuildError_NoLetter (ar T.kt_GuildError_NoWay cD))).2 (ar T.kt_GuildError_WayThere (ar T.kt_GuildError_ValueError cD)).2) (lM _ T.ek_NoHouse T.sb_NoHouse_GuildError ⟨T.xa_NoHouse,(ar T.kt_NoHouse_NoHouse (ar T.kt_NoHouse_NoLetter (ar T.kt_NoHouse_NoWay (ar T.kt_NoHouse_WayThere (ar T.kt_NoHouse_ValueError cD))))).1⟩ (aq (cj (i:=4) (bg (cf (af pB (af pB (af pB aD))))) rfl rfl) (cj (i:=4) (bg (oq (fC 4) (oc (cf (af pB (af pB aD)))))) rfl rfl)) (re (L:=[(.ref a.C_NoHouse,.ref a.C_NoHouse),(.ref a.C_NoLetter,.ref a.C_NoLetter),(.ref a.C_NoWay,.ref a.C_NoWay)]) (bl:=[true,false,false]) (L':=[(.ref a.C_WayThere,.ref a.C_WayThere),(.ty "ValueError",.type "ValueError")]) (bl':=[false,true]) (by decide) (ar T.kt_NoHouse_NoHouse (ar T.kt_NoHouse_NoLetter (ar T.kt_NoHouse_NoWay cD))).2 (ar T.kt_NoHouse_WayThere (ar T.kt_NoHouse_ValueError cD)).2) (lM _ T.ek_NoWay T.sb_NoWay_GuildError ⟨T.xa_NoWay,(ar T.kt_NoWay_NoHouse (ar T.kt_NoWay_NoLetter (ar T.kt_NoWay_NoWay (ar T.kt_NoWay_WayThere (ar T.kt_NoWay_ValueError cD))))).1⟩ (aq (cj (i:=4) (bg (cf (af pB (af pB (af pB aD))))) rfl rfl) (cj (i:=4) (bg (oq (fC 4) (oc (cf (af pB (af pB aD)))))) rfl rfl)) (re (L:=[(.ref a.C_NoHouse,.ref a.C_NoHouse),(.ref a.C_NoLetter,.ref a.C_NoLetter),(.ref a.C_NoWay,.ref a.C_NoWay)]) (bl:=[false,false,true]) (L':=[(.ref a.C_WayThere,.ref a.C_WayThere),(.ty "ValueError",.type "ValueError")]) (bl':=[false,true]) (by decide) (ar T.kt_NoWay_NoHouse (ar T.kt_NoWay_NoLetter (ar T.kt_NoWay_NoWay cD))).2 (ar T.kt_NoWay_WayThere (ar T.kt_NoWay_ValueError cD)).2) (lM _ T.ek_WayThere T.sb_WayThere_GuildError ⟨T.xa_WayThere,(ar T.kt_WayThere_NoHouse (ar T.kt_WayThere_NoLetter (ar T.kt_WayThere_NoWay (ar T.kt_WayThere_WayThere (ar T.kt_WayThere_ValueError cD))))).1⟩ (aq (cj (i:=4) (bg (cf (af pB (af pB (af pB aD))))) rfl rfl) (cj (i:=4) (bg (oq (fC 4) (oc (cf (af pB (af pB aD)))))) rfl rfl)) (re (L:=[(.ref a.C_NoHouse,.ref a.C_NoHouse),(.ref a.C_NoLetter,.ref a.C_NoLetter),(.ref a.C_NoWay,.ref a.C_NoWay)]) (bl:=[false,false,false]) (L':=[(.ref a.C_WayThere,.ref a.C_WayThere),(.ty "ValueError",.type "ValueError")]) (bl':=[true,true]) (by decide) (ar T.kt_WayThere_NoHouse (ar T.kt_WayThere_NoLetter (ar T.kt_WayThere_NoWay cD))).2 (ar T.kt_WayThere_WayThere (ar T.kt_WayThere_ValueError cD)).2) (lM _ T.ek_NoRoad T.sb_NoRoad_GuildError ⟨T.xa_NoRoad,(ar T.kt_NoRoad_NoHouse (ar T.kt_NoRoad_NoLetter (ar T.kt_NoRoad_NoWay (ar T.kt_NoRoad_WayThere (ar T.kt_NoRoad_ValueError cD))))).1⟩ (aq (cj (i:=4) (bg (cf (af pB (af pB (af pB aD))))) rfl rfl) (cj (i:=4) (bg (oq (fC 4) (oc (cf (af pB (af pB aD)))))) rfl rfl)) (re (L:=[(.ref a.C_NoHouse,.ref a.C_NoHouse),(.ref a.C_NoLetter,.ref a.C_NoLetter),(.ref a.C_NoWay,.ref a.C_NoWay)]) (bl:=[false,false,false]) (L':=[(.ref a.C_WayThere,.ref a.C_WayThere),(.ty "ValueError",.type "ValueError")]) (bl':=[false,true]) (by decide) (ar T.kt_NoRoad_NoHouse (ar T.kt_NoRoad_NoLetter (ar T.kt_NoRoad_NoWay cD))).2 (ar T.kt_NoRoad_WayThere (ar T.kt_NoRoad_ValueError cD)).2) (lM _ T.ek_NoLetter T.sb_NoLetter_GuildError ⟨T.xa_NoLetter,(ar T.kt_NoLetter_NoHouse (ar T.kt_NoLetter_NoLetter (ar T.kt_NoLetter_NoWay (ar T.kt_NoLetter_WayThere (ar T.kt_NoLetter_ValueError cD))))).1⟩ (aq (cj (i:=4) (bg (cf (af pB (af pB (af pB aD))))) rfl rfl) (cj (i:=4) (bg (oq (fC 4) (oc (cf (af pB (af pB aD)))))) rfl rfl)) (re (L:=[(.ref a.C_NoHouse,.ref a.C_NoHouse),(.ref a.C_NoLetter,.ref a.C_NoLetter),(.ref a.C_NoWay,.ref a.C_NoWay)]) (bl:=[false,true,false]) (L':=[(.ref a.C_WayThere,.ref a.C_WayThere),(.ty "ValueError",.type "ValueError")]) (bl':=[false,true]) (by decide) (ar T.kt_NoLetter_NoHouse (ar T.kt_NoLetter_NoLetter (ar T.kt_NoLetter_NoWay cD))).2 (ar T.kt_NoLetter_WayThere (ar T.kt_NoLetter_ValueError cD)).2) QV)))))))
  (bA (Hz (i:=4) rfl))))
theorem Mh(T:Txt K mg a base):FnOk P w K mg base (dR P w) 10 a.f_bd9 a.d_bd9 ["script"] (dt (aA a K) D3 (KR (aA a K) .F) m_bd9):=by
 refine T.F_bd9.okX cU (λ_ _ _ _=>aH) (λ_ _ _ _ _ _ _ _ b h=>?_);have d:=b.units;have Nn:=Mi.Nn b
 refine⟨_,(ae (bG (i:=1) cU.nd rfl (Or.inl rfl) (bQ jE ax (bQ fJ (cq (DL T) b.mm rfl T.m_be9 T.F_be9.kp T.b_be9 .nil aZ (aa (pv 0) (aa ax ac))) ax)))
  (ae (bG (i:=2) cU.nd rfl (Or.inl rfl) (cq (Mc T) b.mm rfl T.m_bj9 T.F_bj9.kp T.b_bj9 .nil aZ (aa (cq (DL T) b.mm rfl T.m_be9 T.F_be9.kp T.b_be9 .nil aZ (aa (pv 0) (aa ax ac))) (aa (pv 1) ac))))
  (ae (bG (i:=3) cU.nd rfl (Or.inl rfl) (ss T.mk_Guild (Jq T) b.mm rfl T.mgC_Guild T.b_a9 .nil aZ (aa (pv 1) ac)))
  (ae (lA wT rfl (gD K rfl (pv 2)) (LH rfl (uK (fk (i:=4) cU.nd rfl (Or.inl rfl)) (uK (fk (i:=5) cU.nd rfl (Or.inl rfl)) Ha))) (ag (aL (a8 (pv 3) T.cl_Guild T.me_c9 (Jp T) b.mm T.b_c9 .nil aZ (aa (pv 4) (aa (pv 5) ac))))))
  (ae (bG (i:=6) cU.nd rfl (Or.inl rfl) (ss T.mk_Post (Px T) b.mm rfl T.mgC_Post T.b_n9 .nil aZ (aa (pv 3) ac)))
  (ae (lA wT rfl (gD K rfl (Dq (Ch K rfl) (pv 0) (G6 ax) G7)) (fk (i:=7) cU.nd rfl (Or.inl rfl)) (ae (bG (i:=8) cU.nd rfl (Or.inl rfl) (bQ fJ (pv 7) ax))
  (ae (bG (i:=4) cU.nd rfl (Or.inl rfl) (bQ DB (bQ fJ (bQ jk (pv 7) ax) (bQ jE (pv 1) ax)) ax))
  (ae (bG (i:=5) cU.nd rfl (Or.inl rfl) (bQ DB (bQ fJ (bQ jk (bQ jk (pv 7) ax) (bQ jE (pv 1) ax)) (bQ jE (pv 1) ax)) ax))
  (ae (bG (i:=9) cU.nd rfl (Or.inl rfl) (cq (DK T) b.mm rfl T.m_bi9 T.F_bi9.kp T.b_bi9 .nil aZ (aa (pv 6) (aa (pv 1) ac))))
  (ae (bG (i:=10) cU.nd rfl (Or.inl rfl) (fG (pv 6) T.cl_Post T.me_y9 (Jk T) b.mm T.b_y9 .nil aZ))
  (ae (bS (PW.pt (gk (aB cg (pv 8) ax (aK _)) (gk (aB cg (bQ fJ (bQ jk (pv 7) ax) ax) ax (aK _)) (fi (aB DE (aP (bK K rfl) rfl T.z_len Gd.gv (aa (pv 10) ac)) ax (aK _)))))) (ae (bG (i:=4) cU.nd rfl (Or.inl rfl) (da (fq K rfl) (da (cB K rfl) (pv 10) (bQ fJ (bQ jk (pv 7) ax) (aP (bK K rfl) rfl T.z_len Gd.gv (aa (pv 10) ac))) (λ_ _=>rfl)) ax (λ_ _=>rfl)))
  (ag (bG (i:=5) cU.nd rfl (Or.inl rfl) (da (fq K rfl) (da (cB K rfl) (pv 10) (bQ fJ (bQ jk (pv 7) ax) (aP (bK K rfl) rfl T.z_len Gd.gv (aa (pv 10) ac))) (λ_ _=>rfl)) ax (λ_ _=>rfl))))) a7)
  (ae (bG (i:=11) cU.nd rfl (Or.inl rfl) (cq (Mf T) b.mm rfl T.m_bg9 T.F_bg9.kp T.b_bg9 .nil aZ (aa (pv 10) (aa (pv 2) (aa (pv 1) (aa (pv 8) (aa (pv 4) (aa (pv 5) ac))))))))
  (ae (bS (aB (yW K rfl d) (cq (Mg T) b.mm rfl T.m_bf9 T.F_bf9.kp T.b_bf9 .nil aZ (aa (pv 6) (aa (pv 8) (aa (pv 4) (aa (pv 5) ac))))) (cq (Me T) b.mm rfl T.m_bh9 T.F_bh9.kp T.b_bh9 .nil aZ (aa (pv 11) ac)) (aK _)) (ag (aS kj)) a7)
  (ae (bS (PW.pt (gk (aB cg (pv 11) bN (aK _)) (fi (aB cg (pv 8) ax (aK _))))) (ag (aL (lY Vp Wn PySem.F.type_list_remove (AN Nn) (pv 2) (aa (bH (aa (aP (d6 rfl) rfl T.z_min Gd.ik (aa (pv 4) (aa (pv 5) ac))) (aa (aP (d7 rfl) rfl T.z_max Gd.je (aa (pv 4) (aa (pv 5) ac))) ac))) ac)))) a7)
  (ae (bS (PW.pt (gk (aB cg (pv 11) bN (aK _)) (fi (aB cg (pv 8) ax (aK _))))) (ag (aL (lY Vp VL VM jm (pv 2) (aa (bH (aa (aP (d6 rfl) rfl T.z_min Gd.ik (aa (pv 4) (aa (pv 5) ac))) (aa (aP (d7 rfl) rfl T.z_max Gd.je (aa (pv 4) (aa (pv 5) ac))) ac))) ac)))) a7)
  (ag (bS (PW.pt (gk (aB DC (pv 11) bN (aK _)) (fi (aB (yW K rfl d) (cq (DK T) b.mm rfl T.m_bi9 T.F_bi9.kp T.b_bi9 .nil aZ (aa (pv 6) (aa (pv 1) ac))) (pv 9) (aK _))))) (ag (aS kj)) a7)))))))))))))
  (ag (aS kj)))))))),?_⟩
 refine aN (Y:=aA a K) (M:=D3) (more:=MK) (body:=xh) ?_ rfl rfl (λ_ _ _=>c8) h
 exact(aq (cC (i:=1) (bg (aY nY (fx pI) (fx (aY iJ (fx (eU (ah (aU (fR 0)) (ah (aF pI) aR)) rfl)) (fx pI))))) rfl rfl)
  (aq (cj (i:=2) (bg (yV (ah (aF (eU (ah (aU (fR 0)) (ah (aF pI) aR)) rfl)) (ah (aF (fF 1)) aR)) rfl)) rfl rfl)
  (aq (cj (i:=3) (bg (wQ (c:=0) (ah (aF (fF 1)) aR) rfl)) rfl rfl)
  (aq (Ln (i:=2) rfl (tg2 (KA (i:=4) rfl rfl) (KA (i:=5) rfl rfl)) (a6 (cW (c:=0) (aO (i:=3)) (ah (aF (fF 4)) (ah (aF (fF 5)) aR)) ⟨rfl,trivial,trivial,trivial⟩ (by decide) (by decide))))
  (aq (cj (i:=6) (bg (wQ (c:=1) (ah (aX (fO 3)) aR) rfl)) rfl rfl)
  (aq (uC (bg (zi (oF (LW (cS (k':= .F) (rc (fR 0))) (fx pI))))) (.inl rfl) (KA (i:=7) rfl rfl) (aq (cC (i:=8) (bg (aY iJ (fx (fF 7)) (fx pI))) rfl rfl)
  (aq (cC (i:=4) (bg (aY IX (fx (aY iJ (fx (aY lw (fx (fF 7)) (fx pI))) (fx (aY nY (fx (fF 1)) (fx pI))))) (fx pI))) rfl rfl)
  (aq (cC (i:=5) (bg (aY IX (fx (aY iJ (fx (aY lw (fx (aY lw (fx (fF 7)) (fx pI))) (fx (aY nY (fx (fF 1)) (fx pI))))) (fx (aY nY (fx (fF 1)) (fx pI))))) (fx pI))) rfl rfl)
  (aq (cC (i:=9) (bg (eU (ah (aX (fO 6)) (ah (aF (fF 1)) aR)) rfl)) rfl rfl)
  (aq (cC (i:=10) (bg (oF (jj (c:=1) (aX (fO 6)) aR rfl))) rfl rfl)
  (aq (dy (bg (gm (bX (fx (aY eF (fx (fF 8)) (fx pI)))) (gm (bX (fx (aY eF (fx (aY iJ (fx (aY lw (fx (fF 7)) (fx pI))) (fx pI))) (fx pI)))) (bX (fx (aY Ll (fx (ju j9 (fx (fF 10)))) (fx pI))))))) (aq (cC (i:=4) (bg (kl (rc (lZ (rc (fF 10)) (fx (aY iJ (fx (aY lw (fx (fF 7)) (fx pI))) (fx (ju j9 (fx (fF 10)))))))) (fx pI))) rfl rfl)
  (cC (i:=5) (bg (kl (rc (lZ (rc (fF 10)) (fx (aY iJ (fx (aY lw (fx (fF 7)) (fx pI))) (fx (ju j9 (fx (fF 10)))))))) (fx pI))) rfl rfl)) bV)
  (aq (cC (i:=11) (bg (eU (ah (aF (fF 10)) (ah (aX (cx (fC 2))) (ah (aF (fF 1)) (ah (aF (fF 8)) (ah (aF (fF 4)) (ah (aF (fF 5)) aR)))))) rfl)) rfl rfl)
  (aq (dy (SL (mux (mfu (SU nX (moF (Ht (ah (aO (i:=6)) (ah (aF (fF 8)) (ah (aF (fF 4)) (ah (aF (fF 5)) aR)))) ⟨rfl,trivial,trivial,trivial,trivial⟩ (by decide) (by decide))) (bg (fx (oF (yV (ah (aF (fF 11)) aR) rfl)))))))) (bA (bg pB)) bV)
  (aq (dy (bg (gm (bX (fx (aY eF (fx (fF 11)) (fx pS)))) (bX (fx (aY eF (fx (fF 8)) (fx pI)))))) (a6 (EI (G1 (i:=2) rfl) (fx (cc (af (f8 nT (fx (fF 4)) (fx (fF 5))) (af (f8 nV (fx (fF 4)) (fx (fF 5))) aD)))))) bV)
  (aq (dy (bg (gm (bX (fx (aY eF (fx (fF 11)) (fx pS)))) (bX (fx (aY eF (fx (fF 8)) (fx pI)))))) (a6 (oN (G1 (i:=2) rfl) (cc (af (f8 nT (fx (fF 4)) (fx (fF 5))) (af (f8 nV (fx (fF 4)) (fx (fF 5))) aD))))) bV)
  (dy (bg (gm (bX (fx (aY Lf (fx (fF 11)) (fx pS)))) (bX (fx (aY nX (fx (eU (ah (aX (fO 6)) (ah (aF (fF 1)) aR)) rfl)) (fx (fF 9))))))) (bA (bg pB)) bV))))))))))))
  (bA (bg pB))))))))
end K11
namespace K11
open PySem L2 Mi Cl
noncomputable section
structure GΩ where
 hω:Int
 U:(DI Bool)
 lω:(DI Int)
 sω:(DI Bool)
 wω:(DI Int)
def au:GΩ->D:=λg=>.obj 0 ["house_count","ways","likings","shuns","wish_ranks"] [D.int g.hω,(bR D.bl) g.U,(bR D.int) g.lω,(bR D.bl) g.sω,(bR D.int) g.wω]
structure PostT where
 guild:GΩ
 roads:(List (Option (List Int)))
 told_last:(DI (Option (List Int)))
 written_last:(DI (Option (List Int)))
 letters:(DI (Option (List Int)))
 standings:(List (DJ (Int×Int×(List Int))))
def bp:PostT->D:=λg=>.obj 1 ["guild","roads","told_last","written_last","letters","standings"] [au g.guild,(eL (eO (eL D.int))) g.roads,(bR (eO (eL D.int))) g.told_last,(bR (eO (eL D.int))) g.written_last,(bR (eO (eL D.int))) g.letters,(eL (lO (rA D.int D.int (eL D.int)))) g.standings]
theorem bY(g:GΩ):SimR D.int (bL 0 "house_count" (au g)) (.ok g.hω):=rfl
theorem eh(g:GΩ):SimR (bR D.bl) (bL 0 "ways" (au g)) (.ok g.U):=rfl
theorem gE(g:GΩ):SimR (bR D.int) (bL 0 "likings" (au g)) (.ok g.lω):=rfl
theorem iP(g:GΩ):SimR (bR D.bl) (bL 0 "shuns" (au g)) (.ok g.sω):=rfl
theorem fb(g:GΩ):SimR (bR D.int) (bL 0 "wish_ranks" (au g)) (.ok g.wω):=rfl
theorem db(g:PostT):SimR au (bL 1 "guild" (bp g)) (.ok g.guild):=rfl
theorem gp(g:PostT):SimR (eL (eO (eL D.int))) (bL 1 "roads" (bp g)) (.ok g.roads):=rfl
theorem wW(g:PostT):SimR (bR (eO (eL D.int))) (bL 1 "told_last" (bp g)) (.ok g.told_last):=rfl
theorem iO(g:PostT):SimR (bR (eO (eL D.int))) (bL 1 "written_last" (bp g)) (.ok g.written_last):=rfl
theorem eZ(g:PostT):SimR (bR (eO (eL D.int))) (bL 1 "letters" (bp g)) (.ok g.letters):=rfl
def mk_Guild(a:Int):Res GΩ:=if 1<=a/\a<=60 then .ok ⟨a,[],[],[],[]⟩ else .exc 11
theorem jw(a:Int):SimR au (fL 0 u6 [.int a]) (mk_Guild a):=by
 unfold mk_Guild;by_cases h:1<=a/\a<=60
 · rw[Tq h];have b:¬ a<1:=by omega
   have c:¬ 60<a:=by omega
   show fL 0 u6 [.int a]=_;unfold fL u6 Mi.run;rw[u3];simp[az,gx,aV,BE,di,bn,aW,rg,Gs,b,c,bM,cL,lX,cF,yx,bv];rfl
 · rw[if_neg h];show fL 0 u6 [.int a]=.exc 11;unfold fL u6 Mi.run;rw[u3];by_cases b:a<1
   ·simp[az,gx,aV,BE,di,bn,aW,rg,Gs,b,dC]
   · have c:60<a:=by omega
     simp[az,gx,aV,BE,di,bn,aW,rg,Gs,b,c,dC]
structure S_b9 where
 voq:GΩ
 vhq:(DI Bool)
 v0q:Int
def De:S_b9->L4:=λs=>[some (au s.voq),some ((bR D.bl) s.vhq),some (D.int s.v0q)]
abbrev R7:=S_b9->FlC S_b9 (List Int)
def zU:R7:=bW (bB (fW (bF (mU 0) (bF (λg=>.ok g.hω) (pC (·.voq)))) (bx (vt false) (bF cN (gw (pC λp=>p.2.v0q) (pC λp=>p.1))) (pC λp=>p.2.vhq)) (pC λp=>p.1)))
def F4:R7:=zU
def IG(b:GΩ)(a:DI Bool)(c:Int):OutC S_b9 (List Int):=b7 none (F4 ⟨b,a,c⟩)
theorem Rz:Cl.TJ De (eL D.int) EE F4:=aT (ai (jr (nu (bq bY xp)) (aJ (ak (uQ false) (cH bP (br xp xp)) xp)) xp))
theorem RS(b:GΩ)(a:DI Bool)(c:Int):SimO De (eL D.int) (M8 [au b,(bR D.bl) a,D.int c]) (IG b a c):=iY Rz rfl
structure S_k9 where
 voq:GΩ
 v0q:Int
 vaq:(List Int)
def C4:S_k9->L4:=λs=>[some (au s.voq),some (D.int s.v0q),some ((eL D.int) s.vaq)]
abbrev R5:=S_k9->FlC S_k9 Bool
def zH:R5:=bW (bB (bF RW (fW (pC (·.vaq)) (λ_=>.ok true) (bx (vt false) (bF cN (gw (pC λp=>p.2.v0q) (pC λp=>p.1))) (bF (λg=>.ok g.sω) (pC λp=>p.2.voq))))))
def FY:R5:=zH
def IB(b:GΩ)(c:Int)(a:List Int):OutC S_k9 Bool:=b7 none (FY ⟨b,c,a⟩)
theorem Rq:Cl.TJ C4 D.bl Eu FY:=aT (ai (bq P5 (jr (kL xp) sZ (ak (uQ false) (cH bP (br xp (g8 (λ_=>rfl) xp))) (bq iP xp)))))
theorem RL(b:GΩ)(c:Int)(a:List Int):SimO C4 D.bl (MZ [au b,D.int c,(eL D.int) a]) (IB b c a):=dM Rq rfl
structure S_l9 where
 voq:GΩ
def wK:S_l9->L4:=λs=>[some (au s.voq)]
abbrev R0:=S_l9->FlC S_l9 Int
def Ii:R0:=bW (bB (bF (λg=>.ok g.hω) (pC (·.voq))))
def Kq:R0:=Ii
def Tn(a:GΩ):OutC S_l9 Int:=b7 none (Kq ⟨a⟩)
theorem Ro:Cl.TJ wK D.int Et Kq:=aT (ai (g8 (λ_=>rfl) (bq bY xp)))
theorem RK(a:GΩ):SimO wK D.int (oK [au a]) (Tn a):=dM Ro rfl
structure S_s9 where
 voq:PostT
 vgq:Option (List Int)
def CY:S_s9->L4:=λs=>[some (bp s.voq),s.vgq.map (pw D.int)]
abbrev Oi:=S_s9->FlC S_s9 (List Int)
def tN:Oi:=xE (λs=>s.voq.letters) (λk s=>{s with vgq:=some k})
def zB:Oi:=cJ 15
def zY:Oi:=aI tN
 zB
def BC(a:PostT):OutC S_s9 (List Int):=b7 none (zY ⟨a,none⟩)
theorem Ri:Cl.TJ CY (pw D.int) El zY:=aj (BP (λs=>⟨_,rfl,rfl⟩) (λ_=>(by decide:1<2)) (λ_ _=>rfl))
 dH
theorem RF(a:PostT):SimO CY (pw D.int) (MU [bp a]) (BC a):=dM Ri rfl
structure S_t9 where
 voq:PostT
 vuq:Int
 vjq:Int
def CW:S_t9->L4:=λs=>[some (bp s.voq),some (D.int s.vuq),some (D.int s.vjq)]
abbrev F8:=S_t9->FlC S_t9 Unit
def tM:F8:=a9 (jC (λs=>some s.voq.letters) (λs y=>{s with voq:={s.voq with letters:=y}}) (bF cN (gw (pC (·.vuq)) (pC (·.vjq)))))
def tL:F8:=a9 (jC (λs=>some s.voq.told_last) (λs y=>{s with voq:={s.voq with told_last:=y}}) (bF cN (gw (pC (·.vuq)) (pC (·.vjq)))))
def tK:F8:=a9 (jC (λs=>some s.voq.written_last) (λs y=>{s with voq:={s.voq with written_last:=y}}) (bF cN (gw (pC (·.vuq)) (pC (·.vjq)))))
def tJ:F8:=a9 (qY (gI (λs=>some s.voq.standings) (λs=>some s.vjq)) (pI (λs=>some s.voq.standings) (λs y=>{s with voq:={s.voq with standings:=y}}) (λs=>some s.vjq)) (pC (·.vuq)))
def FV:F8:=aI tM
 (aI tL
 (aI tK
 tJ))
def Gh(c:PostT)(b:Int)(a:Int):OutC S_t9 Unit:=b7 (some ()) (FV ⟨c,b,a⟩)
theorem Rh:Cl.TJ CW eN Ek FV:=aj (aG (oE (λ_=>rfl) (λ_ _=>rfl) (cH bP (br xp xp))))
 (aj (aG (oE (λ_=>rfl) (λ_ _=>rfl) (cH bP (br xp xp))))
 (aj (aG (oE (λ_=>rfl) (λ_ _=>rfl) (cH bP (br xp xp))))
 (aG (y0 (Sw (λ_=>rfl) (oY (λ_=>rfl))) (SZ (λ_=>rfl) (λ_ _=>rfl) (oY (λ_=>rfl))) xp))))
theorem Kl(c:PostT)(b:Int)(a:Int):SimO CW eN (Hw [bp c,D.int b,D.int a]) (Gh c b a):=fT (d:=()) rfl Rh rfl
structure S_z9 where
 voq:PostT
 vuq:Int
 vjq:Int
 vkq:Option (Option (List Int))
def CP:S_z9->L4:=λs=>[some (bp s.voq),some (D.int s.vuq),some (D.int s.vjq),s.vkq.map (eO (eL D.int))]
abbrev Bu:=S_z9->FlC S_z9 Unit
def tD:Bu:=dI (λa s=>{s with vkq:=some a}) (bB (bx sP (bF (λg=>.ok g.roads) (pC (·.voq))) (pC (·.vuq))))
def mB:Bu:=Jc ()
def tz:Bu:=iW (bB (bx (gQ false) (bx Fx (bF (λg=>.ok g.written_last) (pC (·.voq))) (bF cN (gw (pC (·.vuq)) (pC (·.vjq))))) (vC (·.vkq))))
 mB
 bU
def zv:Bu:=rE (λs=>some s.voq.written_last) (λs y=>{s with voq:={s.voq with written_last:=y}}) (bF cN (gw (pC (·.vuq)) (pC (·.vjq)))) (bB (vC (·.vkq)))
def zu:Bu:=rE (λs=>some s.voq.letters) (λs y=>{s with voq:={s.voq with letters:=y}}) (bF cN (gw (pC (·.vuq)) (pC (·.vjq)))) (bB (vC (·.vkq)))
def FP:Bu:=aI tD
 (aI tz
 (aI zv
 zu))
def BA(c:PostT)(b:Int)(a:Int):OutC S_z9 Unit:=b7 (some ()) (FP ⟨c,b,a,none⟩)
theorem Q9:Cl.TJ CP eN Ee FP:=aj (xs (ai (ak oy (bq gp xp) xp)))
 (aj (bO (ai (aJ (ak (uP (vB (i4 gi) (i3 _)) (by decide) false) (vn (bq iO xp) (cH bP (br xp xp))) xv)))
 (Gu rfl)
 ba)
 (aj (j8 (λ_=>rfl) (λ_ _=>rfl) (cH bP (br xp xp)) (ai xv))
 (j8 (λ_=>rfl) (λ_ _=>rfl) (cH bP (br xp xp)) (ai xv))))
theorem FK(c:PostT)(b:Int)(a:Int):SimO CP eN (EH [bp c,D.int b,D.int a]) (BA c b a):=fT (d:=()) rfl Q9 rfl
structure S_be9 where
 vlq:(List Int)
 vbq:Int
def yM:S_be9->L4:=λs=>[some (eS s.vlq),some (D.int s.vbq)]
abbrev Ae:=S_be9->FlC S_be9 Int
def la:Ae:=bW (bB (bx sP (pC (·.vlq)) (pC (·.vbq))))
def vU:Ae:=iW (bB (bx QK (pC (·.vbq)) (bF oU (pC (·.vlq)))))
 la
 bU
def vT:Ae:=bW (bB (kC (0:Int)))
def xY:Ae:=aI vU
 vT
def rR(a:List Int)(b:Int):OutC S_be9 Int:=b7 none (xY ⟨a,b⟩)
theorem NP:Cl.TJ yM D.int xg xY:=aj (bO (ai (aJ (ak Hj xp (bq Mq xp))))
 (aT (ai (g8 (λ_=>rfl) (ak PX xp xp))))
 ba)
 (aT (ai xk))
theorem FN(a:List Int)(b:Int):SimO yM D.int (m_be9 [eS a,D.int b]) (rR a b):=dM NP rfl
structure S_bg9 where
 vdq:(List (Int×Int×(Option (List Int))))
 vsq:L3
 vpq:Int
 vcq:Int
 v0q:Int
 v1q:Int
 vrq:Option Bool
def yL:S_bg9->L4:=λs=>[some ((eL (rA D.int D.int (eO (eL D.int)))) s.vdq),some ((eL (Ia D.int D.int)) s.vsq),some (D.int s.vpq),some (D.int s.vcq),some (D.int s.v0q),some (D.int s.v1q),s.vrq.map D.bl]
abbrev fY:=S_bg9->FlC S_bg9 Str
def k8:fY:=bW (bB (kC ("letter" : Str)))
def i8:fY:=iW (bB (p5 (bx (gQ false) (pC (·.vcq)) (kC (3:Int))) (bx (gQ false) (bF oU (pC (·.vdq))) (kC (0:Int)))))
 k8
 bU
def k6:fY:=bW (bB (kC ("done" : Str)))
def k7:fY:=iW (bB (bx (gQ false) (pC (·.vcq)) (kC (3:Int))))
 k6
 bU
def kZ:fY:=bW (bB (kC ("house" : Str)))
def gO:fY:=iW (bB (Ou (bx QK (bx uX (pC (·.v0q)) (pC (·.v1q))) (kC (0:Int))) (Ou (bx S3 (bx u4 (pC (·.v0q)) (pC (·.v1q))) (pC (·.vpq))) (p5 (bx S0 (pC (·.vcq)) (kC (0:Int))) (bx (gQ false) (pC (·.v0q)) (pC (·.v1q)))))))
 kZ
 bU
def kY:fY:=bW (bB (kC ("letter" : Str)))
def gN:fY:=iW (bB (p5 (bx (gQ false) (pC (·.vcq)) (kC (0:Int))) (bx (gQ false) (bF oU (fW (pC (·.vdq)) (bx (gQ false) (gw (bF Bb (pC λp=>p.1)) (bF qO (pC λp=>p.1))) (gw (pC λp=>p.2.v0q) (pC λp=>p.2.v1q))) (pC λp=>p.1))) (kC (0:Int)))))
 kY
 bU
def pM:fY:=dI (λa s=>{s with vrq:=some a}) (bB (bx (SX false) (gw (bx uX (pC (·.v0q)) (pC (·.v1q))) (bx u4 (pC (·.v0q)) (pC (·.v1q)))) (pC (·.vsq))))
def kX:fY:=bW (bB (kC ("way" : Str)))
def i7:fY:=iW (bB (p5 (bx (gQ false) (pC (·.vcq)) (kC (1:Int))) (bF Hn (vC (·.vrq)))))
 kX
 bU
def kU:fY:=bW (bB (kC ("there" : Str)))
def kW:fY:=iW (bB (p5 (bx (gQ false) (pC (·.vcq)) (kC (2:Int))) (vC (·.vrq))))
 kU
 bU
def pL:fY:=bW (bB (kC ("done" : Str)))
def xW:fY:=aI i8
 (aI k7
 (aI gO
 (aI gN
 (aI pM
 (aI i7
 (aI kW
 pL))))))
def Ak(c:List (Int×Int×(Option (List Int))))(a:L3)(b:Int)(d:Int)(f:Int)(e:Int):OutC S_bg9 Str:=b7 none (xW ⟨c,a,b,d,f,e,none⟩)
theorem NN:Cl.TJ yL D.str xc xW:=aj (bO (ai (eB (aJ (ak (dg false) xp xk)) (aJ (ak (dg false) (bq iR xp) xk))))
 (aT (ai xk))
 ba)
 (aj (bO (ai (aJ (ak (dg false) xp xk)))
 (aT (ai xk))
 ba)
 (aj (bO (ai (pq (aJ (ak Hj (ak ot xp xp) xk)) (pq (aJ (ak PZ (ak ou xp xp) xp)) (eB (aJ (ak PY xp xk)) (aJ (ak (dg false) xp xp))))))
 (aT (ai xk))
 ba)
 (aj (bO (ai (eB (aJ (ak (dg false) xp xk)) (aJ (ak (dg false) (bq iR (jr (kL xp) (aJ (ak (uP (xL gi gi) (by decide) false) (br (rs PU xp) (rs PR xp)) (br xp xp))) xp)) xk))))
 (aT (ai xk))
 ba)
 (aj (xs (ai (ak (Ju (xL gi gi) (by decide)) (br (ak ot xp xp) (ak ou xp xp)) xp)))
 (aj (bO (ai (eB (aJ (ak (dg false) xp xk)) (HZ (aJ xv))))
 (aT (ai xk))
 ba)
 (aj (bO (ai (eB (aJ (ak (dg false) xp xk)) (aJ xv)))
 (aT (ai xk))
 ba)
 (aT (ai xk))))))))
theorem N0(c:List (Int×Int×(Option (List Int))))(a:L3)(b:Int)(d:Int)(f:Int)(e:Int):SimO yL D.str (m_bg9 [(eL (rA D.int D.int (eO (eL D.int)))) c,(eL (Ia D.int D.int)) a,D.int b,D.int d,D.int f,D.int e]) (Ak c a b d f e):=dM NN rfl
structure S_bh9 where
 v5q:Str
def yK:S_bh9->L4:=λs=>[some (D.str s.v5q)]
abbrev Ac:=S_bh9->FlC S_bh9 (List Bool)
def kT:Ac:=bW (bB (wY (jF:_->Res (List Bool))))
def pK:Ac:=iW (bB (bx (gQ false) (pC (·.v5q)) (kC ("done" : Str))))
 kT
 bU
def vQ:Ac:=bW (bB (wY (cP (bx (gQ false) (pC (·.v5q)) (kC ("house" : Str))) (cP (bx (gQ false) (pC (·.v5q)) (kC ("letter" : Str))) (cP (bx (gQ false) (pC (·.v5q)) (kC ("way" : Str))) (cP (bx (gQ false) (pC (·.v5q)) (kC ("there" : Str))) (cP (kC true) (jF:_->Res (List Bool)))))))))
def xV:Ac:=aI pK
 vQ
def Aj(a:Str):OutC S_bh9 (List Bool):=b7 none (xV ⟨a⟩)
theorem NM:Cl.TJ yK (eL D.bl) xb xV:=aj (bO (ai (aJ (ak (l5 false) xp xk)))
 (aT (ai (dO dN)))
 ba)
 (aT (ai (dO (bJ (ak (l5 false) xp xk) (bJ (ak (l5 false) xp xk) (bJ (ak (l5 false) xp xk) (bJ (ak (l5 false) xp xk) (bJ xk dN))))))))
theorem NZ(a:Str):SimO yK (eL D.bl) (m_bh9 [D.str a]) (Aj a):=iY NM rfl
structure S_bj9 where
 v3q:Int
 vpq:Int
 vmq:Option Int
 vsq:Option L3
 vbq:Option Int
 v0q:Option Int
 v1q:Option Int
def yI:S_bj9->L4:=λs=>[some (D.int s.v3q),some (D.int s.vpq),s.vmq.map D.int,s.vsq.map (eL (Ia D.int D.int)),s.vbq.map D.int,s.v0q.map D.int,s.v1q.map D.int]
abbrev jf:=S_bj9->FlC S_bj9 L3
def vO:jf:=dI (λa s=>{s with vmq:=some a}) (bB (bx mW (bx My (bx mW (bx My (bx uk (pC (·.v3q)) (kC (1:Int))) (kC (48271:Int))) (kC (2147483647:Int))) (kC (16807:Int))) (kC (2147483647:Int))))
def vN:jf:=dI (λa s=>{s with vsq:=some a}) (bB (wY (jF:_->Res L3)))
def vM:jf:=dI (λa s=>{s with vbq:=some a}) (bB (kC (0:Int)))
def gM:jf:=a9 (Nf (λs=>s.vsq) (λs y=>{s with vsq:=some y}) ui (gw (vC (·.v0q)) (vC (·.v1q))))
def hZ:jf:=iW (bB (bx (gQ false) (bx mW (bx OP (vC (·.vmq)) (bx mW (vC (·.vbq)) (kC (29:Int)))) (kC (2:Int))) (kC (1:Int))))
 gM
 bU
def hV:jf:=dI (λa s=>{s with vbq:=some a}) (bB (bx uk (vC (·.vbq)) (kC (1:Int))))
def ig:jf:=aI hZ
 hV
def jN:jf:=l7 (bx mU (bx uk (vC (·.v0q)) (kC (1:Int))) (pC (·.vpq))) (λa s=>{s with v1q:=some a})
 ig
def vL:jf:=l7 (bF (mU 0) (pC (·.vpq))) (λa s=>{s with v0q:=some a})
 jN
def vK:jf:=bW (Ov (λs=>s.vsq) (λs=>{s with vsq:=none}))
def xT:jf:=aI vO
 (aI vN
 (aI vM
 (aI vL
 vK)))
def Ai(b:Int)(a:Int):OutC S_bj9 L3:=b7 none (xT ⟨b,a,none,none,none,none,none⟩)
theorem NK:Cl.TJ yI (eL (Ia D.int D.int)) w9 xT:=aj (xs (ai (ak iQ (ak Jt (ak iQ (ak Jt (ak oz xp xk) xk) xk) xk) xk)))
 (aj (xs (ai (dO dN)))
 (aj (xs (ai xk))
 (aj (j7 (nu xp) (λ_ _=>rfl)
 (j7 (Fk (ak oz xv xk) xp) (λ_ _=>rfl)
 (aj (bO (ai (aJ (ak (dg false) (ak iQ (ak PP xv (ak iQ xv xk)) xk) xk)))
 (aG (yZ (λ_=>rfl) (λ_ _=>rfl) Fg (br xv xv)))
 ba)
 (xs (ai (ak oz xv xk))))))
 (aT (yY (λ_=>rfl) (λ_=>rfl))))))
theorem NY(b:Int)(a:Int):SimO yI (eL (Ia D.int D.int)) (m_bj9 [D.int b,D.int a]) (Ai b a):=iY NK rfl
structure S_bb9 where
 v9q:Int
 vqq:(List (Int×Int×(List Int)))
 v2q:Option (Option (Int×Int×(List Int)))
def yP:S_bb9->L4:=λs=>[some (D.int s.v9q),some ((eL (rA D.int D.int (eL D.int))) s.vqq),s.v2q.map (eO (rA D.int D.int (eL D.int)))]
abbrev p6:=S_bb9->FlC S_bb9 (Option (List Int))
def lc:p6:=bW (λs=>yf ((bB (wY (cP (kC (0:Int)) (jF:_->Res (List Int))))) s) λa s=>bndO (yw a) s λb=>.ok b s)
def lg:p6:=iW (bB (bx (gQ false) (pC (·.v9q)) (kC (0:Int))))
 lc
 bU
def pY:p6:=dI (λa s=>{s with v2q:=some a}) (bB (bF JZ (pC (·.vqq))))
def h9:p6:=bW (λs=>yf ((bB (kC ())) s) λa s=>bndO ((DP:Unit->Res (Option (List Int))) a) s λb=>.ok b s)
def pX:p6:=iW (bB (bF (E4 false DQ) (vC (·.v2q))))
 h9
 bU
def vX:p6:=bW (λs=>yf ((bB (bF OD (bF wU (vC (·.v2q))))) s) λa s=>bndO (yw a) s λb=>.ok b s)
def x8:p6:=aI lg
 (aI pY
 (aI pX
 vX))
def Al(b:Int)(a:List (Int×Int×(List Int))):OutC S_bb9 (Option (List Int)):=b7 (some none) (x8 ⟨b,a,none⟩)
theorem NS:Cl.TJ yP (eO (eL D.int)) xj x8:=aj (bO (ai (aJ (ak (dg false) xp xk)))
 (aT (qM yh (ai (dO (bJ xk dN)))))
 ba)
 (aj (xs (ai (rs Mn xp)))
 (aj (bO (ai (aJ (tq (zg (λ_=>rfl)) xv)))
 (aT (qM Aa (ai xk)))
 ba)
 (aT (qM yh (ai (rs SG (cH jt xv)))))))
theorem N7(b:Int)(a:List (Int×Int×(List Int))):SimO yP (eO (eL D.int)) (m_bb9 [D.int b,(eL (rA D.int D.int (eL D.int))) a]) (Al b a):=fT (d:=none) rfl NS rfl
structure S_bc9 where
 vkq:(Option (List Int))
def yO:S_bc9->L4:=λs=>[some ((eO (eL D.int)) s.vkq)]
abbrev Af:=S_bc9->FlC S_bc9 (Option (List Int))
def lb:Af:=bW (λs=>yf ((bB (kC ())) s) λa s=>bndO ((DP:Unit->Res (Option (List Int))) a) s λb=>.ok b s)
def pW:Af:=iW (bB (bF (E4 false DQ) (pC (·.vkq))))
 lb
 bU
def vW:Af:=bW (λs=>yf ((bB (bF Sv (bF wU (pC (·.vkq))))) s) λa s=>bndO (yw a) s λb=>.ok b s)
def x6:Af:=aI pW
 vW
def mS(a:Option (List Int)):OutC S_bc9 (Option (List Int)):=b7 (some none) (x6 ⟨a⟩)
theorem NR:Cl.TJ yO (eO (eL D.int)) xi x6:=aj (bO (ai (aJ (tq (zg (λ_=>rfl)) xp)))
 (aT (qM Aa (ai xk)))
 ba)
 (aT (qM yh (ai (bq Mp (cH jt (xJ (KU (Ck (λ_=>rfl))) xp))))))
theorem xP(a:Option (List Int)):SimO yO (eO (eL D.int)) (m_bc9 [(eO (eL D.int)) a]) (mS a):=fT (d:=none) rfl NR rfl
structure S_bl9 where
 vaq:(List Int)
 v4q:Int
def yG:S_bl9->L4:=λs=>[some ((eL D.int) s.vaq),some (D.int s.v4q)]
abbrev F9:=S_bl9->FlC S_bl9 Unit
def kS:F9:=cJ 11
def pG:F9:=iW (bB (Ou (bx QK (bx EO (pC (·.vaq)) (kC (0:Int))) (kC (0:Int))) (bx S3 (bx JY (pC (·.vaq)) (kC (0:Int))) (pC (·.v4q)))))
 kS
 bU
def ud:F9:=pG
def rQ(a:List Int)(b:Int):OutC S_bl9 Unit:=b7 (some ()) (ud ⟨a,b⟩)
theorem NH:Cl.TJ yG eN w6 ud:=bO (ai (pq (aJ (ak Hj (ak Hk xp xk) xk)) (aJ (ak PZ (ak Mm xp xk) xp))))
 dH
 ba
theorem NW(a:List Int)(b:Int):SimO yG eN (m_bl9 [(eL D.int) a,D.int b]) (rQ a b):=fT (d:=()) rfl NH rfl
structure S_h9 where
 voq:GΩ
 vaq:(List Int)
def C7:S_h9->L4:=λs=>[some (au s.voq),some ((eL D.int) s.vaq)]
abbrev R6:=S_h9->FlC S_h9 Unit
def t4:R6:=a9 (bB (gS rQ (pC (·.vaq)) (bF (λg=>.ok g.hω) (pC (·.voq)))))
def z6:R6:=t4
def lV(b:GΩ)(a:List Int):OutC S_h9 Unit:=b7 (some ()) (z6 ⟨b,a⟩)
theorem Rt:Cl.TJ C7 eN Ey z6:=aG (ai (i0 (λb a=>NW b a) xp (g8 (λ_=>rfl) (bq bY xp))))
theorem rL(b:GΩ)(a:List Int):SimO C7 eN (u5 [au b,(eL D.int) a]) (lV b a):=fT (d:=()) rfl Rt rfl
structure S_w9 where
 voq:PostT
def CT:S_w9->L4:=λs=>[some (bp s.voq)]
abbrev RZ:=S_w9->FlC S_w9 (List (Option (List Int)))
def zA:RZ:=bW (bB (fW (bF (λg=>.ok g.roads) (pC (·.voq))) (λ_=>.ok true) (mV mS (pC λp=>p.1))))
def FS:RZ:=zA
def Iz(a:PostT):OutC S_w9 (List (Option (List Int))):=b7 none (FS ⟨a⟩)
theorem Re:Cl.TJ CT (eL (eO (eL D.int))) Eh FS:=aT (ai (jr (kL (bq gp xp)) sZ (tm (λa=>xP a) xp)))
theorem RC(a:PostT):SimO CT (eL (eO (eL D.int))) (MR [bp a]) (Iz a):=iY Re rfl
structure S_y9 where
 voq:PostT
def CQ:S_y9->L4:=λs=>[some (bp s.voq)]
abbrev RY:=S_y9->FlC S_y9 (List (Int×Int×(Option (List Int))))
def zw:RY:=bW (bB (fW (bF EZ (bF (λg=>.ok g.letters) (pC (·.voq)))) (λ_=>.ok true) (gw (bx sP (pC λp=>p.1) (kC (0:Int))) (gw (bx sP (pC λp=>p.1) (kC (1:Int))) (mV mS (bx Sz (bF (λg=>.ok g.letters) (pC λp=>p.2.voq)) (pC λp=>p.1)))))))
def FQ:RY:=zw
def Gf(a:PostT):OutC S_y9 (List (Int×Int×(Option (List Int)))):=b7 none (FQ ⟨a⟩)
theorem Ra:Cl.TJ CQ (eL (rA D.int D.int (eO (eL D.int)))) Ef FQ:=aT (ai (jr (HY (bq eZ xp)) sZ (zn (ak sD xp xk) (ak sD xp xk) (tm (λa=>xP a) (ak Mr (bq eZ xp) xp)))))
theorem Kk(a:PostT):SimO CQ (eL (rA D.int D.int (eO (eL D.int)))) (Hv [bp a]) (Gf a):=iY Ra rfl
structure S_bk9 where
 v7q:GΩ
 v9q:Int
 vkq:(Option (List Int))
def yH:S_bk9->L4:=λs=>[some (au s.v7q),some (D.int s.v9q),some ((eO (eL D.int)) s.vkq)]
abbrev Ab:=S_bk9->FlC S_bk9 Bool
def dP:Ab:=bW (bB (kC false))
def i6:Ab:=iW (bB (Ou (bF (E4 false DQ) (pC (·.vkq))) (Ou (bx (gQ false) (pC (·.v9q)) (kC (0:Int))) (bx (SX false) (pC (·.v9q)) (bF wU (pC (·.vkq)))))))
 dP
 bU
def vJ:Ab:=bW (bB (bF Hn (oh IB (pC (·.v7q)) (pC (·.v9q)) (bF wU (pC (·.vkq))))))
def xS:Ab:=aI i6
 vJ
def wv(b:GΩ)(a:Int)(c:Option (List Int)):OutC S_bk9 Bool:=b7 none (xS ⟨b,a,c⟩)
theorem NI:Cl.TJ yH D.bl w8 xS:=aj (bO (ai (pq (aJ (tq (zg (λ_=>rfl)) xp)) (pq (aJ (ak (dg false) xp xk)) (aJ (ak (Ju gi (by decide)) xp (cH jt xp))))))
 (aT (ai xk))
 ba)
 (aT (ai (bq PV (lP (λ_=>rfl) (λc b a=>RL c b a) xp xp (cH jt xp)))))
theorem NX(b:GΩ)(a:Int)(c:Option (List Int)):SimO yH D.bl (m_bk9 [au b,D.int a,(eO (eL D.int)) c]) (wv b a c):=dM NI rfl
structure S_e9 where
 voq:GΩ
 v0q:Int
 v1q:Int
def Da:S_e9->L4:=λs=>[some (au s.voq),some (D.int s.v0q),some (D.int s.v1q)]
abbrev Om:=S_e9->FlC S_e9 Int
def zP:Om:=a9 (bB (gS lV (pC (·.voq)) (wY (cP (pC (·.v0q)) (cP (pC (·.v1q)) (jF:_->Res (List Int)))))))
def zO:Om:=bW (bB (Kf (bF (λg=>.ok g.lω) (pC (·.voq))) (bF cN (gw (pC (·.v0q)) (pC (·.v1q)))) (kC (0:Int))))
def F3:Om:=aI zP
 zO
def IF(a:GΩ)(c:Int)(b:Int):OutC S_e9 Int:=b7 none (F3 ⟨a,c,b⟩)
theorem Rw:Cl.TJ Da D.int EB F3:=aj (aG (ai (g9 (λ_=>rfl) (λb a=>rL b a) xp (dO (bJ xp (bJ xp dN))))))
 (aT (ai (g8 (λ_=>rfl) (H8 (bq gE xp) (cH bP (br xp xp)) xk))))
theorem RP(a:GΩ)(c:Int)(b:Int):SimO Da D.int (M5 [au a,D.int c,D.int b]) (IF a c b):=dM Rw rfl
structure S_f9 where
 voq:GΩ
 v0q:Int
def C9:S_f9->L4:=λs=>[some (au s.voq),some (D.int s.v0q)]
abbrev Ol:=S_f9->FlC S_f9 (List Int)
def zN:Ol:=a9 (bB (gS lV (pC (·.voq)) (wY (cP (pC (·.v0q)) (jF:_->Res (List Int))))))
def zM:Ol:=bW (bB (oh IG (pC (·.voq)) (bF (λg=>.ok g.U) (pC (·.voq))) (pC (·.v0q))))
def F2:Ol:=aI zN
 zM
def IE(a:GΩ)(b:Int):OutC S_f9 (List Int):=b7 none (F2 ⟨a,b⟩)
theorem Rv:Cl.TJ C9 (eL D.int) EA F2:=aj (aG (ai (g9 (λ_=>rfl) (λb a=>rL b a) xp (dO (bJ xp dN)))))
 (aT (ai (lP (λ_=>rfl) (λb a c=>RS b a c) xp (bq eh xp) xp)))
theorem RO(a:GΩ)(b:Int):SimO C9 (eL D.int) (M4 [au a,D.int b]) (IE a b):=iY Rv rfl
structure S_i9 where
 voq:GΩ
 vkq:(List Int)
def C6:S_i9->L4:=λs=>[some (au s.voq),some ((eL D.int) s.vkq)]
abbrev wq:=S_i9->FlC S_i9 Unit
def zL:wq:=a9 (bB (gS lV (pC (·.voq)) (pC (·.vkq))))
def vH:wq:=cJ 14
def zK:wq:=iW (bB (bx QK (bF oU (pC (·.vkq))) (kC (2:Int))))
 vH
 bU
def vG:wq:=cJ 14
def zJ:wq:=iW (bB (bx (gQ true) (bx sP (pC (·.vkq)) (bF Mx (kC (1:Int)))) (kC (0:Int))))
 vG
 bU
def vF:wq:=cJ 14
def zI:wq:=iW (bB (bx (gQ true) (bF sN (pC (·.vkq))) (bF oU (pC (·.vkq)))))
 vF
 bU
def FZ:wq:=aI zL
 (aI zK
 (aI zJ
 zI))
def IC(a:GΩ)(b:List Int):OutC S_i9 Unit:=b7 (some ()) (FZ ⟨a,b⟩)
theorem Rs:Cl.TJ C6 eN Ew FZ:=aj (aG (ai (g9 (λ_=>rfl) (λb a=>rL b a) xp xp)))
 (aj (bO (ai (aJ (ak Hj (bq iR xp) xk)))
 dH
 ba)
 (aj (bO (ai (aJ (ak (dg true) (ak oy xp (bq Js xk)) xk)))
 dH
 ba)
 (bO (ai (aJ (ak (dg true) (bq DN xp) (bq iR xp))))
 dH
 ba)))
theorem RM(a:GΩ)(b:List Int):SimO C6 eN (M0 [au a,(eL D.int) b]) (IC a b):=fT (d:=()) rfl Rs rfl
structure S_j9 where
 voq:GΩ
 v0q:Int
 v1q:Int
def C5:S_j9->L4:=λs=>[some (au s.voq),some (D.int s.v0q),some (D.int s.v1q)]
abbrev Iv:=S_j9->FlC S_j9 Unit
def nA:Iv:=a9 (bB (gS lV (pC (·.voq)) (wY (cP (pC (·.v0q)) (cP (pC (·.v1q)) (jF:_->Res (List Int)))))))
def mI:Iv:=cJ 11
def t3:Iv:=iW (bB (bx (gQ false) (pC (·.v0q)) (pC (·.v1q))))
 mI
 bU
def z5:Iv:=aI nA
 t3
def p8(a:GΩ)(c:Int)(b:Int):OutC S_j9 Unit:=b7 (some ()) (z5 ⟨a,c,b⟩)
theorem Rr:Cl.TJ C5 eN Ev z5:=aj (aG (ai (g9 (λ_=>rfl) (λb a=>rL b a) xp (dO (bJ xp (bJ xp dN))))))
 (bO (ai (aJ (ak (dg false) xp xp)))
 dH
 ba)
theorem Kn(a:GΩ)(c:Int)(b:Int):SimO C5 eN (HC [au a,D.int c,D.int b]) (p8 a c b):=fT (d:=()) rfl Rr rfl
structure S_m9 where
 voq:GΩ
 vfq:Option GΩ
def r6:S_m9->L4:=λs=>[some (au s.voq),s.vfq.map au]
abbrev yk:=S_m9->FlC S_m9 GΩ
def tZ:yk:=dI (λa s=>{s with vfq:=some a}) (bB (G8 mk_Guild (bF (λg=>.ok g.hω) (pC (·.voq)))))
def tY:yk:=a9 (rW (λs=>s.vfq.map (·.U)) (λs y=>{s with vfq:=s.vfq.map λo=>{o with U:=y}}) (bF (λg=>.ok g.U) (pC (·.voq))))
def tX:yk:=a9 (rW (λs=>s.vfq.map (·.lω)) (λs y=>{s with vfq:=s.vfq.map λo=>{o with lω:=y}}) (bF (λg=>.ok g.lω) (pC (·.voq))))
def tW:yk:=a9 (rW (λs=>s.vfq.map (·.sω)) (λs y=>{s with vfq:=s.vfq.map λo=>{o with sω:=y}}) (bF (λg=>.ok g.sω) (pC (·.voq))))
def tV:yk:=a9 (rW (λs=>s.vfq.map (·.wω)) (λs y=>{s with vfq:=s.vfq.map λo=>{o with wω:=y}}) (bF (λg=>.ok g.wω) (pC (·.voq))))
def Ih:yk:=bW (Ov (λs=>s.vfq) (λs=>{s with vfq:=none}))
def FX:yk:=aI tZ
 (aI tY
 (aI tX
 (aI tW
 (aI tV
 Ih))))
def Gi(a:GΩ):OutC S_m9 GΩ:=b7 none (FX ⟨a,none⟩)
theorem Rn:Cl.TJ r6 au Es FX:=aj (xs (ai (xI jw (g8 (λ_=>rfl) (bq bY xp)))))
 (aj (aG (sE (λs=>by cases s with|mk b a=>cases a<;>rfl) (λs y=>by cases s with|mk b a=>cases a<;>rfl) (λ_=>rfl) (bq eh xp)))
 (aj (aG (sE (λs=>by cases s with|mk b a=>cases a<;>rfl) (λs y=>by cases s with|mk b a=>cases a<;>rfl) (λ_=>rfl) (bq gE xp)))
 (aj (aG (sE (λs=>by cases s with|mk b a=>cases a<;>rfl) (λs y=>by cases s with|mk b a=>cases a<;>rfl) (λ_=>rfl) (bq iP xp)))
 (aj (aG (sE (λs=>by cases s with|mk b a=>cases a<;>rfl) (λs y=>by cases s with|mk b a=>cases a<;>rfl) (λ_=>rfl) (bq fb xp)))
 (aT (yY (λ_=>rfl) (λ_=>rfl)))))))
theorem RJ(a:GΩ):SimO r6 au (xu [au a]) (Gi a):=iY Rn rfl
structure S_x9 where
 voq:PostT
 v0q:Int
 v1q:Int
def CS:S_x9->L4:=λs=>[some (bp s.voq),some (D.int s.v0q),some (D.int s.v1q)]
abbrev Oh:=S_x9->FlC S_x9 (Option (List Int))
def zz:Oh:=a9 (bB (gS lV (bF (λg=>.ok g.guild) (pC (·.voq))) (wY (cP (pC (·.v0q)) (cP (pC (·.v1q)) (jF:_->Res (List Int)))))))
def zx:Oh:=bW (bB (mV mS (bx Fx (bF (λg=>.ok g.told_last) (pC (·.voq))) (bF cN (gw (pC (·.v0q)) (pC (·.v1q)))))))
def FR:Oh:=aI zz
 zx
def Gg(a:PostT)(c:Int)(b:Int):OutC S_x9 (Option (List Int)):=b7 (some none) (FR ⟨a,c,b⟩)
theorem Rb:Cl.TJ CS (eO (eL D.int)) Eg FR:=aj (aG (ai (g9 (λ_=>rfl) (λa b=>rL a b) (bq db xp) (dO (bJ xp (bJ xp dN))))))
 (aT (ai (tm (λa=>xP a) (vn (bq wW xp) (cH bP (br xp xp))))))
theorem RB(a:PostT)(c:Int)(b:Int):SimO CS (eO (eL D.int)) (MQ [bp a,D.int c,D.int b]) (Gg a c b):=fT (d:=none) rfl Rb rfl
structure S_c9 where
 voq:GΩ
 v0q:Int
 v1q:Int
def Dc:S_c9->L4:=λs=>[some (au s.voq),some (D.int s.v0q),some (D.int s.v1q)]
abbrev Bz:=S_c9->FlC S_c9 Unit
def nC:Bz:=a9 (bB (oh p8 (pC (·.voq)) (pC (·.v0q)) (pC (·.v1q))))
def mK:Bz:=cJ 13
def ub:Bz:=iW (bB (bx (vt false) (bF cN (gw (pC (·.v0q)) (pC (·.v1q)))) (bF (λg=>.ok g.U) (pC (·.voq)))))
 mK
 bU
def zT:Bz:=rE (λs=>some s.voq.U) (λs y=>{s with voq:={s.voq with U:=y}}) (bF cN (gw (pC (·.v0q)) (pC (·.v1q)))) (bB (kC true))
def zS:Bz:=rE (λs=>some s.voq.U) (λs y=>{s with voq:={s.voq with U:=y}}) (bF cN (gw (pC (·.v1q)) (pC (·.v0q)))) (bB (kC true))
def wd:Bz:=aI nC
 (aI ub
 (aI zT
 zS))
def p9(a:GΩ)(c:Int)(b:Int):OutC S_c9 Unit:=b7 (some ()) (wd ⟨a,c,b⟩)
theorem Ry:Cl.TJ Dc eN ED wd:=aj (aG (ai (lP (λ_=>rfl) (λc b a=>Kn c b a) xp xp xp)))
 (aj (bO (ai (aJ (ak (uQ false) (cH bP (br xp xp)) (bq eh xp))))
 dH
 ba)
 (aj (j8 (λ_=>rfl) (λ_ _=>rfl) (cH bP (br xp xp)) (ai xk))
 (j8 (λ_=>rfl) (λ_ _=>rfl) (cH bP (br xp xp)) (ai xk))))
theorem Ko(a:GΩ)(c:Int)(b:Int):SimO Dc eN (HE [au a,D.int c,D.int b]) (p9 a c b):=fT (d:=()) rfl Ry rfl
structure S_d9 where
 voq:GΩ
 v0q:Int
 v1q:Int
def Db:S_d9->L4:=λs=>[some (au s.voq),some (D.int s.v0q),some (D.int s.v1q)]
abbrev By:=S_d9->FlC S_d9 Unit
def nB:By:=a9 (bB (oh p8 (pC (·.voq)) (pC (·.v0q)) (pC (·.v1q))))
def mJ:By:=cJ 12
def t9:By:=iW (bB (bx (vt true) (bF cN (gw (pC (·.v0q)) (pC (·.v1q)))) (bF (λg=>.ok g.U) (pC (·.voq)))))
 mJ
 bU
def zR:By:=a9 (vq (λs=>some s.voq.U) (λs y=>{s with voq:={s.voq with U:=y}}) (bF cN (gw (pC (·.v0q)) (pC (·.v1q)))))
def zQ:By:=a9 (vq (λs=>some s.voq.U) (λs y=>{s with voq:={s.voq with U:=y}}) (bF cN (gw (pC (·.v1q)) (pC (·.v0q)))))
def wc:By:=aI nB
 (aI t9
 (aI zR
 zQ))
def uo(a:GΩ)(c:Int)(b:Int):OutC S_d9 Unit:=b7 (some ()) (wc ⟨a,c,b⟩)
theorem Rx:Cl.TJ Db eN EC wc:=aj (aG (ai (lP (λ_=>rfl) (λc b a=>Kn c b a) xp xp xp)))
 (aj (bO (ai (aJ (ak (uQ true) (cH bP (br xp xp)) (bq eh xp))))
 dH
 ba)
 (aj (aG (sG (λ_=>rfl) (λ_ _=>rfl) (cH bP (br xp xp))))
 (aG (sG (λ_=>rfl) (λ_ _=>rfl) (cH bP (br xp xp))))))
theorem RQ(a:GΩ)(c:Int)(b:Int):SimO Db eN (M6 [au a,D.int c,D.int b]) (uo a c b):=fT (d:=()) rfl Rx rfl
structure S_g9 where
 voq:GΩ
 vkq:(List Int)
 vtq:Option (Option Int)
def C8:S_g9->L4:=λs=>[some (au s.voq),some ((eL D.int) s.vkq),s.vtq.map (eO D.int)]
abbrev Bx:=S_g9->FlC S_g9 Int
def t8:Bx:=a9 (bB (gS IC (pC (·.voq)) (pC (·.vkq))))
def t7:Bx:=dI (λa s=>{s with vtq:=some a}) (bB (bx Q6 (bF (λg=>.ok g.wω) (pC (·.voq))) (bF Sv (pC (·.vkq)))))
def i5:Bx:=bW (bB (oh IF (pC (·.voq)) (bx sP (pC (·.vkq)) (kC (0:Int))) (bx sP (pC (·.vkq)) (kC (1:Int)))))
def t6:Bx:=iW (bB (bF (E4 false DQ) (vC (·.vtq))))
 i5
 bU
def t5:Bx:=bW (λs=>yf ((bB (vC (·.vtq))) s) λa s=>bndO (wU a) s λb=>.ok b s)
def F1:Bx:=aI t8
 (aI t7
 (aI t6
 t5))
def ID(a:GΩ)(b:List Int):OutC S_g9 Int:=b7 none (F1 ⟨a,b,none⟩)
theorem Ru:Cl.TJ C8 D.int Ez F1:=aj (aG (ai (g9 (λ_=>rfl) (λb a=>RM b a) xp xp)))
 (aj (xs (ai (g8 (E5 (λ_=>rfl)) (H9 (bq fb xp) (bq PN (xJ (Ck (λ_=>rfl)) xp))))))
 (aj (bO (ai (aJ (tq (zg (λ_=>rfl)) xv)))
 (aT (ai (lP (λ_=>rfl) (λb a c=>RP b a c) xp (g8 (λ_=>rfl) (ak oy xp xk)) (g8 (λ_=>rfl) (ak oy xp xk)))))
 ba)
 (aT (qM jt (ai xv)))))
theorem RN(a:GΩ)(b:List Int):SimO C8 D.int (M3 [au a,(eL D.int) b]) (ID a b):=dM Ru rfl
structure S_ba9 where
 voq:PostT
 vuq:Int
 vjq:Option Int
def ni:S_ba9->L4:=λs=>[some (bp s.voq),some (D.int s.vuq),s.vjq.map D.int]
abbrev Ga:=S_ba9->FlC S_ba9 Unit
def jW:Ga:=a9 (oJ BA (λs' s=>{s with voq:=s'.voq}) (pC (·.voq)) (pC (·.vuq)) (vC (·.vjq)))
def vY:Ga:=l7 (gS IE (bF (λg=>.ok g.guild) (pC (·.voq))) (pC (·.vuq))) (λa s=>{s with vjq:=some a})
 jW
def x9:Ga:=vY
def rT(b:PostT)(a:Int):OutC S_ba9 Unit:=b7 (some ()) (x9 ⟨b,a,none⟩)
theorem NT:Cl.TJ ni eN xl x9:=j7 (kL (g9 (λ_=>rfl) (λb a=>RO b a) (bq db xp) xp)) (λ_ _=>rfl)
 (aG (gq (λ_=>rfl) (λ_ _=>rfl) (λb a c=>FK b a c) xp xp xv))
theorem FO(b:PostT)(a:Int):SimO ni eN (ir [bp b,D.int a]) (rT b a):=fT (d:=()) rfl NT rfl
structure S_bi9 where
 viq:PostT
 vpq:Int
 v8q:Option (List (List (Option (List Int))))
 v0q:Option Int
def yJ:S_bi9->L4:=λs=>[some (bp s.viq),some (D.int s.vpq),s.v8q.map (eL (eL (eO (eL D.int)))),s.v0q.map D.int]
abbrev wu:=S_bi9->FlC S_bi9 ((List (Option (List Int)))×(List (Int×Int×(Option (List Int))))×(List (List (Option (List Int)))))
def pJ:wu:=dI (λa s=>{s with v8q:=some a}) (bB (wY (jF:_->Res (List (List (Option (List Int)))))))
def jO:wu:=a9 (Nf (λs=>s.v8q) (λs y=>{s with v8q:=some y}) ui (fW (bF (mU 0) (pC (·.vpq))) (λ_=>.ok true) (oh Gg (pC λp=>p.2.viq) (vC λp=>p.2.v0q) (pC λp=>p.1))))
def pH:wu:=l7 (bF (mU 0) (pC (·.vpq))) (λa s=>{s with v0q:=some a})
 jO
def vP:wu:=bW (QL (bB (mV Iz (pC (·.viq)))) (bB (mV Gf (pC (·.viq)))) (Ov (λs=>s.v8q) (λs=>{s with v8q:=none})))
def xU:wu:=aI pJ
 (aI pH
 vP)
def wx(b:PostT)(a:Int):OutC S_bi9 ((List (Option (List Int)))×(List (Int×Int×(Option (List Int))))×(List (List (Option (List Int))))):=b7 none (xU ⟨b,a,none,none⟩)
theorem NL:Cl.TJ yJ (Ny (eL (eO (eL D.int))) (eL (rA D.int D.int (eO (eL D.int)))) (eL (eL (eO (eL D.int))))) xa xU:=aj (xs (ai (dO dN)))
 (aj (j7 (nu xp) (λ_ _=>rfl)
 (aG (yZ (λ_=>rfl) (λ_ _=>rfl) Fg (jr (nu xp) sZ (lP (λ_=>rfl) (λa c b=>RB a c b) xp xv xp)))))
 (aT (P8 (ai (tj (λ_=>rfl) (λa=>RC a) xp)) (ai (tj (λ_=>rfl) (λa=>Kk a) xp)) (yY (λ_=>rfl) (λ_=>rfl)))))
theorem FM(b:PostT)(a:Int):SimO yJ (Ny (eL (eO (eL D.int))) (eL (rA D.int D.int (eO (eL D.int)))) (eL (eL (eO (eL D.int))))) (m_bi9 [bp b,D.int a]) (wx b a):=dM NL rfl
def dX(t:GΩ)(n:Nat):PostT:=⟨t,(List.replicate n none).set 0 (some [0]),[],[],[],List.replicate n []⟩
noncomputable def mk_Post(g:GΩ):Res PostT:=match Gi g with
 | .ok t _=>if 1<=g.hω/\g.hω<=60 then (match rT (dX t g.hω.toNat) 0 with
   |.ok _ s=>.ok s.voq
   |.exc c _=>.exc c
   |.bad=>.bad) else .bad
 |.exc c _=>.exc c
 |.bad=>.bad
theorem Ay{n:Nat}:∀k,bD (λ_=>.ok true) (aW (.dK [] [])) [] ((List.range k).map λi:Nat=>D.int (n+i))=.ok (List.replicate k (.dK [] [])):=by
 intro k
 have a:∀l:List D,bD (λ_=>.ok true) (aW (.dK [] [])) [] l=.ok (List.replicate l.length (.dK [] [])):=by
  intro l
  induction l with
  |nil=>rfl
  |cons d l b=>rw[bD,b];rfl
 rw[a,Tv,VT]
theorem sR(g:GΩ):SimR bp (fL 1 xt [au g]) (mk_Post g):=by
 have a:=RJ g;have hsz:oK [au g]=.ok (.int g.hω) (wK ⟨g⟩):=RK g;have j:bI 0 "twin" (au g)=true:=rfl;have b:bI 0 "size" (au g)=true:=rfl;unfold mk_Post;cases q:Gi g with
 |bad=>trivial
 |exc c s=>
   rw[q]at a;have a:xu [au g]=.exc c (r6 s):=a;show fL 1 xt [au g]=.exc c;unfold fL xt Mi.run;rw[uZ];simp[az,cL,aV,pm,vr,rg,bj,fX,a,j]
 |ok t s=>
   rw[q]at a;have a:xu [au g]=.ok (au t) (r6 s):=a;dsimp only;by_cases C:1<=g.hω/\g.hω<=60
   · rw[Tq C];obtain⟨n,l⟩:∃n:Nat,g.hω=n:=⟨g.hω.toNat,by omega⟩;have L:1<=n:=by omega
     have K:n<=60:=by omega
     have A:1<=ao:=by decide +kernel
     have E:60<ao:=by decide +kernel
     have e1:cL 1 "guild" 0 (aV (pm 0 "twin" xu (vr 1) bj)) [some (.obj 1 [] []),some (au g)]=.nx [some (.obj 1 ["guild"] [au t]),some (au g)]:=by
      simp[cL,aV,pm,vr,rg,bj,fX,a,j,lX,cF]
     have X:cL 1 "roads" 0 (aV (bn wL (nj (aE (aW .non) bj)) (pm 0 "size" oK (vr 1) bj))) [some (.obj 1 ["guild"] [au t]),some (au g)]=.nx [some (.obj 1 ["guild","roads"] [au t,.lst (List.replicate n .non)]),some (au g)]:=by
      have J:wL (.lst [.non]) (.int g.hω)=.ok (.lst (List.replicate n .non)):=by
       have this:=PQ (e:=eN) [()] g.hω;rw[C2 (by omega) (by omega) (by rw[Vw];omega)]at this;have this:wL (.lst [.non]) (.int g.hω)=.ok (eL eN _):=this;rw[this,l];show Res.ok (D.lst _)=Res.ok (D.lst _);rw[show(Int.toNat (n:Int))=n from rfl]
       have r:∀k:Nat,((List.replicate k [()]).flatten.map eN)=List.replicate k D.non:=λk=>by
        induction k with
        |zero=>rfl
        |succ k H=>rw[Ul,UD,Uj,H];rfl
       rw[r]
      simp[cL,aV,pm,vr,rg,bj,aE,nj,bn,aW,fX,hsz,b,J,lX,cF,A];decide
     have W:oO (fZ 1 "roads" 0) (fB "roads" 0) (aW (.int 0)) (aV (nj (aE (aW (.int 0)) bj))) [some (.obj 1 ["guild","roads"] [au t,.lst (List.replicate n .non)]),some (au g)]=.nx [some (.obj 1 ["guild","roads"] [au t,.lst ((List.replicate n .non).set 0 (.lst [.int 0]))]),some (au g)]:=by
      have hi:qc n 0=some 0:=by unfold qc;simp;omega
      have v:¬ (Str.ofString "guild" = Str.ofString "roads"):=by decide
      simp[oO,fZ,fB,zb,aV,rg,bj,aE,nj,aW,A,bC,dL,v,hi]
     have z:∀(ns:List Str) (vs:List D) (f:Str),ns.length<900->cF ns f=false->cL 1 f 0 (aV (aW (.dT [] []))) [some (.obj 1 ns vs),some (au g)]=.nx [some (.obj 1 (ns++[f]) (vs++[.dT [] []])),some (au g)]:=by
      intro ns vs f y w;simp only[cL,aV,aW,Res.up,io,rg,lX];simp[y,w]
     have V:∀(ns:List Str) (vs:List D) (f:Str),ns.length<900->cF ns f=false->cL 1 f 0 (aV (iD (iq (pm 0 "size" oK (vr 1) bj)) [] (λ_=>.ok true) (aW (.dK [] [])))) [some (.obj 1 ns vs),some (au g)]=.nx [some (.obj 1 (ns++[f]) (vs++[.lst (List.replicate n (.dK [] []))])),some (au g)]:=by
      intro ns vs f y w
      have N:iD (iq (pm 0 "size" oK (vr 1) bj)) [] (λ_=>.ok true) (aW (.dK [] [])) [some (.obj 1 ns vs),some (au g)]=.ok (.lst (List.replicate n (.dK [] []))):=by
       have I:iq (pm 0 "size" oK (vr 1) bj) [some (.obj 1 ns vs),some (au g)]=.ok (rng 0 n):=by
        simp[iq,Ca,pm,vr,rg,bj,fX,hsz,b,aW,l];omega
       unfold iD;rw[I];have M:(rng 0 (n:Int)).length=n:=by unfold rng;simp
       show(if (rng 0 (n:Int)).length<ao then (bD _ _ [] (rng 0 (n:Int))).bind λG=>Res.ok (D.lst G) else .bad)=_;rw[M,Tq (by omega)]
       have:=Ay (n:=0) n
       unfold rng;rw[show((n:Int)-0).toNat=n by omega];have e0:((List.range n).map λi:Nat=>D.int ((0:Int)+i))=(List.range n).map λi:Nat=>D.int (((0:Nat):Int)+i):=rfl;rw[e0,this];rfl
      simp only[cL,aV,N,Res.up,io,rg,lX];simp[y,w]
     have P:bp (dX t n)=.obj 1 ["guild","roads","told_last","written_last","letters","standings"] [au t,.lst ((List.replicate n .non).set 0 (.lst [.int 0])),.dT [] [],.dT [] [],.dT [] [],.lst (List.replicate n (.dK [] []))]:=by
      show D.obj 1 _ [au t,.lst (((List.replicate n none).set 0 (some [0])).map (eO (eL D.int))),.dT [] [],.dT [] [],.dT [] [],.lst ((List.replicate n []).map (lO eK))]=_;rw[Xm,List.map_replicate,List.map_replicate];rfl
     have m:=FO (dX t n) 0;have p:bI 1 "write_to_all" (bp (dX t n))=true:=rfl
     have Q:∀o x:D,bI 1 "write_to_all" o=true->bb (mm 1 "write_to_all" [(.O 0),.F] ir (vr 0) (aE (aW (.int 0)) bj)) [some o,some x]=(match ir [o,.int 0] with | .ok d T=>.nx (cI [(.O 0),.F] 0 T [some o,some x]) | .exc c T=>.exc c (cI [(.O 0),.F] 0 T [some o,some x]) | .bad=>.bad):=by
      intro o x h;simp[bb,mm,vr,rg,aE,bj,aW,h,ci];cases ir [o,.int 0]<;>rfl
     have U:fL 1 xt [au g]=(match ir [bp (dX t n),.int 0] with | .ok d T=>(match rg (cI [(.O 0),.F] 0 T [some (bp (dX t n)),some (au g)]) 0 with|some d=>.ok d|none=>.bad) | .exc c _=>.exc c | .bad=>.bad):=by
      unfold fL xt Mi.run;rw[uZ];have S:([D.obj 1 [] [],au g].map some++List.replicate (2-[D.obj 1 [] [],au g].length) none)=[some (.obj 1 [] []),some (au g)]:=rfl;rw[S];simp only[az,e1,X,W];rw[z _ _ _ (by decide) (by decide)];dsimp only;rw[z _ _ _ (by decide) (by decide)];dsimp only;rw[z _ _ _ (by decide) (by decide)];dsimp only;rw[V _ _ _ (by decide) (by decide)];have R:(D.obj 1 (((((["guild","roads"]:List Str)++[("told_last" : Str)])++[("written_last" : Str)])++[("letters" : Str)])++[("standings" : Str)]) (((([au t,D.lst ((List.replicate n .non).set 0 (.lst [.int 0]))]++[.dT [] []])++[.dT [] []])++[.dT [] []])++[.lst (List.replicate n (.dK [] []))]))=bp (dX t n):=P.symm;dsimp only;rw[R];rw[Q _ _ p];cases ir [bp (dX t n),.int 0] with
      |ok d T=>rfl
      |exc c T=>rfl
      |bad=>rfl
     rw[U,show g.hω.toNat=n by omega];cases B:rT (dX t n) 0 with
     |bad=>trivial
     |exc c s=>
       rw[B]at m;rw[show ir [bp (dX t n),.int 0]=_ from m];exact rfl
     |ok u s=>
       rw[B]at m;rw[show ir [bp (dX t n),.int 0]=_ from m];exact rfl
   ·rw[on C];trivial
structure S_q9 where
 voq:PostT
 v9q:Int
 vkq:Option (Option (List Int))
def C0:S_q9->L4:=λs=>[some (bp s.voq),some (D.int s.v9q),s.vkq.map (eO (eL D.int))]
abbrev yj:=S_q9->FlC S_q9 Bool
def tT:yj:=dI (λa s=>{s with vkq:=some a}) (bB (gS Al (pC (·.v9q)) (bF IH (vC (gI (λs=>some s.voq.standings) (λs=>some s.v9q))))))
def mF:yj:=bW (bB (kC false))
def tS:yj:=iW (bB (bx (gQ false) (vC (·.vkq)) (bx sP (bF (λg=>.ok g.roads) (pC (·.voq))) (pC (·.v9q)))))
 mF
 bU
def zE:yj:=J1 (λs=>some s.voq.roads) (λs y=>{s with voq:={s.voq with roads:=y}}) (pC (·.v9q)) (bB (vC (·.vkq)))
def zD:yj:=a9 (Ed rT (λs' s=>{s with voq:=s'.voq}) (pC (·.voq)) (pC (·.v9q)))
def zC:yj:=bW (bB (kC true))
def FW:yj:=aI tT
 (aI tS
 (aI zE
 (aI zD
 zC)))
def BD(b:PostT)(a:Int):OutC S_q9 Bool:=b7 none (FW ⟨b,a,none⟩)
theorem Rk:Cl.TJ C0 D.bl En FW:=aj (xs (ai (i0 (λb a=>N7 b a) xp (bq Ml (Nu (Sw (λ_=>rfl) (oY (λ_=>rfl))))))))
 (aj (bO (ai (aJ (ak (uP (vB (i4 gi) (i3 _)) (by decide) false) xv (ak oy (bq gp xp) xp))))
 (aT (ai xk))
 ba)
 (aj (Gv (λ_=>rfl) (λ_ _=>rfl) xp (ai xv))
 (aj (aG (sF (λ_=>rfl) (λ_ _=>rfl) (λb a=>FO b a) xp xp))
 (aT (ai xk)))))
theorem FL(b:PostT)(a:Int):SimO C0 D.bl (EK [bp b,D.int a]) (BD b a):=dM Rk rfl
structure S_v9 where
 voq:PostT
 v0q:Int
 v1q:Int
def CU:S_v9->L4:=λs=>[some (bp s.voq),some (D.int s.v0q),some (D.int s.v1q)]
abbrev Iu:=S_v9->FlC S_v9 Unit
def nv:Iu:=a9 (Ss (λs=>some s.voq.guild) (λs y=>{s with voq:={s.voq with guild:=y}}) (λs=>s.voq) (LD (λb a=>.ok (b,a)) (pC (·.v0q)) (pC (·.v1q))) (λo r=>p9 o r.1 r.2))
def tF:Iu:=a9 (oJ BA (λs' s=>{s with voq:=s'.voq}) (pC (·.voq)) (bx uX (pC (·.v0q)) (pC (·.v1q))) (bx u4 (pC (·.v0q)) (pC (·.v1q))))
def tE:Iu:=a9 (oJ BA (λs' s=>{s with voq:=s'.voq}) (pC (·.voq)) (bx u4 (pC (·.v0q)) (pC (·.v1q))) (bx uX (pC (·.v0q)) (pC (·.v1q))))
def zX:Iu:=aI nv
 (aI tF
 tE)
def qu(a:PostT)(c:Int)(b:Int):OutC S_v9 Unit:=b7 (some ()) (zX ⟨a,c,b⟩)
theorem Rf:Cl.TJ CU eN Ei zX:=aj (aG (Jw (λ_=>rfl) (λ_ _=>rfl) (λ_=>rfl) (Pd (eR:=(λ(r:Int×Int)=>[D.int r.1,D.int r.2])) (k:=.ok) (f:=λe d=>.ok (e,d)) (e0:=D.int) (e1:=D.int) (λ_ _=>rfl) xp xp) (λo r=>Ko o r.1 r.2) (λ_=>rfl)))
 (aj (aG (gq (λ_=>rfl) (λ_ _=>rfl) (λc b a=>FK c b a) xp (ak ot xp xp) (ak ou xp xp)))
 (aG (gq (λ_=>rfl) (λ_ _=>rfl) (λc b a=>FK c b a) xp (ak ou xp xp) (ak ot xp xp))))
theorem RD(a:PostT)(c:Int)(b:Int):SimO CU eN (MS [bp a,D.int c,D.int b]) (qu a c b):=fT (d:=()) rfl Rf rfl
structure S_bm9 where
 v7q:GΩ
 vkq:(List Int)
def yF:S_bm9->L4:=λs=>[some (au s.v7q),some ((eL D.int) s.vkq)]
abbrev Kt:=S_bm9->FlC S_bm9 (Int×Int×(List Int))
def vI:Kt:=bW (bB (gw (bF Mx (gS ID (pC (·.v7q)) (pC (·.vkq)))) (gw (bF oU (pC (·.vkq))) (pC (·.vkq)))))
def xQ:Kt:=vI
def Ah(a:GΩ)(b:List Int):OutC S_bm9 (Int×Int×(List Int)):=b7 none (xQ ⟨a,b⟩)
theorem NG:Cl.TJ yF (rA D.int D.int (eL D.int)) wZ xQ:=aT (ai (zn (bq Js (g9 (λ_=>rfl) (λb a=>RN b a) xp xp)) (bq iR xp) xp))
theorem NV(a:GΩ)(b:List Int):SimO yF (rA D.int D.int (eL D.int)) (m_bm9 [au a,(eL D.int) b]) (Ah a b):=dM NG rfl
structure S_r9 where
 voq:PostT
 v0q:Int
 v1q:Int
def CZ:S_r9->L4:=λs=>[some (bp s.voq),some (D.int s.v0q),some (D.int s.v1q)]
abbrev Bv:=S_r9->FlC S_r9 Unit
def nw:Bv:=a9 (Ss (λs=>some s.voq.guild) (λs y=>{s with voq:={s.voq with guild:=y}}) (λs=>s.voq) (LD (λb a=>.ok (b,a)) (pC (·.v0q)) (pC (·.v1q))) (λo r=>uo o r.1 r.2))
def tR:Bv:=a9 (oJ Gh (λs' s=>{s with voq:=s'.voq}) (pC (·.voq)) (pC (·.v0q)) (pC (·.v1q)))
def tQ:Bv:=a9 (oJ Gh (λs' s=>{s with voq:=s'.voq}) (pC (·.voq)) (pC (·.v1q)) (pC (·.v0q)))
def tP:Bv:=a9 (Ed BD (λs' s=>{s with voq:=s'.voq}) (pC (·.voq)) (bx uX (pC (·.v0q)) (pC (·.v1q))))
def tO:Bv:=a9 (Ed BD (λs' s=>{s with voq:=s'.voq}) (pC (·.voq)) (bx u4 (pC (·.v0q)) (pC (·.v1q))))
def zZ:Bv:=aI nw
 (aI tR
 (aI tQ
 (aI tP
 tO)))
def qv(a:PostT)(c:Int)(b:Int):OutC S_r9 Unit:=b7 (some ()) (zZ ⟨a,c,b⟩)
theorem Rj:Cl.TJ CZ eN Em zZ:=aj (aG (Jw (λ_=>rfl) (λ_ _=>rfl) (λ_=>rfl) (Pd (eR:=(λ(r:Int×Int)=>[D.int r.1,D.int r.2])) (k:=.ok) (f:=λe d=>.ok (e,d)) (e0:=D.int) (e1:=D.int) (λ_ _=>rfl) xp xp) (λo r=>RQ o r.1 r.2) (λ_=>rfl)))
 (aj (aG (gq (λ_=>rfl) (λ_ _=>rfl) (λb a c=>Kl b a c) xp xp xp))
 (aj (aG (gq (λ_=>rfl) (λ_ _=>rfl) (λb a c=>Kl b a c) xp xp xp))
 (aj (aG (sF (λ_=>rfl) (λ_ _=>rfl) (λb a=>FL b a) xp (ak ot xp xp)))
 (aG (sF (λ_=>rfl) (λ_ _=>rfl) (λb a=>FL b a) xp (ak ou xp xp))))))
theorem RG(a:PostT)(c:Int)(b:Int):SimO CZ eN (MV [bp a,D.int c,D.int b]) (qv a c b):=fT (d:=()) rfl Rj rfl
structure S_u9 where
 voq:PostT
 vuq:Int
 vjq:Int
 vkq:(Option (List Int))
def CV:S_u9->L4:=λs=>[some (bp s.voq),some (D.int s.vuq),some (D.int s.vjq),some ((eO (eL D.int)) s.vkq)]
abbrev F7:=S_u9->FlC S_u9 Unit
def tI:F7:=rE (λs=>some s.voq.told_last) (λs y=>{s with voq:={s.voq with told_last:=y}}) (bF cN (gw (pC (·.vuq)) (pC (·.vjq)))) (bB (pC (·.vkq)))
def mD:F7:=J7 (gI (λs=>some s.voq.standings) (λs=>some s.vjq)) (pI (λs=>some s.voq.standings) (λs y=>{s with voq:={s.voq with standings:=y}}) (λs=>some s.vjq)) (pC (·.vuq)) (bB (gS Ah (bF (λg=>.ok g.guild) (pC (·.voq))) (bx Ij (wY (cP (pC (·.vjq)) (jF:_->Res (List Int)))) (bF wU (pC (·.vkq))))))
def mE:F7:=a9 (qY (gI (λs=>some s.voq.standings) (λs=>some s.vjq)) (pI (λs=>some s.voq.standings) (λs y=>{s with voq:={s.voq with standings:=y}}) (λs=>some s.vjq)) (pC (·.vuq)))
def tG:F7:=iW (bB (oh wv (bF (λg=>.ok g.guild) (pC (·.voq))) (pC (·.vjq)) (pC (·.vkq))))
 mD
 mE
def FT:F7:=aI tI
 tG
def IA(c:PostT)(b:Int)(a:Int)(d:Option (List Int)):OutC S_u9 Unit:=b7 (some ()) (FT ⟨c,b,a,d⟩)
theorem Rg:Cl.TJ CV eN Ej FT:=aj (j8 (λ_=>rfl) (λ_ _=>rfl) (cH bP (br xp xp)) (ai xp))
 (bO (ai (aJ (Nw (λb a c=>NX b a c) (bq db xp) xp xp)))
 (Gx (Sw (λ_=>rfl) (oY (λ_=>rfl))) (SZ (λ_=>rfl) (λ_ _=>rfl) (oY (λ_=>rfl))) xp (ai (i0 (λb a=>NV b a) (bq db xp) (ak Jv (dO (bJ xp dN)) (cH jt xp)))))
 (aG (y0 (Sw (λ_=>rfl) (oY (λ_=>rfl))) (SZ (λ_=>rfl) (λ_ _=>rfl) (oY (λ_=>rfl))) xp)))
theorem RE(c:PostT)(b:Int)(a:Int)(e:Option (List Int)):SimO CV eN (MT [bp c,D.int b,D.int a,(eO (eL D.int)) e]) (IA c b a e):=fT (d:=()) rfl Rg rfl
structure S_o9 where
 voq:PostT
 v0q:Int
 v1q:Int
def C3:S_o9->L4:=λs=>[some (bp s.voq),some (D.int s.v0q),some (D.int s.v1q)]
abbrev Bw:=S_o9->FlC S_o9 Bool
def kR:Bw:=a9 (bB (gS lV (bF (λg=>.ok g.guild) (pC (·.voq))) (wY (cP (pC (·.v0q)) (cP (pC (·.v1q)) (jF:_->Res (List Int)))))))
def mH:Bw:=cJ 15
def nz:Bw:=iW (bB (bx (vt true) (bF cN (gw (pC (·.v0q)) (pC (·.v1q)))) (bF (λg=>.ok g.letters) (pC (·.voq)))))
 mH
 bU
def tU:Bw:=a9 (SM IA (λs' s=>{s with voq:=s'.voq}) (λs=>some s.voq) (pC (·.v0q)) (pC (·.v1q)) (vq (λs=>some s.voq.letters) (λs y=>{s with voq:={s.voq with letters:=y}}) (bF cN (gw (pC (·.v0q)) (pC (·.v1q))))))
def zG:Bw:=bW (Ed BD (λs' s=>{s with voq:=s'.voq}) (pC (·.voq)) (pC (·.v1q)))
def v9:Bw:=aI kR
 (aI nz
 (aI tU
 zG))
def lU(a:PostT)(c:Int)(b:Int):OutC S_o9 Bool:=b7 none (v9 ⟨a,c,b⟩)
theorem Rm:Cl.TJ C3 D.bl Ep v9:=aj (aG (ai (g9 (λ_=>rfl) (λb a=>rL b a) (bq db xp) (dO (bJ xp (bJ xp dN))))))
 (aj (bO (ai (aJ (ak (uQ true) (cH bP (br xp xp)) (bq eZ xp))))
 dH
 ba)
 (aj (aG (P7 (λ_=>rfl) (λ_ _=>rfl) (λ_=>rfl) (λb a d c=>RE b a d c) xp xp (sG (λ_=>rfl) (λ_ _=>rfl) (cH bP (br xp xp)))))
 (aT (sF (λ_=>rfl) (λ_ _=>rfl) (λb a=>FL b a) xp xp))))
theorem Km(a:PostT)(c:Int)(b:Int):SimO C3 D.bl (Hy [bp a,D.int c,D.int b]) (lU a c b):=dM Rm rfl
structure S_p9 where
 voq:PostT
 vgq:Option (List Int)
def C1:S_p9->L4:=λs=>[some (bp s.voq),s.vgq.map (pw D.int)]
abbrev Oj:=S_p9->FlC S_p9 Bool
def ny:Oj:=dI (λa s=>{s with vgq:=some a}) (bB (mV BC (pC (·.voq))))
def zF:Oj:=bW (oJ lU (λs' s=>{s with voq:=s'.voq}) (pC (·.voq)) (bx sP (vC (·.vgq)) (kC (0:Int))) (bx sP (vC (·.vgq)) (kC (1:Int))))
def z0:Oj:=aI ny
 zF
def qx(a:PostT):OutC S_p9 Bool:=b7 none (z0 ⟨a,none⟩)
theorem Rl:Cl.TJ C1 D.bl Eo z0:=aj (xs (ai (tj (λ_=>rfl) (λa=>RF a) xp)))
 (aT (gq (λ_=>rfl) (λ_ _=>rfl) (λa c b=>Km a c b) xp (ak sD xv xk) (ak sD xv xk)))
theorem RH(a:PostT):SimO C1 D.bl (MW [bp a]) (qx a):=dM Rl rfl
structure S_bf9 where
 viq:PostT
 vcq:Int
 v0q:Int
 v1q:Int
 veq:Option (List Bool)
 v6q:Option Int
def r8:S_bf9->L4:=λs=>[some (bp s.viq),some (D.int s.vcq),some (D.int s.v0q),some (D.int s.v1q),s.veq.map (eL D.bl),s.v6q.map D.int]
abbrev Ad:=S_bf9->FlC S_bf9 (List Bool)
def vS:Ad:=dI (λa s=>{s with veq:=some a}) (bB (wY (jF:_->Res (List Bool))))
def k9:Ad:=BN (λs=>jK (r8 s) (some 5)) (N9 [10,11,12,13,14,15]) (iW (bB (bx (gQ false) (pC (·.vcq)) (kC (0:Int)))) (a9 (oJ lU (λs' s=>{s with viq:=s'.voq}) (pC (·.viq)) (pC (·.v0q)) (pC (·.v1q)))) (iW (bB (bx (gQ false) (pC (·.vcq)) (kC (1:Int)))) (a9 (oJ qv (λs' s=>{s with viq:=s'.voq}) (pC (·.viq)) (pC (·.v0q)) (pC (·.v1q)))) (iW (bB (bx (gQ false) (pC (·.vcq)) (kC (2:Int)))) (a9 (oJ qu (λs' s=>{s with viq:=s'.voq}) (pC (·.viq)) (pC (·.v0q)) (pC (·.v1q)))) (a9 (QH qx (λs' s=>{s with viq:=s'.voq}) (pC (·.viq))))))) λc=>(aI (dI (λa s=>{s with veq:=some a}) (bB (wY (cP (kC (match c with|10=>false|11=>true|12=>false|13=>false|14=>false|15=>false|_=>false)) (cP (kC (match c with|10=>false|11=>false|12=>false|13=>false|14=>false|15=>true|_=>false)) (cP (kC (match c with|10=>false|11=>false|12=>true|13=>false|14=>false|15=>false|_=>false)) (jF:_->Res (List Bool)))))))) (dI (λa s=>{s with veq:=some a}) (bB (bx Ij (vC (·.veq)) (wY (cP (kC (match c with|10=>false|11=>false|12=>false|13=>true|14=>false|15=>false|_=>false)) (cP (kC (match c with|10=>true|11=>true|12=>true|13=>true|14=>true|15=>true|_=>false)) (jF:_->Res (List Bool)))))))))
def vR:Ad:=bW (Ov (λs=>s.veq) (λs=>{s with veq:=none}))
def xX:Ad:=aI vS
 (aI k9
 vR)
def qa(a:PostT)(b:Int)(d:Int)(c:Int):OutC S_bf9 (List Bool):=b7 none (xX ⟨a,b,d,c,none,none⟩)
theorem NO:Cl.TJ r8 (eL D.bl) xf xX:=aj (xs (ai (dO dN)))
 (aj (Ky (bO (ai (aJ (ak (dg false) xp xk))) (aG (gq (λ_=>rfl) (λ_ _=>rfl) (λa c b=>Km a c b) xp xp xp)) (bO (ai (aJ (ak (dg false) xp xk))) (aG (gq (λ_=>rfl) (λ_ _=>rfl) (λa c b=>RG a c b) xp xp xp)) (bO (ai (aJ (ak (dg false) xp xk))) (aG (gq (λ_=>rfl) (λ_ _=>rfl) (λa c b=>RD a c b) xp xp xp)) (aG (Mv (λ_=>rfl) (λ_ _=>rfl) (λa=>RH a) xp))))) λ_=>(aj (xs (ai (dO (bJ xk (bJ xk (bJ xk dN)))))) (xs (ai (ak Jv xv (dO (bJ xk (bJ xk dN))))))))
 (aT (yY (λ_=>rfl) (λ_=>rfl))))
theorem N5(a:PostT)(b:Int)(d:Int)(c:Int):SimO r8 (eL D.bl) (m_bf9 [bp a,D.int b,D.int d,D.int c]) (qa a b d c):=iY NO rfl
structure S_bd9 where
 vlq:(List Int)
 vpq:Option Int
 vsq:Option L3
 v7q:Option GΩ
 v0q:Option Int
 v1q:Option Int
 viq:Option PostT
 v3q:Option Int
 vcq:Option Int
 vnq:Option ((List (Option (List Int)))×(List (Int×Int×(Option (List Int))))×(List (List (Option (List Int)))))
 vdq:Option (List (Int×Int×(Option (List Int))))
 v5q:Option Str
def yN:S_bd9->L4:=λs=>[some (eS s.vlq),s.vpq.map D.int,s.vsq.map (eL (Ia D.int D.int)),s.v7q.map au,s.v0q.map D.int,s.v1q.map D.int,s.viq.map bp,s.v3q.map D.int,s.vcq.map D.int,s.vnq.map (Ny (eL (eO (eL D.int))) (eL (rA D.int D.int (eO (eL D.int)))) (eL (eL (eO (eL D.int))))),s.vdq.map (eL (rA D.int D.int (eO (eL D.int)))),s.v5q.map D.str]
abbrev ce:=S_bd9->FlC S_bd9 Bool
def pV:ce:=dI (λa s=>{s with vpq:=some a}) (bB (bx uk (kC (1:Int)) (bx mW (gS rR (pC (·.vlq)) (kC (0:Int))) (kC (6:Int)))))
def pU:ce:=dI (λa s=>{s with vsq:=some a}) (bB (gS Ai (gS rR (pC (·.vlq)) (kC (1:Int))) (vC (·.vpq))))
def pT:ce:=dI (λa s=>{s with v7q:=some a}) (bB (G8 mk_Guild (vC (·.vpq))))
def fV:ce:=a9 (oJ p9 (λs' s=>{s with v7q:=some s'.voq}) (vC (·.v7q)) (vC (·.v0q)) (vC (·.v1q)))
def pR:ce:=sJ (λs=>s.vsq) (λa s=>{s with v0q:=some a.1,v1q:=some a.2})
 fV
def pQ:ce:=dI (λa s=>{s with viq:=some a}) (bB (G8 mk_Post (vC (·.v7q))))
def jV:ce:=dI (λa s=>{s with vcq:=some a}) (bB (bx mW (vC (·.v3q)) (kC (4:Int))))
def jU:ce:=dI (λa s=>{s with v0q:=some a}) (bB (bx KG (bx mW (bx pe (vC (·.v3q)) (kC (4:Int))) (bx uk (vC (·.vpq)) (kC (2:Int)))) (kC (1:Int))))
def jT:ce:=dI (λa s=>{s with v1q:=some a}) (bB (bx KG (bx mW (bx pe (bx pe (vC (·.v3q)) (kC (4:Int))) (bx uk (vC (·.vpq)) (kC (2:Int)))) (bx uk (vC (·.vpq)) (kC (2:Int)))) (kC (1:Int))))
def jS:ce:=dI (λa s=>{s with vnq:=some a}) (bB (gS wx (vC (·.viq)) (vC (·.vpq))))
def jR:ce:=dI (λa s=>{s with vdq:=some a}) (bB (mV Gf (vC (·.viq))))
def jb:ce:=dI (λa s=>{s with v0q:=some a}) (bB (bF Bb (bx sP (vC (·.vdq)) (bx mW (bx pe (vC (·.v3q)) (kC (12:Int))) (bF oU (vC (·.vdq)))))))
def ja:ce:=dI (λa s=>{s with v1q:=some a}) (bB (bF qO (bx sP (vC (·.vdq)) (bx mW (bx pe (vC (·.v3q)) (kC (12:Int))) (bF oU (vC (·.vdq)))))))
def d4:ce:=iW (bB (p5 (bx (gQ false) (vC (·.vcq)) (kC (0:Int))) (p5 (bx (gQ false) (bx mW (bx pe (vC (·.v3q)) (kC (4:Int))) (kC (3:Int))) (kC (0:Int))) (bx S0 (bF oU (vC (·.vdq))) (kC (0:Int))))))
 (aI jb
 ja)
 bU
def jQ:ce:=dI (λa s=>{s with v5q:=some a}) (bB (Pj Ak (vC (·.vdq)) (vC (·.vsq)) (vC (·.vpq)) (vC (·.vcq)) (vC (·.v0q)) (vC (·.v1q))))
def pO:ce:=bW (bB (kC false))
def jP:ce:=iW (RU (gQ true) (QG qa (λs' s=>{s with viq:=some s'.viq}) (vC (·.viq)) (vC (·.vcq)) (vC (·.v0q)) (vC (·.v1q))) (bB (mV Aj (vC (·.v5q)))))
 pO
 bU
def i9:ce:=a9 (Nf (λs=>s.vsq) (λs y=>{s with vsq:=some y}) sf (gw (bx uX (vC (·.v0q)) (vC (·.v1q))) (bx u4 (vC (·.v0q)) (vC (·.v1q)))))
def fU:ce:=iW (bB (p5 (bx (gQ false) (vC (·.v5q)) (kC ("done" : Str))) (bx (gQ false) (vC (·.vcq)) (kC (1:Int)))))
 i9
 bU
def iz:ce:=a9 (Nf (λs=>s.vsq) (λs y=>{s with vsq:=some y}) ui (gw (bx uX (vC (·.v0q)) (vC (·.v1q))) (bx u4 (vC (·.v0q)) (vC (·.v1q)))))
def eT:ce:=iW (bB (p5 (bx (gQ false) (vC (·.v5q)) (kC ("done" : Str))) (bx (gQ false) (vC (·.vcq)) (kC (2:Int)))))
 iz
 bU
def m9:ce:=bW (bB (kC false))
def eQ:ce:=iW (bB (p5 (bx (gQ true) (vC (·.v5q)) (kC ("done" : Str))) (bx (gQ true) (gS wx (vC (·.viq)) (vC (·.vpq))) (vC (·.vnq)))))
 m9
 bU
def lj:ce:=aI jV
 (aI jU
 (aI jT
 (aI jS
 (aI jR
 (aI d4
 (aI jQ
 (aI jP
 (aI fU
 (aI eT
 eQ)))))))))
def pP:ce:=l7 (bx Ki (pC (·.vlq)) (kC (2:Int))) (λa s=>{s with v3q:=some a})
 lj
def vV:ce:=bW (bB (kC true))
def xZ:ce:=aI pV
 (aI pU
 (aI pT
 (aI pR
 (aI pQ
 (aI pP
 vV)))))
def Gj(a:List Int):OutC S_bd9 Bool:=b7 none (xZ ⟨a,none,none,none,none,none,none,none,none,none,none,none⟩)
theorem NQ:Cl.TJ yN D.bl xh xZ:=aj (xs (ai (ak oz xk (ak iQ (i0 (λa b=>FN a b) xp xk) xk))))
 (aj (xs (ai (i0 (λa b=>NY a b) (i0 (λa b=>FN a b) xp xk) xv)))
 (aj (xs (ai (xI jw xv)))
 (aj (BO (λ_=>rfl) (λ_ _=>rfl)
 (aG (gq (λ_=>rfl) (λ_ _=>rfl) (λa b c=>Ko a b c) xv xv xv)))
 (aj (xs (ai (xI sR xv)))
 (aj (j7 (kL (ak Hl (xJ KS xp) xk)) (λ_ _=>rfl)
 (aj (xs (ai (ak iQ xv xk)))
 (aj (xs (ai (ak Jr (ak iQ (ak lF xv xk) (ak oz xv xk)) xk)))
 (aj (xs (ai (ak Jr (ak iQ (ak lF (ak lF xv xk) (ak oz xv xk)) (ak oz xv xk)) xk)))
 (aj (xs (ai (i0 (λa b=>FM a b) xv xv)))
 (aj (xs (ai (tj (λ_=>rfl) (λa=>Kk a) xv)))
 (aj (bO (ai (eB (aJ (ak (dg false) xv xk)) (eB (aJ (ak (dg false) (ak iQ (ak lF xv xk) xk) xk)) (aJ (ak PY (bq iR xv) xk)))))
 (aj (xs (ai (rs PU (ak oy xv (ak iQ (ak lF xv xk) (bq iR xv))))))
 (xs (ai (rs PR (ak oy xv (ak iQ (ak lF xv xk) (bq iR xv)))))))
 ba)
 (aj (xs (ai (Nv (λa b c d f e=>N0 a b c d f e) xv xv xv xv xv xv)))
 (aj (bO (Mu (P9 (uP (i4 Q7) (by decide) true) (Mw (λ_ _=>rfl) (λa b c d=>N5 a b c d) xv xv xv xv) (ai (tm (λa=>NZ a) xv))))
 (aT (ai xk))
 ba)
 (aj (bO (ai (eB (aJ (ak (l5 false) xv xk)) (aJ (ak (dg false) xv xk))))
 (aG (yZ (λ_=>rfl) (λ_ _=>rfl) (Q3 (xL gi gi) (by decide)) (br (ak ot xv xv) (ak ou xv xv))))
 ba)
 (aj (bO (ai (eB (aJ (ak (l5 false) xv xk)) (aJ (ak (dg false) xv xk))))
 (aG (yZ (λ_=>rfl) (λ_ _=>rfl) Fg (br (ak ot xv xv) (ak ou xv xv))))
 ba)
 (bO (ai (eB (aJ (ak (l5 true) xv xk)) (aJ (ak (uP (NB (i4 (vB (i4 gi) (i3 _))) (i4 (NA gi gi (vB (i4 gi) (i3 _)))) (i4 (i4 (vB (i4 gi) (i3 _))))) (by decide) true) (i0 (λa b=>FM a b) xv xv) xv))))
 (aT (ai xk))
 ba))))))))))))
 (aT (ai xk)))))))
theorem N6(a:List Int):SimO yN D.bl (m_bd9 [eS a]) (Gj a):=dM NQ rfl
end
def jc(ns:List Int)(k:Int):Int:=(ns[k.toNat]?).getD 0
theorem GO(ns:List Int)(k:Int)(a:0<=k):(rR ns k).res=.ok (jc ns k):=by
 unfold rR xY vU vT la jc;by_cases h:k<ns.length
 ·obtain⟨v,e⟩:∃v,ns[k.toNat]?=some v:=⟨_,TV (by omega)⟩;simp[h,lT ns a,e]
 ·have e:ns[k.toNat]?=none:=T4 (by omega);simp[h,e]
def PairOk(sz:Int)(k:List Int):Prop:=∃a b,k=[a,b]/\0<=a/\a<sz/\0<=b/\b<sz
structure RoadOk (sz:Int) (r:List Int):Prop where
 two:2<=r.length
 last:r.getLast?=some 0
 nd:r.Nodup
 all:∀x∈r,0<=x/\x<sz
theorem yi{W:Type}{l:List W}{x:W}(h:l.length<ao):ui l x=some ((),l++[x]):=by unfold ui;rw[if_pos h]
theorem eG:∀(n:Nat) (l:List Int),l.Nodup->(∀x∈l,0<=x/\x<n)->l.length<=n:=by
 intro n
 induction n with
 |zero=>
   intro l nd a;cases l with
   |nil=>exact TM _
   |cons x l=>have:=a x Tu;omega
 |succ n d=>
   intro l nd a
   have c:=d (l.erase n) (nd.erase _) λx e=>by
    have b:=(nd.mem_erase_iff).mp e
    have:=a x b.2
    have f:=b.1;omega
   rw[List.length_erase]at c;split at c<;>omega
theorem RoadOk.len{sz:Int}{r:List Int}(h:RoadOk sz r):(r.length:Int)<=sz:=by
 have:=eG sz.toNat r h.nd λx a=>by have:=h.all x a;omega
 obtain⟨x,a⟩:=Wg r (λz=>by have:=h.two;rw[z]at this;simp at this)
 have:=h.all x a
 omega
theorem oA{W:Type}{l:List W}{a:W}(h:l.Nodup)(d:a∉l):(l++[a]).Nodup:=
 Uf.mpr ⟨h,by simp,λx c y b=>by rw[TX.mp b];rintro rfl;exact d c⟩
structure WaysOk (sz:Int) (W:L3):Prop where
 nd:W.Nodup
 all:∀p∈W,0<=p.1/\p.1<p.2/\p.2<sz
 len:W.length<=10000
theorem GD(c sz:Int)(P:1<=sz)(O:sz<=60):∃W:L3,(Ai c sz).res=.ok W/\WaysOk sz W:=by
 generalize j:(c+1)*48271%2147483647*16807%2147483647=d
 obtain⟨s',e,k,C,g,W,rfl,y,n,m,v⟩:=kF (u:=λa s=>{s with v0q:=some a}) (c:=jN) (λp (s:S_bj9)=>∃k C g W,s=⟨c,sz,some d,some W,some k,C,g⟩/\0<=k/\W.Nodup/\(∀q∈W,0<=q.1/\q.1<q.2/\q.2<sz/\q.1<(p.length:Int))/\W.length<=p.length*100)
  (dQ 0 sz) ⟨c,sz,some d,some [],some 0,none,none⟩ ⟨0,none,none,[],rfl,by omega,by simp,λ_ h=>(nomatch h),by simp⟩ (by
    rintro p a r s G ⟨k,C,g,W,rfl,y,n,m,v⟩;have N:=yB G;have E:(p.length:Int)=a:=by omega
    obtain⟨s2,H,k2,I,J,rfl,w,t,B,F⟩:=kF (u:=λa s=>{s with v1q:=some a}) (c:=ig) (λq (s:S_bj9)=>∃k g W,s=⟨c,sz,some d,some W,some k,some a,g⟩/\0<=k/\W.Nodup/\(∀x∈W,0<=x.1/\x.1<x.2/\x.2<sz/\(x.1<a\/x.1=a/\x.2<a+1+(q.length:Int)))/\W.length<=p.length*100+q.length)
     (dQ (a+1) sz) ⟨c,sz,some d,some W,some k,some a,g⟩ ⟨k,g,W,rfl,y,n,λx i=>by have:=m x i;omega,by simpa using v⟩ (by
       rintro q b K s o ⟨k,g,W,rfl,y,n,m,v⟩;have M:=yB o
       have L:q.length<60:=by
        have:=gH (a+1) sz
        rw[o,TU,TD]at this;omega
       have f:0<=k%29:=WF _ (by omega);by_cases D:d / 2 ^ (k%29).toNat%2=1
       · have A:=yi (l:=W) (x:=(a,b)) (by unfold ao;omega);refine⟨_,.inl ?_,k+1,some b,W++[(a,b)],rfl,by omega,oA n (λz=>by have:=m _ z;omega),λx i=>?_,by rw[List.length_append,List.length_append];simp;omega⟩
         ·simp[ig,hZ,gM,hV,f,D,A]
         · rw[TU];rcases TY.mp i with z|z
           ·have:=m x z;simp;omega
           ·rw[TX.mp z];simp;omega
       · refine⟨_,.inl ?_,k+1,some b,W,rfl,by omega,n,λx i=>?_,by rw[TU];omega⟩
         ·simp[ig,hZ,hV,f,D]
         ·have:=m x i;rw[TU];simp;omega)
    refine⟨_,.inl ?_,k2,some a,I,J,rfl,w,t,λx i=>?_,?_⟩
    ·simp only[jN,l7,bx,uk,vC,pC,kC,Res.bind];rw[ka (by omega) (by omega) (by omega) (by omega)];exact H
    ·have:=B x i;rw[TU];simp;omega
    ·have:=gH (a+1) sz;rw[TU];simp;omega)
 refine⟨W,?_,n,λp hp=>by have:=m p hp;omega,by have:=gH 0 sz;omega⟩;unfold Ai xT;simp[vO,vN,vM,vL,vK,j,ao,ka (lo:=0) (hi:=sz) (by omega) (by omega) (by omega) (by omega),e]
theorem EN(l:List Int)(m:Int):0<=cX l m↔0<=m/\∀x∈l,0<=x:=by
 obtain⟨e,f,d⟩:=iU l m;constructor
 ·intro h;exact⟨by omega,λx c=>by have:=d x c;omega⟩
 · rintro⟨a,b⟩;rcases e with z|z
   ·omega
   ·exact b _ z
theorem Ar(b:List Int)(n:Int)(h:∀x∈b,0<=x/\x<n)(h0:0<n):(rQ b n).res=.ok ():=by
 unfold rQ ud
 first | unfold pG | skip
 cases b with
 |nil=>
   have q:¬ n<=0:=by omega
   simp[q]
 |cons a l=>
   have g:0<=cX l a:=(EN l a).mpr ⟨(h a Tu).1,λx e=>(h x (Tt _ e)).1⟩
   have f:f9 l a<n:=by
    obtain⟨z|z,_⟩:=jG l a
    ·rw[z];exact(h a Tu).2
    ·exact(h _ (Tt _ z)).2
   have d:¬ cX l a<0:=by omega
   have c:¬ n<=f9 l a:=by omega
   simp[d,c]
theorem iG(g:GΩ)(a:List Int)(h:∀x∈a,0<=x/\x<g.hω)(h0:0<g.hω):(lV g a).res=.ok ():=by
 have e:=Ar a g.hω h h0;unfold lV z6
 first | unfold t4 | skip
 simp[e]
theorem in1{a n:Int}(c:0<=a/\a<n):∀x∈[a],0<=x/\x<n:=λx b=>by rw[TX.mp b];exact c
theorem Oy{a b n:Int}(e:0<=a/\a<n)(d:0<=b/\b<n):∀x∈[a,b],0<=x/\x<n:=λx c=>by
 rcases Tz.mp c with z|z
 ·rw[z];exact e
 ·rw[TX.mp z];exact d
theorem wC(g:GΩ)(a b:Int)(f:0<=a/\a<g.hω)(d:0<=b/\b<g.hω)(c:a≠b):(p8 g a b).res=.ok ():=by
 have e:=iG g [a,b] (Oy f d) (by omega);unfold p8 z5;simp[nA,t3,e,c,ao]
theorem Au(g:GΩ)(a b:Int)(d:0<=a/\a<g.hω)(c:0<=b/\b<g.hω):(IF g a b).res=.ok ((g.lω.get [a,b]).getD 0):=by
 have e:=iG g [a,b] (Oy d c) (by omega);unfold IF F3;simp[zP,zO,e,ao]
theorem GK(g:GΩ)(r:List Int)(a:RoadOk g.hω r)(h:g.hω<=1000):(IC g r).res=.ok ():=by
 have f:=a.len;have two:=a.two;have e:=iG g r a.all (by omega);have d:¬ (r.length:Int)<2:=by omega
 have b:r.length<4000:=by omega
 have c:=a.last;unfold IC FZ;simp[zL,zK,zJ,zI,e,d,b,Cl.wn,c,FD a.nd]
def wM(L Q:DI Int)(r:List Int):Int:=(Q.get r).getD (match r with|a::b::_=>(L.get [a,b]).getD 0|_=>0)
def eJ(L Q:DI Int)(r:List Int):Int×Int×List Int:=(0-wM L Q r,(r.length:Int),r)
theorem Ks{W:Type}(a b:W)(t:List W):lp (a::b::t) 0=some a:=by rw[lT _ (by omega)];rfl
theorem Ta{W:Type}(a b:W)(t:List W):lp (a::b::t) 1=some b:=by rw[lT _ (by omega)];rfl
theorem GH(g:GΩ)(r:List Int)(c:RoadOk g.hω r)(i:g.hω<=1000):(ID g r).res=.ok (wM g.lω g.wω r):=by
 have e:=GK g r c i
 obtain⟨a,b,t,rfl⟩:∃a b t,r=a::b::t:=by
  match r,c.two with
  |a::b::t,_=>exact⟨a,b,t,rfl⟩
 have h:=c.all a (by simp);have f:=c.all b (by simp);have d:=Au g a b h f;unfold ID F1 wM;cases q:g.wω.get (a::b::t) with
 |none=>simp[t8,t7,t6,i5,t5,e,q,Ks,Ta,d]
 |some v=>simp[t8,t7,t6,i5,t5,e,q]
theorem KQ(g:GΩ)(r:List Int)(a:RoadOk g.hω r)(b:g.hω<=1000):(Ah g r).res=.ok (eJ g.lω g.wω r):=by
 have e:=GH g r a b;unfold Ah xQ eJ
 first | unfold vI | skip
 simp[e,Int.zero_sub]
theorem Cg(g:GΩ)(a b:Int)(j:0<=a/\a<g.hω)(i:0<=b/\b<g.hω)(c:a≠b)(f:g.U.get [a,b]=none)(h:g.U.length+1<ao):p9 g a b=.ok () ⟨{g with U:=(g.U.put [a,b] true).put [b,a] true},a,b⟩:=by
 have e:=wC g a b j i c;have d:g.U.length<ao:=by omega
 have l2:(g.U.put [a,b] true).length<ao:=Nat.lt_of_le_of_lt sj h;unfold p9 wd;simp[nC,ub,zT,zS,e,f,d,l2]
theorem GL(g:GΩ)(a b:Int)(k:0<=a/\a<g.hω)(j:0<=b/\b<g.hω)(c:a≠b)(i:(g.U.get [a,b]).isSome=true)(d:(g.U.get [b,a]).isSome=true):uo g a b=.ok () ⟨{g with U:=(g.U.del [a,b]).del [b,a]},a,b⟩:=by
 have e:=wC g a b k j c;obtain⟨x,ex⟩:=Vg.mp i;obtain⟨y,l⟩:=Vg.mp d
 have f:(g.U.del [a,b]).get [b,a]=some y:=by
  rw[sS,on (by intro z;injection z with h m;exact c h.symm)];exact l
 unfold uo wc;simp[nB,t9,zR,zQ,e,ex,f]
structure GuildIs (g:GΩ) (sz:Int) (U:L3) (Z Y:DI Int) (X:L3):Prop where
 count:g.hω=sz
 way:∀x y,(g.U.get [x,y]).isSome=true↔(x,y)∈U\/(y,x)∈U
 lik:∀k,g.lω.get k=Z.get k
 wsh:∀k,g.wω.get k=Y.get k
 shn:∀x y,(g.sω.get [x,y]).isSome=true↔(x,y)∈X
theorem zm{X:Type}(k:List Int):DI.get ([]:DI X) k=none:=rfl
theorem HK{X:Type}{F:DI X}(a:DI.nd F){k:List Int}(b:k∈F.map (·.1)):∃v,F.get k=some v/\(k,v)∈F:=by
 obtain⟨p,hp,rfl⟩:=T9.mp b;exact⟨p.2,fS a hp,hp⟩
structure Wf (sz:Int) (g:GΩ):Prop where
 count:g.hω=sz
 U:DI.nd g.U/\∀p∈g.U,PairOk sz p.1
 lik:DI.nd g.lω/\∀p∈g.lω,PairOk sz p.1
 shn:DI.nd g.sω/\∀p∈g.sω,PairOk sz p.1
 wsh:DI.nd g.wω/\∀p∈g.wω,RoadOk sz p.1
theorem lG{X:Type}{F:DI X}{k:List Int}(h:DI.nd F):DI.nd (F.del k):=by
 unfold DI.nd DI.del at *;exact h.sublist (List.Sublist.map _ List.filter_sublist)
theorem gb{X:Type}{F:DI X}{k:List Int}{p:List Int×X}(h:p∈F.del k):p∈F:=(U8.mp h).1
theorem Wf.lay{sz:Int}{g:GΩ}(h:Wf sz g){a b:Int}(d:0<=a/\a<sz)(c:0<=b/\b<sz):Wf sz {g with U:=(g.U.put [a,b] true).put [b,a] true}:=
 ⟨h.count,⟨oG (oG h.U.1),ke (P:=PairOk sz) (ke (P:=PairOk sz) h.U.2 ⟨a,b,rfl,d.1,d.2,c.1,c.2⟩) ⟨b,a,rfl,c.1,c.2,d.1,d.2⟩⟩,h.lik,h.shn,h.wsh⟩
theorem Wf.lift{sz:Int}{g:GΩ}(h:Wf sz g)(a b:Int):Wf sz {g with U:=(g.U.del [a,b]).del [b,a]}:=
 ⟨h.count,⟨lG (lG h.U.1),λp hp=>h.U.2 p (gb (gb hp))⟩,h.lik,h.shn,h.wsh⟩
theorem Wf.new{sz:Int}:Wf sz ⟨sz,[],[],[],[]⟩:=⟨rfl,⟨by unfold DI.nd;simp,by simp⟩,⟨by unfold DI.nd;simp,by simp⟩,⟨by unfold DI.nd;simp,by simp⟩,⟨by unfold DI.nd;simp,by simp⟩⟩
theorem Dj{F:DI Bool}{a b x y:Int}{p:L3}(h:(F.get [x,y]).isSome=true↔(x,y)∈p\/(y,x)∈p):((((F.put [a,b] true).put [b,a] true).get [x,y])).isSome=true↔(x,y)∈p++[(a,b)]\/(y,x)∈p++[(a,b)]:=by
 rw[nn,nn,TY,TY,TX,TX];by_cases e:[x,y]=[b,a]
 ·rw[Tq e];injection e with e c;injection c with c;subst e c;simp
 · rw[on e];by_cases c:[x,y]=[a,b]
   ·rw[Tq c];injection c with c d;injection d with d;subst c d;simp
   · rw[on c,h];constructor
     · rintro(z|z)
       ·exact .inl (.inl z)
       ·exact .inr (.inl z)
     · rintro((z|z) | (z|z))
       ·exact .inl z
       ·injection z with d f;subst d f;exact absurd rfl c
       ·exact .inr z
       ·injection z with d f;subst d f;exact absurd rfl e
structure PathOk (sz:Int) (r:List Int):Prop where
 ne:r≠[]
 last:r.getLast?=some 0
 nd:r.Nodup
 all:∀x∈r,0<=x/\x<sz
theorem PathOk.len{sz:Int}{r:List Int}(p:PathOk sz r):(r.length:Int)<=sz:=by
 have:=eG sz.toNat r p.nd λx a=>by have:=p.all x a;omega
 obtain⟨x,a⟩:=Wg r p.ne
 have:=p.all x a
 omega
theorem PathOk.road{sz h:Int}{r:List Int}(p:PathOk sz r)(c:0<=h/\h<sz)(b:h∉r):RoadOk sz (h::r):=by
 obtain⟨q,t,rfl⟩:∃q t,r=q::t:=by
  cases r with
  |nil=>exact absurd rfl p.ne
  |cons q t=>exact⟨q,t,rfl⟩
 refine⟨by simp,?_,T3.mpr ⟨b,p.nd⟩,λx a=>?_⟩
 ·rw[List.getLast?_cons_cons];exact p.last
 · rcases Tz.mp a with z|z
   ·rw[z];exact c
   ·exact p.all x z
theorem RoadOk.path{sz:Int}{r:List Int}(h:RoadOk sz r):PathOk sz r:=⟨λz=>by have:=h.two;rw[z]at this;simp at this,h.last,h.nd,h.all⟩
def xn(sh:Int->Bool)(h:Int)(r:List Int):Bool:=!decide (h∈r)&&!r.any sh
def Gk(g:GΩ)(h b:Int):Bool:=(g.sω.get [h,b]).isSome
theorem p4{W:Type}(f:W->Bool):∀l:List W,(l.map f).any id=l.any f
 |[]=>rfl
 |a::l=>by rw[Tr,Vu,Vu,p4 f l];rfl
theorem Ce(g:GΩ)(a:Int)(c:List Int)(h:c.length<ao):(IB g a c).res=.ok (c.any (Gk g a)):=by
 have e:∀s:S_k9,s=⟨g,a,c⟩->fW (pC (·.vaq)) (λ_=>.ok true) (bx (vt false) (bF cN (gw (pC λp=>p.2.v0q) (pC λp=>p.1))) (bF (λg=>.ok g.sω) (pC λp=>p.2.voq))) s=.ok (c.map (Gk g a)):=by
  rintro s rfl;exact lh (l:=c) (Gk g a) rfl h λb _=>by simp[Gk]
 unfold IB FY zH;simp only[bW,bB,bF];rw[e _ rfl];simp[p4]
def xm(sh:Int->Bool)(h:Int)(o:Option (List Int)):Bool:=match o with
 |none=>false
 |some r=>decide (h≠0)&&xn sh h r
theorem KN(g:GΩ)(h:Int)(o:Option (List Int))(b:∀r,o=some r->r.length<ao):(wv g h o).res=.ok (xm (Gk g h) h o):=by
 unfold wv xS xm;cases o with
 |none=>simp[i6,dP]
 |some r=>
   by_cases h0:h=0
   ·simp[i6,dP,h0]
   · by_cases a:h∈r
     ·simp[i6,dP,h0,a,xn]
     ·simp[i6,dP,vJ,h0,a,xn,Ce g h r (b r rfl)]
theorem uz(h:Int)(a:List (Int×Int×List Int)):(Al h a).res=.ok (if h=0 then some [0] else (sI a).map (·.2.2)):=by
 unfold Al x8;by_cases h0:h=0
 ·simp[lg,lc,h0,ao]
 · cases q:sI a with
   |none=>simp[lg,pY,pX,h9,h0,q]
   |some k=>simp[lg,pY,pX,h9,vX,h0,q]
theorem Ea:∀{c:List (Int×Int×List Int)} {k:Int×Int×List Int},sI c=some k->k∈c:=by
 intro c;cases c with
 |nil=>intro k h;cases h
 |cons a r=>
   intro k h
   have d:∀(r:List (Int×Int×List Int)) (a:Int×Int×List Int),r.foldl (λb x=>if eI x b=true then x else b) a∈a::r:=by
    intro r
    induction r with
    |nil=>intro a;simp
    |cons x r e=>
      intro a;rw[V4]
      have:=e (if eI x a=true then x else a)
      rcases Tz.mp this with z|z
      · rw[z];split
        ·simp
        ·simp
      ·exact Tt _ (Tt _ z)
   injection h with h
   rw[<-h];exact d r a
def fI(sz:Int)(P:DI Bool)(a:Int):List Int:=(dQ 0 sz).filter λb=>(P.get [a,b]).isSome
theorem At(g:GΩ)(P:DI Bool)(a:Int)(h0:0<=g.hω)(c:g.hω<=1000):(IG g P a).res=.ok (fI g.hω P a):=by
 have e:∀s:S_b9,s=⟨g,P,a⟩->fW (bF (mU 0) (bF (λg=>.ok g.hω) (pC (·.voq)))) (bx (vt false) (bF cN (gw (pC λp=>p.2.v0q) (pC λp=>p.1))) (pC λp=>p.2.vhq)) (pC λp=>p.1) s=.ok (fI g.hω P a):=by
  rintro s rfl;rw[uc (l:=dQ 0 g.hω) (λb=>(P.get [a,b]).isSome) (λx=>x) (by simp[ka (lo:=0) (hi:=g.hω) (by omega) (by omega) (by omega) (by omega)]) (by rw[gH];unfold ao;omega) (λb _=>by simp) (λb _ _=>by simp)];simp[fI]
 unfold IG F4 zU;simp only[bW,bB];rw[e _ rfl];rfl
theorem qh(g:GΩ)(a:Int)(b:0<=a/\a<g.hω)(c:g.hω<=1000):(IE g a).res=.ok (fI g.hω g.U a):=by
 have e:=iG g [a] (in1 b) (by omega);have d:=At g g.U a (by omega) c;unfold IE F2;simp[zN,zM,e,d,ao]
def gh(T:List (Option (List Int)))(h:Int):Option (List Int):=T.getD h.toNat none
theorem RV{T:List (Option (List Int))}{b:Int}(h0:0<=b)(a:b<T.length):lp T b=some (gh T b):=by
 rw[lT T h0,List.getElem?_eq_getElem (by omega)];unfold gh;rw[List.getD_eq_getElem?_getD,List.getElem?_eq_getElem (by omega)];rfl
theorem Be{T:List (Option (List Int))}{b:Int}{r:List Int}(h:gh T b=some r):some r∈T:=by
 unfold gh at h;rw[List.getD_eq_getElem?_getD]at h;cases q:T[b.toNat]? with
 |none=>rw[q]at h;cases h
 |some o=>rw[q]at h;have h:o=some r:=h;subst h;exact Ux q
structure TableOk (sz:Int) (T:List (Option (List Int))):Prop where
 len:(T.length:Int)=sz
 all:∀r,some r∈T->PathOk sz r
theorem oH{sz:Int}{P:DI Bool}{a b:Int}(h:b∈fI sz P a):0<=b/\b<sz:=gF.mp (U8.mp h).1
theorem Jg{sz:Int}(h:0<sz):PathOk sz [0]:=⟨by simp,rfl,by simp,λx a=>by rw[TX.mp a];omega⟩
theorem TableOk.set{sz:Int}{T:List (Option (List Int))}(h:TableOk sz T)(j:Nat)(o:Option (List Int))(b:∀r,o=some r->PathOk sz r):TableOk sz (T.set j o):=⟨by rw[T5];exact h.len,λr a=>by
 rcases U7 a with z|z
 ·exact h.all r z
 ·exact b r z.symm⟩
theorem qK{W:L3}{sz:Int}(c:WaysOk sz W)(a b:Int):((a,b)∈W\/(b,a)∈W)↔(min a b,max a b)∈W:=by
 constructor
 · rintro(z|z)
   · have:=(c.all _ z).2.1
     rw[show min a b=a by simp only at this;omega,show max a b=b by simp only at this;omega];exact z
   · have:=(c.all _ z).2.1
     rw[show min a b=b by simp only at this;omega,show max a b=a by simp only at this;omega];exact z
 · intro z;by_cases q:a<=b
   ·rw[show min a b=a by omega,show max a b=b by omega]at z;exact .inl z
   ·rw[show min a b=b by omega,show max a b=a by omega]at z;exact .inr z
theorem GuildIs.lay{g:GΩ}{sz:Int}{W:L3}{L Q:DI Int}{X:L3}(G:GuildIs g sz W L Q X)(a b:Int):GuildIs {g with U:=(g.U.put [a,b] true).put [b,a] true} sz (W++[(min a b,max a b)]) L Q X:=by
 refine⟨G.count,λx y=>?_,G.lik,G.wsh,G.shn⟩;show(((g.U.put [a,b] true).put [b,a] true).get [x,y]).isSome=true↔_;rw[nn,nn,TY,TY,TX,TX];by_cases d:[x,y]=[b,a]
 · rw[Tq d];injection d with d c;injection c with c;subst d c
   simp only[Wb,true_iff];by_cases q:x<=y
   ·exact .inl (.inr (by rw[show min y x=x by omega,show max y x=y by omega]))
   ·exact .inr (.inr (by rw[show min y x=y by omega,show max y x=x by omega]))
 · rw[on d];by_cases c:[x,y]=[a,b]
   · rw[Tq c];injection c with c h;injection h with h;subst c h
     simp only[Wb,true_iff];by_cases q:x<=y
     ·exact .inl (.inr (by rw[show min x y=x by omega,show max x y=y by omega]))
     ·exact .inr (.inr (by rw[show min x y=y by omega,show max x y=x by omega]))
   · rw[on c,G.way];constructor
     · rintro(z|z)
       ·exact .inl (.inl z)
       ·exact .inr (.inl z)
     · have no:∀u v:Int,(u,v)=(min a b,max a b)->[u,v]=[a,b]\/[u,v]=[b,a]:=λu v e=>by
        injection e with e1 f
        by_cases q:a<=b
        ·exact .inl (by rw[e1,f,show min a b=a by omega,show max a b=b by omega])
        ·exact .inr (by rw[e1,f,show min a b=b by omega,show max a b=a by omega])
       have i:∀{u v p q:Int},[u,v]=[p,q]->[v,u]=[q,p]:=λe=>by injection e with e1 f;injection f with f;rw[e1,f]
       rintro((z|z) | (z|z))
       ·exact .inl z
       · rcases no _ _ z with w|w
         ·exact absurd w c
         ·exact absurd w d
       ·exact .inr z
       · rcases no _ _ z with w|w
         ·exact absurd (i w) d
         ·exact absurd (i w) c
theorem GuildIs.lift{g:GΩ}{sz:Int}{W m:L3}{L Q:DI Int}{X:L3}(G:GuildIs g sz W L Q X)(o:WaysOk sz W)(a b:Int)(l:∀p,p∈m↔p∈W/\p≠(min a b,max a b)):GuildIs {g with U:=(g.U.del [a,b]).del [b,a]} sz m L Q X:=by
 refine⟨G.count,λx y=>?_,G.lik,G.wsh,G.shn⟩;show(((g.U.del [a,b]).del [b,a]).get [x,y]).isSome=true↔_;rw[sS,sS,l,l]
 have no:∀u v:Int,(u,v)=(min a b,max a b)->[u,v]=[a,b]\/[u,v]=[b,a]:=λu v e=>by
  injection e with e1 c
  by_cases q:a<=b
  ·exact .inl (by rw[e1,c,show min a b=a by omega,show max a b=b by omega])
  ·exact .inr (by rw[e1,c,show min a b=b by omega,show max a b=a by omega])
 have d:∀u v:Int,(u,v)∈W->[u,v]=[a,b]\/[u,v]=[b,a]->(u,v)=(min a b,max a b):=λu v n e=>by
  have:=(o.all _ n).2.1
  simp only at this;rcases e with e|e<;>(injection e with e1 c;injection c with c;subst e1 c)
  ·rw[show min u v=u by omega,show max u v=v by omega]
  ·rw[show min v u=u by omega,show max v u=v by omega]
 have k:∀{u v p q:Int},[u,v]=[p,q]->[v,u]=[q,p]:=λe=>by injection e with e1 c;injection c with c;rw[e1,c]
 by_cases j:[x,y]=[b,a]
 · rw[Tq j];simp only[Option.isSome_none,Vr,false_iff];rintro(⟨h,f⟩|⟨h,f⟩)
   ·exact f (d _ _ h (.inr j))
   ·exact f (d _ _ h (.inl (k j)))
 · rw[on j];by_cases i:[x,y]=[a,b]
   · rw[Tq i];simp only[Option.isSome_none,Vr,false_iff];rintro(⟨h,f⟩|⟨h,f⟩)
     ·exact f (d _ _ h (.inl i))
     ·exact f (d _ _ h (.inr (k i)))
   · rw[on i,G.way];constructor
     · rintro(w|w)
       · refine .inl ⟨w,λe=>?_⟩;rcases no _ _ e with v|v
         ·exact i v
         ·exact j v
       · refine .inr ⟨w,λe=>?_⟩;rcases no _ _ e with v|v
         ·exact j (k v)
         ·exact i (k v)
     · rintro(⟨w,_⟩|⟨w,_⟩)
       ·exact .inl w
       ·exact .inr w
theorem Df{W:Type}[DecidableEq W]:∀{xs:List W} {x:W},x∈xs->xs.Nodup->∃b,sf xs x=some ((),b)/\b.Nodup/\b.length<=xs.length/\∀y,y∈b↔y∈xs/\y≠x
 |[],x,h,_=>(nomatch h)
 | z::xs,x,h,nd=>by
   have a:=T3.mp nd;by_cases e:z=x
   · subst e;refine⟨xs,by unfold sf;simp[List.findIdx?_cons],a.2,by simp,λy=>?_⟩;constructor
     ·exact λd=>⟨Tt _ d,λw=>a.1 (w▸d)⟩
     · rintro⟨d,m⟩;rcases Tz.mp d with w|w
       ·exact absurd w m
       ·exact w
   · have l:x∈xs:=by
      rcases Tz.mp h with w|w
      ·exact absurd w.symm e
      ·exact w
     obtain⟨b,i,p,o,g⟩:=Df l a.2;unfold sf at i;obtain⟨j,n,c⟩:=Option.map_eq_some_iff.mp i;have c:xs.eraseIdx j=b:=by injection c
     refine⟨z::b,?_,T3.mpr ⟨λw=>a.1 ((g z).mp w).1,p⟩,by simpa using o,λy=>?_⟩
     ·unfold sf;rw[List.findIdx?_cons,decide_eq_false e,n];simp[c]
     · rw[Tz,Tz,g];constructor
       · rintro(w|⟨k,f⟩)
         ·exact⟨.inl w,by rw[w];exact e⟩
         ·exact⟨.inr k,f⟩
       · rintro⟨w|w,f⟩
         ·exact .inl w
         ·exact .inr ⟨w,f⟩
def Fi:Nat->List Int->List (List Int)
 |0,_=>[[]]
 |n+1,l=>[]::l.flatMap λx=>(Fi n (l.erase x)).map (x::·)
theorem rp:∀(n:Nat) (b l:List Int),l.Nodup->(∀x∈l,x∈b)->l.length<=n->l∈Fi n b
 |0,b,l,_,_,h=>by rw[Uh.mp (Nat.le_zero.mp h)];exact Tu
 |n+1,b,[],_,_,_=>Tu
 | n+1,b,x::t,nd,d,h=>by
   have a:=T3.mp nd;refine Tt _ (List.mem_flatMap.mpr ⟨x,d x Tu,T9.mpr ⟨t,rp n _ t a.2 (λy c=>?_) (by simpa using h),rfl⟩⟩);exact(List.mem_erase_of_ne λe=>a.1 (by rw[<-e];exact c)).mpr (d y (Tt _ c))
theorem zh{W X:Type}{f:W->X}:∀{l:List W},(l.map f).Nodup->∀a∈l,∀b∈l,f a=f b->a=b
 |[],_,a,c,_,_,_=>by cases c
 | x::l,h,a,c,b,d,e=>by
   rw[Tr,T3]at h;rcases Tz.mp c with z|z<;>rcases Tz.mp d with w|w
   ·rw[z,w]
   ·subst z;exact(h.1 (T9.mpr ⟨b,w,e.symm⟩)).elim
   ·subst w;exact(h.1 (T9.mpr ⟨a,z,e⟩)).elim
   ·exact zh h.2 a z b w e
theorem oC{S:List (List Int)}(j:(S.map cO).Nodup){c:List (List Int)}(f:c.Nodup)(h:∀k∈c,k∈S):(c.map cO).Nodup:=by
 unfold List.Nodup;rw[List.pairwise_map];refine List.Pairwise.imp_of_mem ?_ f;intro a b i g d e;exact d (zh j a (h a i) b (h b g) e)
def Du(n:Int):List (List Int):=(dQ 0 n).flatMap λx=>(dQ 0 n).map λy=>[x,y]
theorem AQ{n:Int}{k:List Int}(h:PairOk n k):k∈Du n:=by
 obtain⟨a,b,rfl,f,e,d,c⟩:=h;exact List.mem_flatMap.mpr ⟨a,gF.mpr ⟨f,e⟩,T9.mpr ⟨b,gF.mpr ⟨d,c⟩,rfl⟩⟩
theorem PairOk.mono{m n:Int}(c:m<=n){k:List Int}(h:PairOk m k):PairOk n k:=by
 obtain⟨a,b,rfl,e,g,d,f⟩:=h;exact⟨a,b,rfl,e,by omega,d,by omega⟩
theorem AG{sz:Int}(m:sz<=60){g:List (List Int)}(nd:g.Nodup)(h:∀k∈g,PairOk sz k):g.length<=3600:=by
 have:=eG 3600 (g.map λk=>k.getD 0 0*60+k.getD 1 0) (by
  unfold List.Nodup;rw[List.pairwise_map];refine List.Pairwise.imp_of_mem ?_ nd;intro p q hp j f e;obtain⟨a,b,rfl,s,r,o,n⟩:=h p hp;obtain⟨c,d,rfl,y,w,v,u⟩:=h q j;simp at e;have e1:a=c:=by omega
  have t:b=d:=by omega
  rw[e1,t]at f;exact f rfl) (λx i=>by
  obtain⟨k,l,rfl⟩:=T9.mp i;obtain⟨a,b,rfl,s,r,o,n⟩:=h k l;simp
  omega)
 rwa [Tv]at this
theorem gL{X:Type}{sz:Int}(a:sz<=60){F:DI X}(h:DI.nd F/\∀q∈F,PairOk sz q.1):F.length<=3600:=by
 have nd:(List.map Prod.fst F).Nodup:=h.1
 have:=AG a nd λk c=>by obtain⟨q,b,rfl⟩:=T9.mp c;exact h.2 q b
 rwa [Tv]at this
theorem Hr{X:Type}{F:DI X}{k:List Int}{v:X}{q:List Int×X}(h:q∈F.put k v):q∈F\/q=(k,v):=by
 unfold DI.put at h;split at h
 · obtain⟨p,hp,e⟩:=T9.mp h;by_cases z:p.1=k
   ·rw[Tq z]at e;rw[<-e,z];exact .inr rfl
   ·rw[on z]at e;rw[<-e];exact .inl hp
 · rcases TY.mp h with z|z
   ·exact .inl z
   ·exact .inr (TX.mp z)
structure Hs (g:GΩ):Prop where
 U:((g.U.map (·.1)).map cO).Nodup
 lik:((g.lω.map (·.1)).map cO).Nodup
 shn:((g.sω.map (·.1)).map cO).Nodup
 wsh:((g.wω.map (·.1)).map cO).Nodup
theorem Kv{Z W:Type}{a:Z->Option (DI W)}{p:Z->DI W->Z}{c:Z->Res (DI W)}{s:Z}{F:DI W}(e:a s=some [])(d:c s=.ok F)(b:((F.map (·.1)).map cO).Nodup):rW a p c s=.ok () (p s F):=by
 unfold rW;rw[e];dsimp only;rw[d];show(if ((F.map (·.1)).map cO).Nodup then OutC.ok () (p s F) else .bad)=_;rw[if_pos b]
theorem ng{Z W X:Type}{a:Z->Option (DI W)}{p:Z->DI W->Z}{c:Z->Res (DI W)}{s:Z}(F:DI W)(e:a s=some [])(d:c s=.ok F)(b:((F.map (·.1)).map cO).Nodup):(a9 (rW a p c):Z->FlC Z X) s=.nx (p s F):=by
 unfold a9;rw[Kv e d b];rfl
theorem GE{g:GΩ}(c:1<=g.hω)(b:g.hω<=60)(a:Hs g):∃s,Gi g=.ok g s:=by
 have e1:tZ ⟨g,none⟩=.nx ⟨g,some ⟨g.hω,[],[],[],[]⟩⟩:=by simp[tZ,mk_Guild,c,b]
 have h:tY ⟨g,some ⟨g.hω,[],[],[],[]⟩⟩=.nx ⟨g,some ⟨g.hω,g.U,[],[],[]⟩⟩:=by
  unfold tY;exact ng g.U rfl rfl a.U
 have f:tX ⟨g,some ⟨g.hω,g.U,[],[],[]⟩⟩=.nx ⟨g,some ⟨g.hω,g.U,g.lω,[],[]⟩⟩:=by
  unfold tX;exact ng g.lω rfl rfl a.lik
 have e:tW ⟨g,some ⟨g.hω,g.U,g.lω,[],[]⟩⟩=.nx ⟨g,some ⟨g.hω,g.U,g.lω,g.sω,[]⟩⟩:=by
  unfold tW;exact ng g.sω rfl rfl a.shn
 have d:tV ⟨g,some ⟨g.hω,g.U,g.lω,g.sω,[]⟩⟩=.nx ⟨g,some g⟩:=by
  unfold tV;exact ng g.wω rfl rfl a.wsh
 unfold Gi FX;simp only[aI,e1,h,f,e,d];exact⟨_,rfl⟩
abbrev yl:=Int×Int×List Int
def gA(p:PostT)(h:Int):DJ yl:=p.standings.getD h.toNat []
structure PW (sz:Int) (p:PostT):Prop where
 g:Wf sz p.guild
 roads:TableOk sz p.roads
 told:DI.nd p.told_last/\∀q∈p.told_last,PairOk sz q.1
 wrt:DI.nd p.written_last/\∀q∈p.written_last,PairOk sz q.1
 lts:DI.nd p.letters/\∀q∈p.letters,PairOk sz q.1
 ltv:∀q∈p.letters,∀r,q.2=some r->PathOk sz r
 sln:(p.standings.length:Int)=sz
 stn:∀F∈p.standings,DJ.nd F/\∀q∈F,(0<=q.1/\q.1<sz)/\PathOk sz q.2.2.2
def dW(p:PostT)(w r:Int):PostT:=if (p.written_last.get [w,r]).bind id=gh p.roads w then p else {p with written_last:=p.written_last.put [w,r] (gh p.roads w),letters:=p.letters.put [w,r] (gh p.roads w)}
theorem nI{sz:Int}{p:PostT}(P:PW sz p)(a:sz<=60)(w r:Int)(d:0<=w/\w<sz):∃o,BA p w r=.ok () ⟨dW p w r,w,r,o⟩:=by
 have Ks:lp p.roads w=some (gh p.roads w):=RV d.1 (by have:=P.roads.len;omega);have e1:tD ⟨p,w,r,none⟩=.nx ⟨p,w,r,some (gh p.roads w)⟩:=by simp[tD,Ks]
 have e:=gL a P.wrt;have l2:=gL a P.lts;refine⟨some (gh p.roads w),?_⟩;unfold BA FP dW;simp only[aI,e1];by_cases q:(p.written_last.get [w,r]).bind id=gh p.roads w
 ·rw[Tq q];simp[tz,mB,q]
 · rw[if_neg q];have c:p.written_last.length<ao:=by unfold ao;omega
   have b:p.letters.length<ao:=by unfold ao;omega
   simp[tz,zv,zu,q,c,b]
theorem PW.write{sz:Int}{p:PostT}(P:PW sz p){w r:Int}(a:0<=w/\w<sz)(b:0<=r/\r<sz):PW sz (dW p w r):=by
 unfold dW;split
 ·exact P
 · have k:PairOk sz [w,r]:=⟨w,r,rfl,a.1,a.2,b.1,b.2⟩;refine⟨P.g,P.roads,P.told,⟨oG P.wrt.1,ke (P:=PairOk sz) P.wrt.2 k⟩,⟨oG P.lts.1,ke (P:=PairOk sz) P.lts.2 k⟩,λq c r e=>?_,P.sln,P.stn⟩;rcases Hr c with z|z
   ·exact P.ltv q z r e
   ·subst z;exact P.roads.all r (Be e)
theorem iF(p:PostT)(w r:Int):(dW p w r).guild=p.guild:=by unfold dW;split<;>rfl
def writeAll(p:PostT)(w:Int):PostT:=(fI p.guild.hω p.guild.U w).foldl (λp r=>dW p w r) p
theorem o9{W X:Type}{f:X->W->X}(R:X->Prop):∀(l:List W) (b:X),R b->(∀b a,a∈l->R b->R (f b a))->R (l.foldl f b)
 |[],_,h,_=>h
 |a::l,b,h,st=>o9 R l (f b a) (st b a Tu h) λb c d=>st b c (Tt _ d)
theorem PW.writeAll{sz:Int}{p:PostT}(P:PW sz p){w:Int}(d:0<=w/\w<sz):PW sz (writeAll p w):=by
 unfold K11.writeAll;exact o9 (PW sz) _ p P λb a c Q=>Q.write d (by rw[P.g.count]at c;exact oH c)
theorem ut(p:PostT)(w:Int):(writeAll p w).guild=p.guild:=o9 (λq=>q.guild=p.guild) _ p rfl λb a _ h=>(iF b w a).trans h
theorem lW{sz:Int}{p:PostT}(P:PW sz p)(d:sz<=60)(w:Int)(b:0<=w/\w<sz):∃o,rT p w=.ok () ⟨writeAll p w,w,o⟩:=by
 have nb:=qh p.guild w (by rw[P.g.count];exact b) (by rw[P.g.count];omega)
 obtain⟨s',e,o,rfl,_⟩:=lN (u:=λa s=>{s with vjq:=some a}) (c:=jW) (λ(q:PostT) (s:S_ba9)=>∃o,s=⟨q,w,o⟩/\PW sz q) (λq r=>dW q w r) (fI p.guild.hω p.guild.U w) p ⟨p,w,none⟩ ⟨none,rfl,P⟩ (by
  rintro q r s f ⟨o,rfl,Q⟩;obtain⟨i,h⟩:=nI Q d w r b
  exact⟨⟨dW q w r,w,some r⟩,.inl (by simp[jW,h]),some r,rfl,Q.write b (by rw[P.g.count]at f;exact oH f)⟩)
 refine⟨o,?_⟩;unfold rT x9 vY writeAll;simp[nb,e]
def jA(h:Int)(F:DJ yl):Option (List Int):=if h=0 then some [0] else (sI (F.map (·.2))).map (·.2.2)
def dq(p:PostT)(h:Int):Bool×PostT:=if jA h (gA p h)=gh p.roads h then (false,p) else (true,writeAll {p with roads:=p.roads.set h.toNat (jA h (gA p h))} h)
theorem yt{p:PostT}{h:Int}(h0:0<=h)(a:h<p.standings.length):p.standings[h.toNat]?=some (gA p h):=by
 unfold gA;rw[List.getD_eq_getElem?_getD,List.getElem?_eq_getElem (by omega)];rfl
theorem p3{sz h:Int}{F:DJ yl}(h0:0<sz)(hF:∀q∈F,PathOk sz q.2.2.2){r:List Int}(e:jA h F=some r):PathOk sz r:=by
 unfold jA at e;split at e
 ·cases e;exact Jg h0
 ·obtain⟨k,b,rfl⟩:=TQ.mp e;obtain⟨q,a,rfl⟩:=T9.mp (Ea b);exact hF q a
theorem PW.st{sz:Int}{p:PostT}(P:PW sz p){h:Int}(a:0<=h/\h<sz):DJ.nd (gA p h)/\∀q∈gA p h,(0<=q.1/\q.1<sz)/\PathOk sz q.2.2.2:=
 P.stn _ (Ux (yt a.1 (by have:=P.sln;omega)))
theorem PW.set{sz:Int}{p:PostT}(P:PW sz p)(j:Nat)(o:Option (List Int))(a:∀r,o=some r->PathOk sz r):PW sz {p with roads:=p.roads.set j o}:=⟨P.g,P.roads.set j o a,P.told,P.wrt,P.lts,P.ltv,P.sln,P.stn⟩
theorem PW.choose{sz:Int}{p:PostT}(P:PW sz p)(h0:0<sz){h:Int}(a:0<=h/\h<sz):PW sz (dq p h).2:=by
 unfold dq;split
 ·exact P
 ·exact(P.set _ _ λr e=>p3 h0 (λq b=>((P.st a).2 q b).2) e).writeAll a
theorem lv{sz:Int}{p:PostT}(P:PW sz p)(d:sz<=60)(h:Int)(a:0<=h/\h<sz):∃o,BD p h=.ok (dq p h).1 ⟨(dq p h).2,h,o⟩:=by
 have Ks:lp p.roads h=some (gh p.roads h):=RV a.1 (by have:=P.roads.len;omega);have c:p.standings[h.toNat]?=some (gA p h):=yt a.1 (by have:=P.sln;omega);have b:=uz h ((gA p h).map (·.2))
 have e1:tT ⟨p,h,none⟩=.nx ⟨p,h,some (jA h (gA p h))⟩:=by
  simp[tT,a.1,c,b,jA]
 unfold BD FW dq;simp only[aI,e1];by_cases q:jA h (gA p h)=gh p.roads h
 ·rw[Tq q];exact⟨some (jA h (gA p h)),by simp[tS,mF,Ks,q]⟩
 ·rw[on q];have ix:qc p.roads.length h=some h.toNat:=Nl a.1 (by have:=P.roads.len;omega);have i:=P.set h.toNat (jA h (gA p h)) λr e=>p3 (sz:=sz) (by omega) (λq f=>((P.st a).2 q f).2) e;obtain⟨o,g⟩:=lW i d h a;exact⟨some (jA h (gA p h)),by simp[tS,zE,zD,zC,Ks,q,ix,g]⟩
def Fa(g:GΩ)(F:DJ yl)(w r:Int)(o:Option (List Int)):DJ yl:=if xm (Gk g r) r o=true then DJ.put F w (eJ g.lω g.wω (r::o.getD [])) else DJ.del F w
def vf(p:PostT)(w r:Int)(o:Option (List Int)):PostT:={p with told_last:=p.told_last.put [w,r] o,standings:=p.standings.set r.toNat (Fa p.guild (gA p r) w r o)}
def cz(p:PostT)(w r:Int):PostT:={p with letters:=p.letters.del [w,r],told_last:=p.told_last.del [w,r],written_last:=p.written_last.del [w,r],standings:=p.standings.set r.toNat (DJ.del (gA p r) w)}
theorem Bg{X:Type}{F:DJ X}{k:Int}(h:DJ.get F k=none):DJ.del F k=F:=by
 unfold DJ.get at h;unfold DJ.del;rw[Option.map_eq_none_iff,List.find?_eq_none]at h;rw[List.filter_eq_self];exact λp hp=>by simpa using h p hp
theorem FA{X:Type}{F:DI X}{k:List Int}(h:F.get k=none):F.del k=F:=by
 unfold DI.get at h;unfold DI.del;rw[Option.map_eq_none_iff,List.find?_eq_none]at h;rw[List.filter_eq_self];exact λp hp=>by simpa using h p hp
theorem Ec{X:Type}{F:DJ X}{k:Int}{v:X}{q:Int×X}(h:q∈DJ.put F k v):q∈F\/q=(k,v):=by
 unfold DJ.put at h;split at h
 · obtain⟨p,hp,e⟩:=T9.mp h;by_cases z:p.1=k
   ·rw[Tq z]at e;rw[<-e,z];exact .inr rfl
   ·rw[on z]at e;rw[<-e];exact .inl hp
 · rcases TY.mp h with z|z
   ·exact .inl z
   ·exact .inr (TX.mp z)
theorem yr{p:PostT}{h:Int}(h0:0<=h)(a:h<p.standings.length):p.standings.set h.toNat (gA p h)=p.standings:=by
 refine List.ext_getElem? λi=>?_;rw[List.getElem?_set];split
 ·rename_i e;subst e;rw[Tq (by omega),yt h0 a]
 ·rfl
theorem sm{Z W X:Type}{g:Z->Option (DI (Option W))}{p:Z->DI (Option W)->Z}{ck:Z->Res (List Int)}{s:Z}(F:DI (Option W))(k:List Int)(c:g s=some F)(b:ck s=.ok k)(a:p s F=s):(a9 (jC g p ck):Z->FlC Z X) s=.nx (p s (F.del k)):=by
 unfold a9 jC;rw[c];dsimp only;rw[b];dsimp only[bndO];cases q:DI.get F k with
 |none=>rw[FA q,a];rfl
 |some x=>rfl
theorem zd{Z W X:Type}{g:Z->Option (DJ W)}{p:Z->DJ W->Z}{ck:Z->Res Int}{s:Z}(F:DJ W)(k:Int)(c:g s=some F)(b:ck s=.ok k)(a:p s F=s):(a9 (qY g p ck):Z->FlC Z X) s=.nx (p s (DJ.del F k)):=by
 unfold a9 qY;rw[c];dsimp only;rw[b];dsimp only[bndO];cases q:DJ.get F k with
 |none=>rw[Bg q,a];rfl
 |some x=>rfl
theorem Kg{p:PostT}{h:Int}(h0:0<=h)(a:h<p.standings.length):(if 0<=h then p.standings[h.toNat]? else none)=some (gA p h):=by rw[Tq h0,yt h0 a]
theorem GC{sz:Int}{F:DJ yl}(c:sz<=60)(h:DJ.nd F/\∀q∈F,(0<=q.1/\q.1<sz)/\PathOk sz q.2.2.2):F.length<=60:=by
 have nd:(List.map Prod.fst F).Nodup:=h.1
 have:=eG 60 _ nd λx a=>by
  obtain⟨q,b,rfl⟩:=T9.mp a
  have:=(h.2 q b).1
  omega
 rwa [Tv]at this
theorem GM{sz:Int}{p:PostT}(P:PW sz p)(c:sz<=60)(w r:Int)(d:0<=r/\r<sz)(o:Option (List Int))(h:∀t,o=some t->PathOk sz t):IA p w r o=.ok () ⟨vf p w r o,w,r,o⟩:=by
 have A:=gL c P.told;have n:p.told_last.length<ao:=by unfold ao;omega
 have e1:tI ⟨p,w,r,o⟩=.nx ⟨{p with told_last:=p.told_last.put [w,r] o},w,r,o⟩:=by simp[tI,n]
 have i:r<p.standings.length:=by have:=P.sln;omega
 have j:=Kg d.1 i;have b:=KN p.guild r o λt e=>by have:=(h t e).len;unfold ao;omega
 have lst:=GC c (P.st d);have m:(gA p r).length<ao:=by unfold ao;omega
 unfold IA FT vf Fa;simp only[aI,e1];by_cases q:xm (Gk p.guild r) r o=true
 · rw[Tq q];cases o with
   |none=>cases q
   |some t=>
     have hp:=h t rfl
     have v:r∉t:=by
      have a:xn (Gk p.guild r) r t=true:=by
       unfold xm at q;revert q;simp
      unfold xn at a;simp at a;exact a.1
     have u:=KQ p.guild (r::t) (by rw[P.g.count];exact hp.road d v) (by rw[P.g.count];omega);have z:=hp.len;have ct:([r]:List Int).length+t.length<=ao:=by unfold ao;simp;omega
     have l:1<=ao:=by unfold ao;omega
     have k:1+t.length<=ao:=by simpa using ct
     simp[tG,mD,b,q,l,k,u,j,m]
 · rw[on q];have a:xm (Gk p.guild r) r o=false:=by simpa using q
   have f:=zd (X:=Unit) (g:=gI (λs:S_u9=>some s.voq.standings) (λs=>some s.vjq)) (p:=pI (λs:S_u9=>some s.voq.standings) (λs y=>{s with voq:={s.voq with standings:=y}}) (λs=>some s.vjq)) (ck:=pC (·.vuq)) (s:=⟨{p with told_last:=p.told_last.put [w,r] o},w,r,o⟩) (gA p r) w j rfl (by
    show S_u9.mk _ w r o=_
    rw[yr d.1 i])
   unfold tG mE
   have x:(bB (oh wv (bF (λg=>.ok g.guild) (pC (·.voq))) (pC (·.vjq)) (pC (·.vkq))):S_u9->OutC S_u9 Bool) ⟨{p with told_last:=p.told_last.put [w,r] o},w,r,o⟩=.ok false ⟨{p with told_last:=p.told_last.put [w,r] o},w,r,o⟩:=by
    simp[b,a]
   unfold iW;rw[x];show b7 (some ()) ((a9 _:S_u9->FlC S_u9 Unit) _)=_;rw[f];rfl
theorem PW.hear{sz:Int}{p:PostT}(P:PW sz p){w r:Int}(c:0<=w/\w<sz)(a:0<=r/\r<sz)(o:Option (List Int))(e:∀t,o=some t->PathOk sz t):PW sz (vf p w r o):=by
 have k:PairOk sz [w,r]:=⟨w,r,rfl,c.1,c.2,a.1,a.2⟩;refine⟨P.g,P.roads,⟨oG P.told.1,ke (P:=PairOk sz) P.told.2 k⟩,P.wrt,P.lts,P.ltv,by show((p.standings.set _ _).length:Int)=sz;rw[T5];exact P.sln,λF hF=>?_⟩;rcases U7 hF with z|z
 ·exact P.stn F z
 · subst z;unfold Fa;split
   · rename_i q;cases o with
     |none=>cases q
     |some t=>
       have hp:=e t rfl
       have f:r∉t:=by
        have b:xn (Gk p.guild r) r t=true:=by
         unfold xm at q;revert q;simp
        unfold xn at b;simp at b;exact b.1
       refine⟨Hq (P.st a).1,λq d=>?_⟩;rcases Ec d with z|z
       ·exact(P.st a).2 q z
       ·subst z;exact⟨c,(hp.road a f).path⟩
   ·exact⟨y7 (P.st a).1,λq d=>(P.st a).2 q (U8.mp d).1⟩
theorem qB{sz:Int}{p:PostT}(P:PW sz p)(w r:Int)(a:0<=r/\r<sz):Gh p w r=.ok () ⟨cz p w r,w,r⟩:=by
 have b:r<p.standings.length:=by have:=P.sln;omega
 have e1:tM ⟨p,w,r⟩=.nx ⟨{p with letters:=p.letters.del [w,r]},w,r⟩:=by unfold tM;exact sm p.letters [w,r] rfl rfl rfl
 have e:tL ⟨{p with letters:=p.letters.del [w,r]},w,r⟩=.nx ⟨{p with letters:=p.letters.del [w,r],told_last:=p.told_last.del [w,r]},w,r⟩:=by unfold tL;exact sm p.told_last [w,r] rfl rfl rfl
 have d:tK ⟨{p with letters:=p.letters.del [w,r],told_last:=p.told_last.del [w,r]},w,r⟩=.nx ⟨{p with letters:=p.letters.del [w,r],told_last:=p.told_last.del [w,r],written_last:=p.written_last.del [w,r]},w,r⟩:=by unfold tK;exact sm p.written_last [w,r] rfl rfl rfl
 have c:tJ ⟨{p with letters:=p.letters.del [w,r],told_last:=p.told_last.del [w,r],written_last:=p.written_last.del [w,r]},w,r⟩=.nx ⟨cz p w r,w,r⟩:=by
  unfold tJ
  exact zd (gA p r) w (Kg a.1 b) rfl (by
   show S_t9.mk _ w r=_
   rw[yr a.1 b])
 unfold Gh FV;simp only[aI,e1,e,d,c];rfl
theorem PW.forget{sz:Int}{p:PostT}(P:PW sz p)(w r:Int)(b:0<=r/\r<sz):PW sz (cz p w r):=by
 refine⟨P.g,P.roads,⟨lG P.told.1,λq a=>P.told.2 q (gb a)⟩,⟨lG P.wrt.1,λq a=>P.wrt.2 q (gb a)⟩,⟨lG P.lts.1,λq a=>P.lts.2 q (gb a)⟩,λq a=>P.ltv q (gb a),by show((p.standings.set _ _).length:Int)=sz;rw[T5];exact P.sln,λF hF=>?_⟩;rcases U7 hF with z|z
 ·exact P.stn F z
 ·subst z;exact⟨y7 (P.st b).1,λq a=>(P.st b).2 q (U8.mp a).1⟩
def ij(p:PostT)(a b:Int):Bool×PostT:=dq (vf {p with letters:=p.letters.del [a,b]} a b ((p.letters.get [a,b]).bind id)) b
theorem PW.del{sz:Int}{p:PostT}(P:PW sz p)(k:List Int):PW sz {p with letters:=p.letters.del k}:=⟨P.g,P.roads,P.told,P.wrt,⟨lG P.lts.1,λq a=>P.lts.2 q (gb a)⟩,λq a=>P.ltv q (gb a),P.sln,P.stn⟩
theorem PW.pair{sz:Int}{p:PostT}(P:PW sz p){a b:Int}{o:Option (List Int)}(h:p.letters.get [a,b]=some o):(0<=a/\a<sz)/\(0<=b/\b<sz)/\∀t,o=some t->PathOk sz t:=by
 have d:=vh h;obtain⟨x,y,e,j,i,g,f⟩:=P.lts.2 _ d;injection e with e1 c
 injection c with c
 subst e1 c;exact⟨⟨j,i⟩,⟨g,f⟩,λt e=>P.ltv _ d t e⟩
theorem PW.carry{sz:Int}{p:PostT}(P:PW sz p)(h0:0<sz){a b:Int}{o:Option (List Int)}(h:p.letters.get [a,b]=some o):PW sz (ij p a b).2:=by
 obtain⟨e,c,d⟩:=P.pair h;unfold ij;rw[h];exact((P.del [a,b]).hear e c o d).choose h0 c
theorem uy{sz:Int}{p:PostT}(P:PW sz p)(c:sz<=60){a b:Int}{o:Option (List Int)}(h:p.letters.get [a,b]=some o):lU p a b=.ok (ij p a b).1 ⟨(ij p a b).2,a,b⟩:=by
 obtain⟨f,d,e⟩:=P.pair h;have j:=iG p.guild [a,b] (by rw[P.g.count];exact Oy f d) (by rw[P.g.count];omega);have i:2<=ao:=by unfold ao;omega
 have e1:kR ⟨p,a,b⟩=.nx ⟨p,a,b⟩:=by simp[kR,j,i]
 have m:nz ⟨p,a,b⟩=.nx ⟨p,a,b⟩:=by simp[nz,h]
 have k:=GM (P.del [a,b]) c a b d o e;have l:tU ⟨p,a,b⟩=.nx ⟨vf {p with letters:=p.letters.del [a,b]} a b o,a,b⟩:=by simp[tU,h,k]
 obtain⟨n,ch⟩:=lv ((P.del [a,b]).hear f d o e) c b d;unfold lU v9 ij;rw[h];simp only[aI,e1,m,l];simp[zG,ch]
def qN(p:PostT):PostT:=match p.letters with
 |[]=>p
 |q::_=>(ij p (q.1.getD 0 0) (q.1.getD 1 0)).2
theorem PW.first{sz:Int}{p:PostT}(P:PW sz p){q:List Int×Option (List Int)}{t:DI (Option (List Int))}(e:p.letters=q::t):∃a b,q.1=[a,b]/\p.letters.get [a,b]=some q.2:=by
 have c:q∈p.letters:=by rw[e];exact Tu
 obtain⟨a,b,d,_⟩:=P.lts.2 q c;exact⟨a,b,d,fS P.lts.1 (by rw[<-d];exact c)⟩
theorem PW.next{sz:Int}{p:PostT}(P:PW sz p)(h0:0<sz):PW sz (qN p):=by
 unfold qN;cases e:p.letters with
 |nil=>exact P
 |cons q t=>
   obtain⟨a,b,d,c⟩:=P.first e;dsimp only;rw[d];exact P.carry h0 c
theorem GJ{sz:Int}{p:PostT}(P:PW sz p)(d:sz<=60)(c:p.letters≠[]):∃b o,qx p=.ok b ⟨qN p,o⟩:=by
 cases e:p.letters with
 |nil=>exact absurd e c
 |cons q t=>
   obtain⟨a,b,f,g⟩:=P.first e
   have h:(BC p).res=.ok [a,b]:=by
    unfold BC zY;simp[tN,e,f]
   have e1:ny ⟨p,none⟩=.nx ⟨p,some [a,b]⟩:=by simp[ny,h]
   have i:=uy P d g;refine⟨(ij p a b).1,some [a,b],?_⟩;unfold qx z0 qN;rw[e];dsimp only;rw[f];simp only[aI,e1];simp[zF,Ks,Ta,i]
theorem wD(o:Option (List Int)):(mS o).res=.ok o:=by
 unfold mS x6;cases o with
 |none=>simp[pW,lb]
 |some r=>simp[pW,vW]
def bc(p:PostT):List (Int×Int×Option (List Int)):=p.letters.map λq=>(q.1.getD 0 0,q.1.getD 1 0,q.2)
theorem nJ{sz:Int}{p:PostT}(P:PW sz p)(d:sz<=60):(Gf p).res=.ok (bc p):=by
 have l2:=gL d P.lts
 have c:=lh (Z:=S_y9) (src:=bF EZ (bF (λg=>.ok g.letters) (pC (·.voq)))) (te:=gw (bx sP (pC λp=>p.1) (kC (0:Int))) (gw (bx sP (pC λp=>p.1) (kC (1:Int))) (mV mS (bx Sz (bF (λg=>.ok g.letters) (pC λp=>p.2.voq)) (pC λp=>p.1))))) (s:=⟨p⟩) (l:=p.letters.map (·.1)) (λk=>(k.getD 0 0,k.getD 1 0,(p.letters.get k).bind id)) rfl (by rw[List.length_map];unfold ao;omega) (λk j=>by
  obtain⟨v,f,i⟩:=HK P.lts.1 j;obtain⟨a,b,e,_⟩:=P.lts.2 _ i;have e:k=[a,b]:=e;subst e
  simp[Ks,Ta,f,wD])
 unfold Gf FQ zw;simp only[bW,bB,c];simp only[Il,b7,Lx];congr 1;unfold bc;rw[List.map_map];refine List.map_congr_left λq h=>?_
 have:=fS P.lts.1 (show(q.1,q.2)∈p.letters from h)
 show(q.1.getD 0 0,q.1.getD 1 0,(p.letters.get q.1).bind id)=_;rw[this];rfl
theorem Cd{sz:Int}{p:PostT}(P:PW sz p)(a:sz<=60):(Iz p).res=.ok p.roads:=by
 have b:=P.roads.len;have c:=lh (Z:=S_w9) (src:=bF (λg=>.ok g.roads) (pC (·.voq))) (te:=mV mS (pC λp=>p.1)) (s:=⟨p⟩) (l:=p.roads) (λo=>o) rfl (by unfold ao;omega) (λo _=>by simp[wD]);unfold Iz FS zA;simp only[bW,bB,c];simp
theorem ur{p:PostT}:bc p=[]↔p.letters=[]:=by unfold bc;exact List.map_eq_nil_iff
theorem ii(p:PostT)(h:Int):(dq p h).2.guild=p.guild:=by
 unfold dq;split
 ·rfl
 ·exact ut _ _
theorem mO(p:PostT)(a b:Int):(ij p a b).2.guild=p.guild:=by unfold ij;rw[ii];rfl
def iu(p:PostT)(a b:Int):PostT:={p with guild:={p.guild with U:=(p.guild.U.del [a,b]).del [b,a]}}
def u8(p:PostT)(a b:Int):PostT:={p with guild:={p.guild with U:=(p.guild.U.put [a,b] true).put [b,a] true}}
def rk(p:PostT)(a b:Int):PostT:=(dq (dq (cz (cz (iu p a b) a b) b a) (min a b)).2 (max a b)).2
def qE(p:PostT)(a b:Int):PostT:=dW (dW (u8 p a b) (min a b) (max a b)) (max a b) (min a b)
theorem PW.guild{sz:Int}{p:PostT}(P:PW sz p){g:GΩ}(a:Wf sz g):PW sz {p with guild:=g}:=⟨a,P.roads,P.told,P.wrt,P.lts,P.ltv,P.sln,P.stn⟩
theorem y8{a b sz:Int}(d:0<=a/\a<sz)(c:0<=b/\b<sz):(0<=min a b/\min a b<sz)/\(0<=max a b/\max a b<sz):=by omega
theorem PW.fall{sz:Int}{p:PostT}(P:PW sz p){a b:Int}(d:0<=a/\a<sz)(c:0<=b/\b<sz):PW sz (rk p a b):=by
 obtain⟨f,e⟩:=y8 d c;have h0:0<sz:=by omega
 exact((((P.guild (P.g.lift a b)).forget a b c).forget b a d).choose h0 f).choose h0 e
theorem PW.rise{sz:Int}{p:PostT}(P:PW sz p){a b:Int}(f:0<=a/\a<sz)(e:0<=b/\b<sz):PW sz (qE p a b):=by
 obtain⟨d,c⟩:=y8 f e;exact((P.guild (P.g.lay f e)).write d c).write c d
theorem xH(p:PostT)(a b:Int):(rk p a b).guild=(iu p a b).guild:=by
 unfold rk;rw[ii,ii];rfl
theorem wI(p:PostT)(a b:Int):(qE p a b).guild=(u8 p a b).guild:=by
 unfold qE;rw[iF,iF]
theorem GN{sz:Int}{p:PostT}(P:PW sz p)(c:sz<=60){a b:Int}(e:0<=a/\a<sz)(d:0<=b/\b<sz)(h:a≠b)(o:(p.guild.U.get [a,b]).isSome=true)(f:(p.guild.U.get [b,a]).isSome=true):qv p a b=.ok () ⟨rk p a b,a,b⟩:=by
 obtain⟨i,n⟩:=y8 e d;have h0:0<sz:=by omega
 have m:=GL p.guild a b (by rw[P.g.count];exact e) (by rw[P.g.count];exact d) h o f;have W:PW sz (iu p a b):=P.guild (P.g.lift a b);have r:=qB W a b d;have j:=W.forget a b d;have q:=qB j b a e;have P3:=j.forget b a e;obtain⟨A,x⟩:=lv P3 c (min a b) i;have y:=P3.choose h0 i;obtain⟨z,w⟩:=lv y c (max a b) n;have l:(if b<a then b else a)=min a b:=by rw[Int.min_def];split<;>split<;>omega
 have k:(if a<b then b else a)=max a b:=by rw[Int.max_def];split<;>split<;>omega
 have e1:nw ⟨p,a,b⟩=.nx ⟨iu p a b,a,b⟩:=by simp[nw,m,iu]
 have v:tR ⟨iu p a b,a,b⟩=.nx ⟨cz (iu p a b) a b,a,b⟩:=by simp[tR,r]
 have u:tQ ⟨cz (iu p a b) a b,a,b⟩=.nx ⟨cz (cz (iu p a b) a b) b a,a,b⟩:=by simp[tQ,q]
 have t:tP ⟨cz (cz (iu p a b) a b) b a,a,b⟩=.nx ⟨(dq (cz (cz (iu p a b) a b) b a) (min a b)).2,a,b⟩:=by simp[tP,l,x]
 have s:tO ⟨(dq (cz (cz (iu p a b) a b) b a) (min a b)).2,a,b⟩=.nx ⟨rk p a b,a,b⟩:=by simp[tO,k,w,rk]
 unfold qv zZ;simp only[aI,e1,v,u,t,s];rfl
theorem GG{sz:Int}{p:PostT}(P:PW sz p)(c:sz<=60){a b:Int}(f:0<=a/\a<sz)(e:0<=b/\b<sz)(d:a≠b)(m:p.guild.U.get [a,b]=none):qu p a b=.ok () ⟨qE p a b,a,b⟩:=by
 obtain⟨k,j⟩:=y8 f e;have t:=gL c P.g.U;have l:=Cg p.guild a b (by rw[P.g.count];exact f) (by rw[P.g.count];exact e) d m (by unfold ao;omega);have W:PW sz (u8 p a b):=P.guild (P.g.lay f e);obtain⟨v,r⟩:=nI W c (min a b) (max a b) k;have s:=W.write k j;obtain⟨u,q⟩:=nI s c (max a b) (min a b) j;have i:(if b<a then b else a)=min a b:=by rw[Int.min_def];split<;>split<;>omega
 have h:(if a<b then b else a)=max a b:=by rw[Int.max_def];split<;>split<;>omega
 have e1:nv ⟨p,a,b⟩=.nx ⟨u8 p a b,a,b⟩:=by simp[nv,l,u8]
 have o:tF ⟨u8 p a b,a,b⟩=.nx ⟨dW (u8 p a b) (min a b) (max a b),a,b⟩:=by simp[tF,i,h,r]
 have n:tE ⟨dW (u8 p a b) (min a b) (max a b),a,b⟩=.nx ⟨qE p a b,a,b⟩:=by simp[tE,i,h,q,qE]
 unfold qu zX;simp only[aI,e1,o,n];rfl
theorem PW.new{g:GΩ}{sz:Int}(h:Wf sz g)(c:1<=sz):PW sz (dX g sz.toNat):=by
 refine⟨h,⟨?_,λr b=>?_⟩,⟨by unfold DI.nd;exact List.Pairwise.nil,λq a=>(nomatch a)⟩,⟨by unfold DI.nd;exact List.Pairwise.nil,λq a=>(nomatch a)⟩,⟨by unfold DI.nd;exact List.Pairwise.nil,λq a=>(nomatch a)⟩,λq a=>(nomatch a),?_,λF hF=>?_⟩
 ·show(((List.replicate sz.toNat none).set 0 (some [0])).length:Int)=sz;rw[T5,Vy];omega
 · rcases U7 b with z|z
   ·have:=(List.mem_replicate.mp z).2;cases this
   ·cases z;exact Jg (by omega)
 ·show((List.replicate sz.toNat ([]:DJ yl)).length:Int)=sz;rw[Vy];omega
 · have:=(List.mem_replicate.mp hF).2
   subst this;exact⟨by unfold DJ.nd;exact List.Pairwise.nil,λq a=>(nomatch a)⟩
def newP(g:GΩ):PostT:=writeAll (dX g g.hω.toNat) 0
theorem GI{g:GΩ}{sz:Int}(h:Wf sz g)(d:Hs g)(f:1<=sz)(a:sz<=60):mk_Post g=.ok (newP g):=by
 have e:=h.count;obtain⟨s,c⟩:=GE (by omega) (by omega) d;have P:=PW.new h f;obtain⟨o,b⟩:=lW P a 0 (by omega);unfold mk_Post newP;rw[c];dsimp only;rw[if_pos (by omega),e,b]
theorem PW.newP{g:GΩ}{sz:Int}(h:Wf sz g)(a:1<=sz):PW sz (newP g):=by
 unfold K11.newP;rw[h.count];exact(PW.new h a).writeAll (by omega)
theorem AK(g:GΩ):(newP g).guild=g:=by unfold newP;exact ut _ _
theorem BF{sz:Int}(f:sz<=60){W:L3}(nd:W.Nodup)(all:∀p∈W,0<=p.1/\p.1<p.2/\p.2<sz):W.length<=3600:=by
 have:=eG 3600 (W.map λp=>p.1*60+p.2) (by
  unfold List.Nodup;rw[List.pairwise_map];refine List.Pairwise.imp_of_mem ?_ nd;intro p c hp a b e;have g:=all p hp;have h:=all c a;exact b (Prod.ext (by omega) (by omega))) (λx d=>by
  obtain⟨p,hp,rfl⟩:=T9.mp d;have g:=all p hp
  omega)
 rwa [Tv]at this
theorem Go{sz:Int}{p:PostT}(P:PW sz p){i:Nat}(hi:i<(bc p).length):∃a b o,(bc p)[i]?=some (a,b,o)/\p.letters.get [a,b]=some o:=by
 have c:i<p.letters.length:=by unfold bc at hi;rwa [List.length_map]at hi
 have d:p.letters[i]∈p.letters:=List.getElem_mem c;obtain⟨a,b,e,_⟩:=P.lts.2 _ d;refine⟨a,b,p.letters[i].2,?_,fS P.lts.1 (by rw[<-e];exact d)⟩;unfold bc;rw[List.getElem?_map,List.getElem?_eq_getElem c];simp[e]
def CN:List (List Int):=(Fi 6 [0,1,2,3,4,5]).filter λr=>r.getLast?==some 0
theorem HQ:((Du 6).map cO).Nodup:=by decide +kernel
theorem HP:(CN.map cO).Nodup:=by decide +kernel
theorem AO{sz:Int}(h:sz<=6){r:List Int}(a:RoadOk sz r):r∈CN:=by
 refine U8.mpr ⟨rp 6 _ r a.nd (λx b=>?_) (by have:=a.len;omega),by rw[a.last];rfl⟩
 have:=a.all x b
 have:x=0\/x=1\/x=2\/x=3\/x=4\/x=5:=by omega
 simp only[Tz,List.not_mem_nil,or_false];exact this
theorem Hs.of{sz:Int}{g:GΩ}(h:Wf sz g)(c:sz<=6):Hs g:=by
 have a:∀{X:Type} {F:DI X},(DI.nd F/\∀p∈F,PairOk sz p.1)->((F.map (·.1)).map cO).Nodup:=λ{X F} hF=>oC HQ hF.1 λk b=>by
  obtain⟨p,hp,rfl⟩:=T9.mp b;exact AQ ((hF.2 p hp).mono c)
 exact⟨a h.U,a h.lik,a h.shn,oC HP h.wsh.1 λk b=>by
  obtain⟨p,hp,rfl⟩:=T9.mp b
  exact AO c (h.wsh.2 p hp)⟩
theorem qj{Z X:Type}{a b:Z->FlC Z X}{s s':Z}(h:a s=.nx s'):aI a b s=b s':=by unfold aI;rw[h]
theorem gT(a b:Int):(if b<a then b else a)=min a b:=by split<;>omega
theorem jI(a b:Int):(if a<b then b else a)=max a b:=by split<;>omega
theorem yE(g:GΩ)(a b:Int)(q:a<0\/b<0\/g.hω<=a\/g.hω<=b):(lV g [a,b]).res=.exc 11:=by
 have e1:(rQ [a,b] g.hω).res=.exc 11:=by
  unfold rQ ud pG kS;by_cases c:min a b<0
  ·simp[cX,gT,c,cJ]
  · have d:g.hω<=max a b:=by omega
    simp[cX,f9,gT,jI,c,d,cJ]
 unfold lV z6
 first | unfold t4 | skip
 simp[e1]
theorem Gr(g:GΩ)(a b:Int)(q:a<0\/b<0\/g.hω<=a\/g.hω<=b\/a=b)(h0:0<g.hω):(p8 g a b).res=.exc 11:=by
 unfold p8 z5;by_cases r:a<0\/b<0\/g.hω<=a\/g.hω<=b
 ·simp[nA,yE g a b r,ao]
 · have e:=iG g [a,b] (Oy (by omega) (by omega)) h0;have c:a=b:=by omega
   subst c;simp[nA,t3,mI,e,ao,cJ]
theorem HH{g:GΩ}{a b:Int}(e:(p8 g a b).res=.exc 11):p9 g a b=.exc 11 ⟨g,a,b⟩:=by
 unfold p9 wd;simp[nC,e]
theorem EL{g:GΩ}{a b:Int}(e:(p8 g a b).res=.exc 11):uo g a b=.exc 11 ⟨g,a,b⟩:=by
 unfold uo wc;simp[nB,e]
theorem AW{g:GΩ}{a b:Int}(e:(p8 g a b).res=.ok ())(h:(g.U.get [a,b]).isSome=true):p9 g a b=.exc 13 ⟨g,a,b⟩:=by
 obtain⟨x,ex⟩:=Option.isSome_iff_exists.mp h;unfold p9 wd;simp[nC,ub,mK,e,ex,cJ]
theorem AV{g:GΩ}{a b:Int}(e:(p8 g a b).res=.ok ())(h:g.U.get [a,b]=none):uo g a b=.exc 12 ⟨g,a,b⟩:=by
 unfold uo wc;simp[nB,t9,mJ,e,h,cJ]
theorem Bm{p:PostT}{a b:Int}(e:(lV p.guild [a,b]).res=.exc 11):lU p a b=.exc 11 ⟨p,a,b⟩:=by
 unfold lU v9;simp[kR,e,ao]
theorem ya{p:PostT}{a b:Int}(e:(lV p.guild [a,b]).res=.ok ())(h:p.letters.get [a,b]=none):lU p a b=.exc 15 ⟨p,a,b⟩:=by
 unfold lU v9;simp[kR,nz,mH,e,h,ao,cJ]
theorem AI{p:PostT}(h:p.letters=[]):qx p=.exc 15 ⟨p,none⟩:=by
 have a:(BC p).res=.exc 15:=by
  unfold BC zY;simp[tN,zB,h,cJ]
 unfold qx z0;simp[ny,a]
theorem vm{p:PostT}{a b:Int}{c:Nat}(e:uo p.guild a b=.exc c ⟨p.guild,a,b⟩):qv p a b=.exc c ⟨p,a,b⟩:=by
 unfold qv zZ;simp[nw,e]
theorem uE{p:PostT}{a b:Int}{c:Nat}(e:p9 p.guild a b=.exc c ⟨p.guild,a,b⟩):qu p a b=.exc c ⟨p,a,b⟩:=by
 unfold qu zX;simp[nv,e]
theorem Fw{p c:PostT}{k a b:Int}{r:List Bool}(h:k9 ⟨p,k,a,b,some [],none⟩=.nx ⟨c,k,a,b,some r,none⟩):qa p k a b=.ok r ⟨c,k,a,b,none,none⟩:=by
 unfold qa xX;simp[vS,h,vR,ao]
theorem Nz{p c:PostT}{k a b:Int}(h:if k=0 then ∃x,lU p a b=.ok x ⟨c,a,b⟩ else if k=1 then qv p a b=.ok () ⟨c,a,b⟩ else if k=2 then qu p a b=.ok () ⟨c,a,b⟩ else ∃x o,qx p=.ok x ⟨c,o⟩):qa p k a b=.ok [] ⟨c,k,a,b,none,none⟩:=by
 refine Fw ?_;unfold k9 BN;by_cases q:k=0
 ·rw[Tq q]at h;obtain⟨x,h⟩:=h;simp[q,h]
 · rw[on q]at h;by_cases e:k=1
   ·rw[Tq e]at h;simp[e,h]
   · rw[on e]at h;by_cases d:k=2
     ·rw[Tq d]at h;simp[d,h]
     ·rw[on d]at h;obtain⟨x,o,h⟩:=h;simp[q,e,d,h]
theorem Ic{p:PostT}{k a b:Int}{c:Nat}{r:List Bool}(f:(c=11/\r=[true,false,false,false,true])\/(c=15/\r=[false,true,false,false,true])\/(c=12/\r=[false,false,true,false,true])\/(c=13/\r=[false,false,false,true,true]))
 (h:if k=0 then lU p a b=.exc c ⟨p,a,b⟩ else if k=1 then qv p a b=.exc c ⟨p,a,b⟩ else if k=2 then qu p a b=.exc c ⟨p,a,b⟩ else qx p=.exc c ⟨p,none⟩):qa p k a b=.ok r ⟨p,k,a,b,none,none⟩:=by
 refine Fw ?_;unfold k9 BN;by_cases q:k=0
 ·rw[Tq q]at h;simp[q,h];rcases f with ⟨rfl,rfl⟩|⟨rfl,rfl⟩|⟨rfl,rfl⟩|⟨rfl,rfl⟩<;>rfl
 · rw[on q]at h;by_cases e:k=1
   ·rw[Tq e]at h;simp[e,h];rcases f with ⟨rfl,rfl⟩|⟨rfl,rfl⟩|⟨rfl,rfl⟩|⟨rfl,rfl⟩<;>rfl
   · rw[on e]at h;by_cases d:k=2
     ·rw[Tq d]at h;simp[d,h];rcases f with ⟨rfl,rfl⟩|⟨rfl,rfl⟩|⟨rfl,rfl⟩|⟨rfl,rfl⟩<;>rfl
     ·rw[on d]at h;simp[q,e,d,h];rcases f with ⟨rfl,rfl⟩|⟨rfl,rfl⟩|⟨rfl,rfl⟩|⟨rfl,rfl⟩<;>rfl
def lQ(l:List (Int×Int×Option (List Int)))(W:L3)(sz k a b:Int):Str:=if k=3 then (if l=[] then "letter" else "done") else if min a b<0\/sz<=max a b\/(0<k/\a=b) then "house" else if k=0/\(l.filter λn=>decide ((n.1,n.2.1)=(a,b)))=[] then "letter" else if k=1/\(min a b,max a b)∉W then "way" else if k=2/\(min a b,max a b)∈W then "there" else "done"
theorem KP(l:List (Int×Int×Option (List Int)))(W:L3)(sz k a b:Int)(u:l.length<ao):(Ak l W sz k a b).res=.ok (lQ l W sz k a b):=by
 unfold Ak xW lQ;by_cases k3:k=3
 · rw[Tq k3];subst k3;by_cases e:l=[]
   ·rw[Tq e];simp[i8,k8,e]
   ·rw[on e];simp[i8,k7,k6,e]
 · rw[on k3];have e1:i8 ⟨l,W,sz,k,a,b,none⟩=.nx ⟨l,W,sz,k,a,b,none⟩:=by simp[i8,k3]
   have w:k7 ⟨l,W,sz,k,a,b,none⟩=.nx ⟨l,W,sz,k,a,b,none⟩:=by simp[k7,k3]
   rw[qj e1,qj w];by_cases q:min a b<0\/sz<=max a b\/(0<k/\a=b)
   · rw[Tq q]
     have r:gO ⟨l,W,sz,k,a,b,none⟩=.rt "house" ⟨l,W,sz,k,a,b,none⟩:=by
      unfold gO kZ;by_cases d:min a b<0
      ·simp[gT,d]
      · by_cases f:sz<=max a b
        ·simp[gT,jI,d,f]
        · obtain⟨h,rfl⟩:0 < k/\a=b:=by rcases q with q | q | q <;> first | exact q | omega
          have j:¬ a<0:=by omega
          have i:¬ sz<=a:=by omega
          simp[j,i,h]
     unfold aI;rw[r];rfl
   · rw[on q];have d:¬ min a b<0:=λz=>q (.inl z);have f:¬ sz<=max a b:=λz=>q (.inr (.inl z));have h:0<k->¬ a=b:=λz s=>q (.inr (.inr ⟨z,s⟩))
     have r:gO ⟨l,W,sz,k,a,b,none⟩=.nx ⟨l,W,sz,k,a,b,none⟩:=by
      by_cases z:0<k
      ·simp[gO,gT,jI,d,f,h z]
      ·simp[gO,gT,jI,d,f,z]
     have c:fW (pC λp:S_bg9=>p.vdq) (bx (gQ false) (gw (bF Bb (pC λp=>p.1)) (bF qO (pC λp=>p.1))) (gw (pC λp=>p.2.v0q) (pC λp=>p.2.v1q))) (pC λp=>p.1) ⟨l,W,sz,k,a,b,none⟩=.ok ((l.filter λn=>decide ((n.1,n.2.1)=(a,b))).map λn=>n):=by
      refine uc (l:=l) (λn=>decide ((n.1,n.2.1)=(a,b))) (λn=>n) ?_ u (λn _=>?_) (λn _ _=>?_)
      ·rfl
      ·show Res.ok (false.xor (decide _))=_;rw[Bool.false_xor]
      ·rfl
     rw[List.map_id']at c;rw[qj r];have v:pM ⟨l,W,sz,k,a,b,none⟩=.nx ⟨l,W,sz,k,a,b,some (decide ((min a b,max a b)∈W))⟩:=by simp[pM,gT,jI];congr
     by_cases g:k=0/\(l.filter λn=>decide ((n.1,n.2.1)=(a,b)))=[]
     · rw[Tq g]
       have o:gN ⟨l,W,sz,k,a,b,none⟩=.rt "letter" ⟨l,W,sz,k,a,b,none⟩:=by
        obtain⟨k0,t⟩:=g;subst k0;unfold gN kY;generalize fW (pC λp:S_bg9=>p.vdq) (bx (gQ false) (gw (bF Bb (pC λp=>p.1)) (bF qO (pC λp=>p.1))) (gw (pC λp=>p.2.v0q) (pC λp=>p.2.v1q))) (pC λp=>p.1)=X at c ⊢;rw[t]at c;simp[c]
       unfold aI;rw[o];rfl
     · rw[on g]
       have o:gN ⟨l,W,sz,k,a,b,none⟩=.nx ⟨l,W,sz,k,a,b,none⟩:=by
        by_cases k0:k=0
        ·have ne:¬ (l.filter λn=>decide ((n.1,n.2.1)=(a,b)))=[]:=λz=>g ⟨k0,z⟩;subst k0;unfold gN;generalize fW (pC λp:S_bg9=>p.vdq) (bx (gQ false) (gw (bF Bb (pC λp=>p.1)) (bF qO (pC λp=>p.1))) (gw (pC λp=>p.2.v0q) (pC λp=>p.2.v1q))) (pC λp=>p.1)=X at c ⊢;generalize (l.filter λn=>decide ((n.1,n.2.1)=(a,b)))=Y at c ne;simp[c,ne]
        ·simp[gN,k0]
       rw[qj o,qj v];by_cases m:(min a b,max a b)∈W
       · by_cases k2:k=2
         ·simp[i7,kW,kU,m,k2]
         ·simp[i7,kW,pL,m,k2]
       · by_cases k1:k=1
         ·simp[i7,kX,m,k1]
         ·simp[i7,kW,pL,m,k1]
def fo(d:Str):List Bool:=if d = "done" then [] else [decide (d = "house"),decide (d = "letter"),decide (d = "way"),decide (d = "there"),true]
theorem Cf(d:Str):(Aj d).res=.ok (fo d):=by
 unfold Aj xV fo;by_cases q:d = "done"
 ·simp[pK,kT,q,ao]
 ·simp[pK,vQ,q,ao]
def f6(p:PostT)(sz:Int):List (List (Option (List Int))):=(dQ 0 sz).map λa=>(dQ 0 sz).map λb=>(p.told_last.get [a,b]).bind id
theorem Cc{sz:Int}{p:PostT}(P:PW sz p){a b:Int}(e:0<=a/\a<sz)(d:0<=b/\b<sz):(Gg p a b).res=.ok ((p.told_last.get [a,b]).bind id):=by
 have c:=iG p.guild [a,b] (by rw[P.g.count];exact Oy e d) (by rw[P.g.count];omega);unfold Gg FR;simp[zz,zx,c,wD,ao]
theorem GF{sz:Int}{p:PostT}(P:PW sz p)(m:1<=sz)(d:sz<=60):(wx p sz).res=.ok (p.roads,bc p,f6 p sz):=by
 have rg:=ka (lo:=0) (hi:=sz) (by omega) (by omega) (by omega) (by omega);have e1:pJ ⟨p,sz,none,none⟩=.nx ⟨p,sz,some [],none⟩:=by simp[pJ,ao]
 have k:(dQ 0 sz).length<=60:=by rw[gH];omega
 obtain⟨s2,j,e,rfl⟩:=kF (u:=λa s=>{s with v0q:=some a}) (c:=jO) (λpre (s:S_bi9)=>∃e,s=⟨p,sz,some (pre.map λa=>(dQ 0 sz).map λb=>(p.told_last.get [a,b]).bind id),e⟩) (dQ 0 sz) ⟨p,sz,some [],none⟩ ⟨none,rfl⟩ (by
  rintro pre a r s g ⟨e,rfl⟩;have i:0<=a/\a<sz:=gF.mp (by rw[g];simp)
  have hp:pre.length<61:=by
   have:=congrArg List.length g
   rw[TU]at this;omega
  have c:=lh (Z:=S_bi9) (src:=bF (mU 0) (pC (·.vpq))) (te:=oh Gg (pC λp=>p.2.viq) (vC λp=>p.2.v0q) (pC λp=>p.1)) (s:=⟨p,sz,some (pre.map λa=>(dQ 0 sz).map λb=>(p.told_last.get [a,b]).bind id),some a⟩) (l:=dQ 0 sz) (λb=>(p.told_last.get [a,b]).bind id) (by simp[rg]) (by unfold ao;omega) (λb h=>by simp[Cc P i (gF.mp h)]);have ap:=yi (l:=pre.map λa=>(dQ 0 sz).map λb=>(p.told_last.get [a,b]).bind id) (x:=(dQ 0 sz).map λb=>(p.told_last.get [a,b]).bind id) (by rw[List.length_map];unfold ao;omega);refine⟨⟨p,sz,some ((pre++[a]).map λa=>(dQ 0 sz).map λb=>(p.told_last.get [a,b]).bind id),some a⟩,.inl ?_,some a,rfl⟩;unfold jO a9 Nf;simp only[c,bndO,ap]
  simp)
 have f:pH ⟨p,sz,some [],none⟩=.nx ⟨p,sz,some (f6 p sz),e⟩:=by
  unfold pH;simp[rg,j,f6]
 unfold wx xU;rw[qj e1,qj f];simp[vP,Cd P d,nJ P d]
theorem AU{sz:Int}{p:PostT}(P:PW sz p)(a b:Int):((bc p).filter λn=>decide ((n.1,n.2.1)=(a,b)))=[]↔p.letters.get [a,b]=none:=by
 rw[WC];constructor
 · intro h;cases q:p.letters.get [a,b] with
   |none=>rfl
   |some o=>
     have:=h (a,b,o) (T9.mpr ⟨([a,b],o),vh q,rfl⟩)
     simp at this
 ·intro h n d e;obtain⟨q,c,rfl⟩:=T9.mp d;obtain⟨x,y,f,_⟩:=P.lts.2 q c;have g:=fS P.lts.1 (show(q.1,q.2)∈p.letters from c);rw[f]at g e;simp at e;rw[e.1,e.2,h]at g;cases g
theorem SR:fo "house" = [true,false,false,false,true]:=by decide +kernel
theorem QE:fo "letter" = [false,true,false,false,true]:=by decide +kernel
theorem SN:fo "way" = [false,false,true,false,true]:=by decide +kernel
theorem SQ:fo "there" = [false,false,false,true,true]:=by decide +kernel
theorem SS:fo "done" = []:=by decide +kernel
theorem SK:¬ (("house" : Str) = "done"):=by decide +kernel
theorem Qb:¬ (("letter" : Str) = "done"):=by decide +kernel
theorem SH:¬ (("way" : Str) = "done"):=by decide +kernel
theorem SI:¬ (("there" : Str) = "done"):=by decide +kernel
theorem wX(p:PostT):(qN p).guild=p.guild:=by
 unfold qN;split
 ·rfl
 ·exact mO _ _ _
def Dd(sz:Int)(p:PostT)(W:L3)(k a b:Int):Prop:=∃d c,qa p k a b=.ok (fo (lQ (bc p) W sz k a b)) ⟨d,k,a,b,none,none⟩/\PW sz d/\GuildIs d.guild sz c [] [] []/\WaysOk sz c/\
 (if lQ (bc p) W sz k a b = "done" then (if k=1 then sf W (min a b,max a b)=some ((),c) else if k=2 then ui W (min a b,max a b)=some ((),c) else c=W) else c=W/\d=p)
theorem S7{sz:Int}{p:PostT}{W:L3}(P:PW sz p)(G:GuildIs p.guild sz W [] [] [])(f:WaysOk sz W)(T:1<=sz)(i:sz<=60)(k a b:Int)(H:k=0\/k=1\/k=2\/k=3):Dd sz p W k a b:=by
 have s:0<sz:=by omega
 have I:p.guild.hω=sz:=P.g.count
 have bad:∀{d:Str} {c:Nat} {r:List Bool},lQ (bc p) W sz k a b=d->fo d=r->¬ d = "done" -> ((c=11/\r=[true,false,false,false,true])\/(c=15/\r=[false,true,false,false,true])\/(c=12/\r=[false,false,true,false,true])\/(c=13/\r=[false,false,false,true,true]))->(if k=0 then lU p a b=.exc c ⟨p,a,b⟩ else if k=1 then qv p a b=.exc c ⟨p,a,b⟩ else if k=2 then qu p a b=.exc c ⟨p,a,b⟩ else qx p=.exc c ⟨p,none⟩)->Dd sz p W k a b:=by
  intro d c r D O nd B h;unfold Dd;rw[D,O];exact⟨p,W,Ic B h,P,G,f,by rw[if_neg nd];exact⟨rfl,rfl⟩⟩
 have good:∀{j:PostT} {l:L3},lQ (bc p) W sz k a b = "done" -> (if k=0 then ∃x,lU p a b=.ok x ⟨j,a,b⟩ else if k=1 then qv p a b=.ok () ⟨j,a,b⟩ else if k=2 then qu p a b=.ok () ⟨j,a,b⟩ else ∃x o,qx p=.ok x ⟨j,o⟩)->PW sz j->GuildIs j.guild sz l [] [] []->WaysOk sz l->(if k=1 then sf W (min a b,max a b)=some ((),l) else if k=2 then ui W (min a b,max a b)=some ((),l) else l=W)->Dd sz p W k a b:=by
  intro j l D h Q R C w;unfold Dd;rw[D,SS];exact⟨j,l,Nz h,Q,R,C,by rw[if_pos rfl];exact w⟩
 by_cases k3:k=3
 · subst k3;by_cases e:p.letters=[]
   ·exact bad (by unfold lQ;rw[if_pos rfl,if_pos (ur.mpr e)]) QE Qb (.inr (.inl ⟨rfl,rfl⟩)) (AI e)
   ·obtain⟨x,o,nx⟩:=GJ P i e;exact good (by unfold lQ;rw[if_pos rfl,if_neg λz=>e (ur.mp z)]) ⟨x,o,nx⟩ (P.next s) (by rw[wX];exact G) f rfl
 · by_cases q:min a b<0\/sz<=max a b\/(0<k/\a=b)
   · refine bad (by unfold lQ;rw[if_neg k3,if_pos q]) SR SK (.inl ⟨rfl,rfl⟩) ?_;by_cases k0:k=0
     ·rw[Tq k0];exact Bm (yE _ _ _ (by omega))
     · have t:=Gr p.guild a b (by rw[I];omega) (by omega);rw[on k0];rcases H with z|rfl|rfl|z
       ·exact absurd z k0
       ·exact vm (EL t)
       ·exact uE (HH t)
       ·exact absurd z k3
   · have A:0<=a/\a<sz:=by omega
     have y:0<=b/\b<sz:=by omega
     have K:=iG p.guild [a,b] (by rw[I];exact Oy A y) (by omega)
     have d0:lQ (bc p) W sz k a b=(if k=0/\p.letters.get [a,b]=none then "letter" else if k=1/\(min a b,max a b)∉W then "way" else if k=2/\(min a b,max a b)∈W then "there" else "done" : Str):=by
      unfold lQ;rw[if_neg k3,if_neg q];simp only[AU P]
     by_cases k0:k=0
     · subst k0;cases e:p.letters.get [a,b] with
       |none=>exact bad (by rw[d0,Tq ⟨rfl,e⟩]) QE Qb (.inr (.inl ⟨rfl,rfl⟩)) (ya K e)
       |some o=>exact good (by rw[d0,on (λz=>by rw[e]at z;cases z.2),on (λz=>by cases z.1),on (λz=>by cases z.1)]) ⟨_,uy P i e⟩ (P.carry s e) (by rw[mO];exact G) f rfl
     · have n:a≠b:=by omega
       have E:=wC p.guild a b (by omega) (by omega) n;have w:=(G.way a b).trans (qK f a b);have u:=(G.way b a).trans (qK f b a);rw[show min b a=min a b by omega,show max b a=max a b by omega]at u;rw[on λz=>k0 z.1]at d0
       have J:(min a b,max a b)∉W->p.guild.U.get [a,b]=none:=λm=>by
        cases z:p.guild.U.get [a,b] with
        |none=>rfl
        |some v=>exact absurd (w.mp (by rw[z];rfl)) m
       rcases H with z|rfl|rfl|z
       ·exact absurd z k0
       · by_cases m:(min a b,max a b)∈W
         ·obtain⟨l,N,M,L,F⟩:=Df m f.nd;exact good (by rw[d0,on λz=>z.2 m,on λz=>by cases z.1]) (GN P i A y n (w.mpr m) (u.mpr m)) (P.fall A y) (by rw[xH];exact G.lift f a b F) ⟨M,λp hp=>f.all p ((F p).mp hp).1,Uk L f.len⟩ N
         ·exact bad (by rw[d0,Tq ⟨rfl,m⟩]) SN SH (.inr (.inr (.inl ⟨rfl,rfl⟩))) (vm (AV E (J m)))
       · rw[on λz=>by cases z.1]at d0;by_cases m:(min a b,max a b)∈W
         ·exact bad (by rw[d0,Tq ⟨rfl,m⟩]) SQ SI (.inr (.inr (.inr ⟨rfl,rfl⟩))) (uE (AW E (w.mpr m)))
         · have S:=BF i f.nd f.all;refine good (by rw[d0,if_neg λz=>m z.2]) (GG P i A y n (J m)) (P.rise A y) (by rw[wI];exact G.lay a b) ⟨oA f.nd m,λp hp=>?_,by rw[List.length_append];simp;omega⟩ (yi (by unfold ao;omega));rcases List.mem_append.mp hp with z|z
           ·exact f.all p z
           ·rw[TX.mp z];simp only;omega
       ·exact absurd z k3
theorem step{sz:Int}{p:PostT}{W:L3}(P:PW sz p)(G:GuildIs p.guild sz W [] [] [])(S:WaysOk sz W)(E:1<=sz)(n:sz<=60)(ns:List Int)(g:GΩ)(c:Int)(v s k0:Option Int)(q:Option (List (Option (List Int))×List (Int×Int×Option (List Int))×List (List (Option (List Int)))))(m:Option (List (Int×Int×Option (List Int))))(f:Option Str):
 ∃s' h r,lj ⟨ns,some sz,some W,some g,v,s,some p,some c,k0,q,m,f⟩=.nx s'/\(∃a1 b1 k1 e1 O d1,s'=⟨ns,some sz,some r,some g,a1,b1,some h,some c,k1,e1,O,d1⟩)/\PW sz h/\GuildIs h.guild sz r [] [] []/\WaysOk sz r:=by
 have B:0<sz+2:=by omega
 have A:sz+2<1073741824:=by omega
 have sn:=GF P E n;have L:=nJ P n;have M:(bc p).length<ao:=by have:=gL n P.lts;unfold bc ao;rw[List.length_map];omega
 have D:c%4=0\/c%4=1\/c%4=2\/c%4=3:=by omega
 obtain⟨k,F⟩:∃k,k=c%4:=⟨_,rfl⟩;obtain⟨a,I⟩:∃a,a=c / 4%(sz+2)-1:=⟨_,rfl⟩;obtain⟨b,H⟩:∃b,b=c / 4 / (sz+2)%(sz+2)-1:=⟨_,rfl⟩;have e1:jV ⟨ns,some sz,some W,some g,v,s,some p,some c,k0,q,m,f⟩=.nx ⟨ns,some sz,some W,some g,v,s,some p,some c,some k,q,m,f⟩:=by simp[jV,F]
 have e2:jU ⟨ns,some sz,some W,some g,v,s,some p,some c,some k,q,m,f⟩=.nx ⟨ns,some sz,some W,some g,some a,s,some p,some c,some k,q,m,f⟩:=by simp[jU,I,B,A]
 have Z:jT ⟨ns,some sz,some W,some g,some a,s,some p,some c,some k,q,m,f⟩=.nx ⟨ns,some sz,some W,some g,some a,some b,some p,some c,some k,q,m,f⟩:=by simp[jT,H,B,A]
 rw[<-F]at D;clear I H;have Y:jS ⟨ns,some sz,some W,some g,some a,some b,some p,some c,some k,q,m,f⟩=.nx ⟨ns,some sz,some W,some g,some a,some b,some p,some c,some k,some (p.roads,bc p,f6 p sz),m,f⟩:=by simp[jS,sn]
 have X:jR ⟨ns,some sz,some W,some g,some a,some b,some p,some c,some k,some (p.roads,bc p,f6 p sz),m,f⟩=.nx ⟨ns,some sz,some W,some g,some a,some b,some p,some c,some k,some (p.roads,bc p,f6 p sz),some (bc p),f⟩:=by simp[jR,L]
 obtain⟨l,j,V⟩:∃l j,d4 ⟨ns,some sz,some W,some g,some a,some b,some p,some c,some k,some (p.roads,bc p,f6 p sz),some (bc p),f⟩=.nx ⟨ns,some sz,some W,some g,some l,some j,some p,some c,some k,some (p.roads,bc p,f6 p sz),some (bc p),f⟩:=by
  by_cases u:k=0
  · by_cases z:c / 4%3=0
    · by_cases C:0<(bc p).length
      · have w:0<((bc p).length:Int):=by omega
        have Q:0<=c / 12%((bc p).length:Int):=WF _ (by omega);have i2:c / 12%((bc p).length:Int)<(bc p).length:=Int.emod_lt_of_pos _ w;obtain⟨x,y,o,R,_⟩:=Go P (i:=(c / 12%((bc p).length:Int)).toNat) (by omega);have at_:lp (bc p) (c / 12%((bc p).length:Int))=some (x,y,o):=by rw[lT _ Q];exact R
        exact⟨x,y,by simp[d4,jb,ja,u,z,C,at_]⟩
      ·exact⟨a,b,by simp[d4,u,z,C]⟩
    ·exact⟨a,b,by simp[d4,u,z]⟩
  ·exact⟨a,b,by simp[d4,u]⟩
 have N:=KP (bc p) W sz k l j M;obtain⟨h,r,dd,J,K,t,e⟩:=S7 P G S E n k l j D;have mk:=Cf (lQ (bc p) W sz k l j);generalize lQ (bc p) W sz k l j=d at *;have U:jQ ⟨ns,some sz,some W,some g,some l,some j,some p,some c,some k,some (p.roads,bc p,f6 p sz),some (bc p),f⟩=.nx ⟨ns,some sz,some W,some g,some l,some j,some p,some c,some k,some (p.roads,bc p,f6 p sz),some (bc p),some d⟩:=by simp[jQ,N]
 have T:jP ⟨ns,some sz,some W,some g,some l,some j,some p,some c,some k,some (p.roads,bc p,f6 p sz),some (bc p),some d⟩=.nx ⟨ns,some sz,some W,some g,some l,some j,some h,some c,some k,some (p.roads,bc p,f6 p sz),some (bc p),some d⟩:=by simp[jP,dd,mk]
 unfold lj;rw[qj e1,qj e2,qj Z,qj Y,qj X,qj V,qj U,qj T];by_cases hd:d = "done"
 · rw[Tq hd]at e;refine⟨⟨ns,some sz,some r,some g,some l,some j,some h,some c,some k,some (p.roads,bc p,f6 p sz),some (bc p),some d⟩,h,r,?_,⟨_,_,_,_,_,_,rfl⟩,J,K,t⟩;by_cases k1:k=1
   ·rw[Tq k1]at e;simp[fU,i9,eT,eQ,hd,k1,gT,jI,e]
   · rw[on k1]at e;by_cases k2:k=2
     ·rw[Tq k2]at e;simp[fU,eT,iz,eQ,hd,k2,gT,jI,e]
     ·rw[on k2]at e;subst e;simp[fU,eT,eQ,hd,k1,k2]
 ·rw[on hd]at e;obtain⟨rfl,rfl⟩:=e;exact⟨⟨ns,some sz,some r,some g,some l,some j,some h,some c,some k,some (h.roads,bc h,f6 h sz),some (bc h),some d⟩,h,r,by simp[fU,eT,eQ,hd,sn],⟨_,_,_,_,_,_,rfl⟩,J,K,t⟩
theorem xN(ns:List Int):∃s,Gj ns=.ok true s:=by
 have cell:∀k:Int,0<=k->(rR ns k).res=.ok (jc ns k):=GO ns;have m6:0<=jc ns 0%6/\jc ns 0%6<6:=⟨WF _ (by omega),Int.emod_lt_of_pos _ (by omega)⟩;have e1:pV ⟨ns,none,none,none,none,none,none,none,none,none,none,none⟩=.nx ⟨ns,some (1+jc ns 0%6),none,none,none,none,none,none,none,none,none,none⟩:=by simp[pV,cell]
 obtain⟨sz,hsz⟩:∃sz,sz=1+jc ns 0%6:=⟨_,rfl⟩;rw[<-hsz]at e1;have l:1<=sz:=by omega
 have h6:sz<=6:=by omega
 have h:sz<=60:=by omega
 obtain⟨W,ew,j⟩:=GD (jc ns 1) sz l h;have e2:pU ⟨ns,some sz,none,none,none,none,none,none,none,none,none,none⟩=.nx ⟨ns,some sz,some W,none,none,none,none,none,none,none,none,none⟩:=by simp[pU,cell,ew]
 have e3:pT ⟨ns,some sz,some W,none,none,none,none,none,none,none,none,none⟩=.nx ⟨ns,some sz,some W,some ⟨sz,[],[],[],[]⟩,none,none,none,none,none,none,none,none⟩:=by simp[pT,mk_Guild,l,h]
 obtain⟨s4,e4,g,n,m,rfl,o,Y,T,X,S,_⟩:=kF (u:=λa s=>{s with v0q:=some a.1,v1q:=some a.2}) (c:=fV) (λp (s:S_bd9)=>∃g f d,s=⟨ns,some sz,some W,some g,f,d,none,none,none,none,none,none⟩/\Wf sz g/\g.lω=[]/\g.wω=[]/\g.sω=[]/\(∀x y,(g.U.get [x,y]).isSome=true↔(x,y)∈p\/(y,x)∈p)/\g.U.length<=2*p.length)
  W ⟨ns,some sz,some W,some ⟨sz,[],[],[],[]⟩,none,none,none,none,none,none,none,none⟩ ⟨_,none,none,rfl,Wf.new,rfl,rfl,rfl,λx y=>by simp[zm],by simp⟩ (by
   rintro p ⟨a,b⟩ r s w ⟨g,f,d,rfl,Q,hl,Z,hn,M,O⟩;have hc:=Q.count;have hm:(a,b)∈W:=by rw[w];simp
   have ho:=j.all _ hm;have i:=j.nd;rw[w]at i;have C:=Uf.mp i
   have hpl:p.length<=10000:=by
    have:=j.len
    rw[w,TU]at this;omega
   simp only at ho
   have gn:g.U.get [a,b]=none:=by
    cases q:g.U.get [a,b] with
    |none=>rfl
    |some v=>
      rcases(M a b).mp (by rw[q];rfl) with z|z
      ·exact absurd rfl (C.2.2 _ z _ Tu)
      · have:=j.all _ (show(b,a)∈W by rw[w];exact TL _ z)
        simp only at this;omega
   have sp:=Cg g a b (by omega) (by omega) (by omega) gn (by unfold ao;omega);refine⟨_,.inl (by simp[fV,sp]),{g with U:=(g.U.put [a,b] true).put [b,a] true},some a,some b,rfl,Q.lay (by omega) (by omega),hl,Z,hn,λx y=>Dj (M x y),?_⟩;show((g.U.put [a,b] true).put [b,a] true).length<=_
   have:=sj (F:=g.U.put [a,b] true) (k:=[b,a]) (v:=true)
   have:=sj (F:=g.U) (k:=[a,b]) (v:=true)
   rw[TU];simp;omega)
 have J:pR ⟨ns,some sz,some W,some ⟨sz,[],[],[],[]⟩,none,none,none,none,none,none,none,none⟩=.nx ⟨ns,some sz,some W,some g,n,m,none,none,none,none,none,none⟩:=by
  have:=o8 (g:=λs:S_bd9=>s.vsq) (l0:=W) (u:=λa s=>{s with v0q:=some a.1,v1q:=some a.2}) (body:=fV) (λs=>∃g f d,s=⟨ns,some sz,some W,some g,f,d,none,none,none,none,none,none⟩) (by rintro s ⟨g,f,d,rfl⟩;rfl)
   (by
     rintro⟨a,b⟩ s ⟨g,f,d,rfl⟩ s' N;cases q:p9 g a b<;>simp[fV,q]at N;subst N
     exact⟨_,_,_,rfl⟩) W ⟨ns,some sz,some W,some ⟨sz,[],[],[],[]⟩,none,none,none,none,none,none,none,none⟩ ⟨_,_,_,rfl⟩
  unfold pR sJ;exact this.trans e4
 have mk:=GI o (Hs.of o h6) l h;have P0:=PW.newP o l
 have G0:GuildIs (newP g).guild sz W [] [] []:=by
  rw[AK];exact⟨o.count,S,λk=>by rw[Y],λk=>by rw[T],λa b=>by rw[X];simp[zm]⟩
 generalize newP g=t at *;have e5:pQ ⟨ns,some sz,some W,some g,n,m,none,none,none,none,none,none⟩=.nx ⟨ns,some sz,some W,some g,n,m,some t,none,none,none,none,none⟩:=by simp[pQ,mk]
 obtain⟨L,e6,_⟩:=Ff (u:=λa s=>{s with v3q:=some a}) (c:=lj) (λs:S_bd9=>∃p A f d R k0 B D K,s=⟨ns,some sz,some A,some g,f,d,some p,R,k0,B,D,K⟩/\PW sz p/\GuildIs p.guild sz A [] [] []/\WaysOk sz A) (ns.drop 2) ⟨ns,some sz,some W,some g,n,m,some t,none,none,none,none,none⟩ ⟨t,W,_,_,_,_,_,_,_,rfl,P0,G0,j⟩ (by
  rintro c s _ ⟨p,A,f,d,R,k0,B,D,K,rfl,P,G,H⟩;obtain⟨s',V,W2,e,⟨a1,b1,k1,x1,l1,d1,rfl⟩,P',G',E⟩:=step P G H l h ns g c f d k0 B D K
  exact⟨_,.inl e,V,W2,_,_,_,_,_,_,_,rfl,P',G',E⟩)
 have I:pP ⟨ns,some sz,some W,some g,n,m,some t,none,none,none,none,none⟩=.nx L:=by
  unfold pP;simp[e6]
 unfold Gj xZ;rw[qj e1,qj e2,qj e3,qj J,qj e5,qj I];exact⟨L,by simp[vV]⟩
theorem EV(ns:List Int)(a:ns.length<=63):∃T,m_bd9 [.scr (ns.map D.int)]=.ok (.bl true) T:=by
 obtain⟨s,e⟩:=xN ns
 have:=N6 ns
 rw[e]at this;exact⟨_,this⟩
end K11
namespace K11
open PySem L2
theorem cy{K:F0}{x q:Str}{st s2:Stmt}{f:Addr}(h:HD.fnO K f q=HD.fnE x q st)(e:st=s2):∃d,Fun K x q s2 f d:=by
 subst e;have b:=HD.fn_keep h;obtain⟨oc,m,kV,j,pm,an,k,ct,a,l,c⟩:=HD.fn_of h;have e1:HD.dA st=kP st:=by cases st<;>rfl
 have i:HD.dB st=eC st:=by cases st<;>rfl
 have g:HD.dS st=am st:=by cases st<;>rfl
 rw[e1,i,g]at l;exact⟨_,Np l c b⟩
def SD:Tns:=[]
theorem Of{w:World}{K:F0}{h:Heap}{mg:Str->Option Value}{T:Tbs}{x:Addr}(X:K.In h)(G:h.Ns mainGlobals mg)(u:mg "law" = some (.ref x))(TO:TabsOf mg h SD T)(y:HD.obK P6 Qc Q0 RA Q5 Q4 QS K=OA PySem.Challenge.pw_heraldways_k11_deeds_refused):∃fd:FuncData,(∀(s:Shared) (v:Value),BindsTo s fd ⟨[v],[]⟩ [("script",v)])/\∀base:Heap,K.In base->base.Ns mainGlobals mg->(∀c P,PySem.W.CodeHd h c P->PySem.W.CodeHd base c P)->FnOk PySem.Challenge.rw_heraldways_k11_deeds_refused.prog w K mg base To 10 x fd ["script"] (Mi.spT K T):=by
 have f:=congrArg (·.1) y;have b:=congrArg (·.2.1) y;have i:=congrArg (·.2.2.1) y;have d:=congrArg (·.2.2.2.1) y;have j:=congrArg (·.2.2.2.2.1) y;have g:=congrArg (·.2.2.2.2.2) y;clear y;have e:=u.symm.trans (T6 X G (HD.nth f 13 rfl rfl));cases e;obtain⟨d_a9,F_a9⟩:=cy (s2:=Lv) (HD.nth d 0 rfl rfl) rfl;obtain⟨d_b9,F_b9⟩:=cy (s2:=CK) (HD.nth d 1 rfl rfl) rfl;obtain⟨d_k9,F_k9⟩:=cy (s2:=GS) (HD.nth d 2 rfl rfl) rfl;obtain⟨d_l9,F_l9⟩:=cy (s2:=Lh) (HD.nth d 3 rfl rfl) rfl;obtain⟨d_s9,F_s9⟩:=cy (s2:=K9) (HD.nth d 4 rfl rfl) rfl;obtain⟨d_t9,F_t9⟩:=cy (s2:=K8) (HD.nth d 5 rfl rfl) rfl;obtain⟨d_z9,F_z9⟩:=cy (s2:=K4) (HD.nth d 6 rfl rfl) rfl;obtain⟨d_be9,F_be9⟩:=cy (s2:=CF) (HD.nth d 7 rfl rfl) rfl;obtain⟨d_bg9,F_bg9⟩:=cy (s2:=yz) (HD.nth d 8 rfl rfl) rfl;obtain⟨d_bh9,F_bh9⟩:=cy (s2:=CC) (HD.nth d 9 rfl rfl) rfl;obtain⟨d_bj9,F_bj9⟩:=cy (s2:=CB) (HD.nth d 10 rfl rfl) rfl;obtain⟨d_bb9,F_bb9⟩:=cy (s2:=CI) (HD.nth d 11 rfl rfl) rfl;obtain⟨d_bc9,F_bc9⟩:=cy (s2:=CH) (HD.nth d 12 rfl rfl) rfl;obtain⟨d_bl9,F_bl9⟩:=cy (s2:=Cz) (HD.nth d 13 rfl rfl) rfl;obtain⟨d_h9,F_h9⟩:=cy (s2:=Lk) (HD.nth d 14 rfl rfl) rfl;obtain⟨d_w9,F_w9⟩:=cy (s2:=Cs) (HD.nth d 15 rfl rfl) rfl;obtain⟨d_y9,F_y9⟩:=cy (s2:=Cr) (HD.nth d 16 rfl rfl) rfl;obtain⟨d_bk9,F_bk9⟩:=cy (s2:=CA) (HD.nth d 17 rfl rfl) rfl;obtain⟨d_e9,F_e9⟩:=cy (s2:=Lr) (HD.nth d 18 rfl rfl) rfl;obtain⟨d_f9,F_f9⟩:=cy (s2:=Lq) (HD.nth d 19 rfl rfl) rfl;obtain⟨d_i9,F_i9⟩:=cy (s2:=Lj) (HD.nth d 20 rfl rfl) rfl;obtain⟨d_j9,F_j9⟩:=cy (s2:=Li) (HD.nth d 21 rfl rfl) rfl;obtain⟨d_m9,F_m9⟩:=cy (s2:=Lg) (HD.nth d 22 rfl rfl) rfl;obtain⟨d_x9,F_x9⟩:=cy (s2:=K5) (HD.nth d 23 rfl rfl) rfl;obtain⟨d_c9,F_c9⟩:=cy (s2:=Lu) (HD.nth d 24 rfl rfl) rfl;obtain⟨d_d9,F_d9⟩:=cy (s2:=Ls) (HD.nth d 25 rfl rfl) rfl;obtain⟨d_g9,F_g9⟩:=cy (s2:=Lm) (HD.nth d 26 rfl rfl) rfl;obtain⟨d_ba9,F_ba9⟩:=cy (s2:=CJ) (HD.nth d 27 rfl rfl) rfl;obtain⟨d_bi9,F_bi9⟩:=cy (s2:=yy) (HD.nth d 28 rfl rfl) rfl;obtain⟨d_n9,F_n9⟩:=cy (s2:=Ct) (HD.nth d 29 rfl rfl) rfl;obtain⟨d_q9,F_q9⟩:=cy (s2:=Lc) (HD.nth d 30 rfl rfl) rfl;obtain⟨d_v9,F_v9⟩:=cy (s2:=K6) (HD.nth d 31 rfl rfl) rfl;obtain⟨d_bm9,F_bm9⟩:=cy (s2:=Cy) (HD.nth d 32 rfl rfl) rfl;obtain⟨d_r9,F_r9⟩:=cy (s2:=Lb) (HD.nth d 33 rfl rfl) rfl;obtain⟨d_u9,F_u9⟩:=cy (s2:=K7) (HD.nth d 34 rfl rfl) rfl;obtain⟨d_o9,F_o9⟩:=cy (s2:=Le) (HD.nth d 35 rfl rfl) rfl;obtain⟨d_p9,F_p9⟩:=cy (s2:=Ld) (HD.nth d 36 rfl rfl) rfl;obtain⟨d_bf9,F_bf9⟩:=cy (s2:=CD) (HD.nth d 37 rfl rfl) rfl;obtain⟨d_bd9,F_bd9⟩:=cy (s2:=CG) (HD.nth d 38 rfl rfl) rfl;obtain⟨l,n,k,mk_Guild,m⟩:=HD.cls_of (HD.nth i 27 rfl rfl);obtain⟨q,t,o,mk_Post,r⟩:=HD.cls_of (HD.nth i 28 rfl rfl)
 have J:∀(s:Shared) (v:Value),BindsTo s d_bd9 ⟨[v],[]⟩ [("script",v)]:=by
  obtain⟨oc,R,kV,L,pm,an,M,ct,z,rfl,lk,I⟩:=F_bd9.ex;exact λs v=>.of_eq rfl
 refine⟨d_bd9,J,λbase _ _ O=>?_⟩
 have N:Txt K mg ⟨240,395,31,44,56,68,80,92,115,d_a9,204,d_b9,216,d_k9,122,d_l9,357,d_s9,385,d_t9,364,d_z9,406,d_be9,418,d_bg9,425,d_bh9,413,d_bj9,265,d_bb9,272,d_bc9,101,d_bl9,223,d_h9,296,d_w9,308,d_y9,258,d_bk9,164,d_e9,129,d_f9,237,d_i9,230,d_j9,211,d_m9,303,d_x9,143,d_c9,150,d_d9,199,d_g9,371,d_ba9,437,d_bi9,284,d_n9,392,d_q9,350,d_v9,251,d_bm9,343,d_r9,378,d_u9,322,d_o9,329,d_p9,432,d_bf9,444,d_bd9⟩ base:={
  cl_Guild:=⟨l,n,k,HD.nth b 27 rfl rfl⟩
  mgC_Guild:=T6 X G (HD.nth f 0 rfl rfl)
  mk_Guild:=⟨mk_Guild,HD.nth b 0 rfl rfl,HD.nth i 0 rfl rfl,m⟩
  cl_Post:=⟨q,t,o,HD.nth b 28 rfl rfl⟩
  mgC_Post:=T6 X G (HD.nth f 1 rfl rfl)
  mk_Post:=⟨mk_Post,HD.nth b 20 rfl rfl,HD.nth i 20 rfl rfl,r⟩
  n_house_count:=HD.nth b 29 rfl rfl
  n_ways:=HD.nth b 30 rfl rfl
  n_likings:=HD.nth b 31 rfl rfl
  n_shuns:=HD.nth b 32 rfl rfl
  n_wish_ranks:=HD.nth b 33 rfl rfl
  n_guild:=HD.nth b 34 rfl rfl
  n_roads:=HD.nth b 35 rfl rfl
  n_told_last:=HD.nth b 36 rfl rfl
  n_written_last:=HD.nth b 37 rfl rfl
  n_letters:=HD.nth b 38 rfl rfl
  n_standings:=HD.nth b 39 rfl rfl
  mgC_GuildError:=T6 X G (HD.nth f 26 rfl rfl)
  ek_GuildError:=(T7.mp (Ur (HD.nth j 0 rfl rfl)).1).1
  xa_GuildError:=(T7.mp (Ur (HD.nth j 0 rfl rfl)).1).2
  mgC_NoHouse:=T6 X G (HD.nth f 27 rfl rfl)
  ek_NoHouse:=(T7.mp (Ur (HD.nth j 1 rfl rfl)).1).1
  xa_NoHouse:=(T7.mp (Ur (HD.nth j 1 rfl rfl)).1).2
  mgC_NoWay:=T6 X G (HD.nth f 28 rfl rfl)
  ek_NoWay:=(T7.mp (Ur (HD.nth j 2 rfl rfl)).1).1
  xa_NoWay:=(T7.mp (Ur (HD.nth j 2 rfl rfl)).1).2
  mgC_WayThere:=T6 X G (HD.nth f 29 rfl rfl)
  ek_WayThere:=(T7.mp (Ur (HD.nth j 3 rfl rfl)).1).1
  xa_WayThere:=(T7.mp (Ur (HD.nth j 3 rfl rfl)).1).2
  mgC_NoRoad:=T6 X G (HD.nth f 30 rfl rfl)
  ek_NoRoad:=(T7.mp (Ur (HD.nth j 4 rfl rfl)).1).1
  xa_NoRoad:=(T7.mp (Ur (HD.nth j 4 rfl rfl)).1).2
  mgC_NoLetter:=T6 X G (HD.nth f 31 rfl rfl)
  ek_NoLetter:=(T7.mp (Ur (HD.nth j 5 rfl rfl)).1).1
  xa_NoLetter:=(T7.mp (Ur (HD.nth j 5 rfl rfl)).1).2
  sb_GuildError_GuildError:=by rw[show gr K 31=_ from(Ur (HD.nth j 0 rfl rfl)).2];rfl
  sb_NoHouse_GuildError:=by rw[show gr K 44=_ from(Ur (HD.nth j 1 rfl rfl)).2];rfl
  sb_NoWay_GuildError:=by rw[show gr K 56=_ from(Ur (HD.nth j 2 rfl rfl)).2];rfl
  sb_WayThere_GuildError:=by rw[show gr K 68=_ from(Ur (HD.nth j 3 rfl rfl)).2];rfl
  sb_NoRoad_GuildError:=by rw[show gr K 80=_ from(Ur (HD.nth j 4 rfl rfl)).2];rfl
  sb_NoLetter_GuildError:=by rw[show gr K 92=_ from(Ur (HD.nth j 5 rfl rfl)).2];rfl
  kt_GuildError_NoHouse:=HD.nth g 0 rfl rfl
  kt_GuildError_NoLetter:=HD.nth g 1 rfl rfl
  kt_GuildError_NoWay:=HD.nth g 2 rfl rfl
  kt_GuildError_WayThere:=HD.nth g 3 rfl rfl
  kt_GuildError_ValueError:=HD.nth g 4 rfl rfl
  kt_NoHouse_NoHouse:=HD.nth g 5 rfl rfl
  kt_NoHouse_NoLetter:=HD.nth g 6 rfl rfl
  kt_NoHouse_NoWay:=HD.nth g 7 rfl rfl
  kt_NoHouse_WayThere:=HD.nth g 8 rfl rfl
  kt_NoHouse_ValueError:=HD.nth g 9 rfl rfl
  kt_NoWay_NoHouse:=HD.nth g 10 rfl rfl
  kt_NoWay_NoLetter:=HD.nth g 11 rfl rfl
  kt_NoWay_NoWay:=HD.nth g 12 rfl rfl
  kt_NoWay_WayThere:=HD.nth g 13 rfl rfl
  kt_NoWay_ValueError:=HD.nth g 14 rfl rfl
  kt_WayThere_NoHouse:=HD.nth g 15 rfl rfl
  kt_WayThere_NoLetter:=HD.nth g 16 rfl rfl
  kt_WayThere_NoWay:=HD.nth g 17 rfl rfl
  kt_WayThere_WayThere:=HD.nth g 18 rfl rfl
  kt_WayThere_ValueError:=HD.nth g 19 rfl rfl
  kt_NoRoad_NoHouse:=HD.nth g 20 rfl rfl
  kt_NoRoad_NoLetter:=HD.nth g 21 rfl rfl
  kt_NoRoad_NoWay:=HD.nth g 22 rfl rfl
  kt_NoRoad_WayThere:=HD.nth g 23 rfl rfl
  kt_NoRoad_ValueError:=HD.nth g 24 rfl rfl
  kt_NoLetter_NoHouse:=HD.nth g 25 rfl rfl
  kt_NoLetter_NoLetter:=HD.nth g 26 rfl rfl
  kt_NoLetter_NoWay:=HD.nth g 27 rfl rfl
  kt_NoLetter_WayThere:=HD.nth g 28 rfl rfl
  kt_NoLetter_ValueError:=HD.nth g 29 rfl rfl
  F_a9:=F_a9
  b_a9:=F_a9.binds λ_ _ _ _ _ _=>L2.fM λ_ _=>rfl
  F_b9:=F_b9
  b_b9:=F_b9.binds λ_ _ _ _ _ _=>L2.gd λ_ _ _=>rfl
  me_b9:=⟨HD.nth b 1 rfl rfl,HD.nth i 1 rfl rfl,F_b9.kp⟩
  F_k9:=F_k9
  b_k9:=F_k9.binds λ_ _ _ _ _ _=>L2.gd λ_ _ _=>rfl
  me_k9:=⟨HD.nth b 2 rfl rfl,HD.nth i 2 rfl rfl,F_k9.kp⟩
  F_l9:=F_l9
  b_l9:=F_l9.binds λ_ _ _ _ _ _=>L2.jv λ_=>rfl
  me_l9:=⟨HD.nth b 3 rfl rfl,HD.nth i 3 rfl rfl,F_l9.kp⟩
  F_s9:=F_s9
  b_s9:=F_s9.binds λ_ _ _ _ _ _=>L2.jv λ_=>rfl
  me_s9:=⟨HD.nth b 4 rfl rfl,HD.nth i 4 rfl rfl,F_s9.kp⟩
  F_t9:=F_t9
  b_t9:=F_t9.binds λ_ _ _ _ _ _=>L2.gd λ_ _ _=>rfl
  me_t9:=⟨HD.nth b 5 rfl rfl,HD.nth i 5 rfl rfl,F_t9.kp⟩
  F_z9:=F_z9
  b_z9:=F_z9.binds λ_ _ _ _ _ _=>L2.gd λ_ _ _=>rfl
  me_z9:=⟨HD.nth b 6 rfl rfl,HD.nth i 6 rfl rfl,F_z9.kp⟩
  F_be9:=F_be9
  b_be9:=F_be9.binds λ_ _ _ _ _ _=>L2.fM λ_ _=>rfl
  m_be9:=T6 X G (HD.nth f 2 rfl rfl)
  F_bg9:=F_bg9
  b_bg9:=F_bg9.binds λ_ _ _ _ _ _=>L2.QN λ_ _ _ _ _ _=>rfl
  m_bg9:=T6 X G (HD.nth f 3 rfl rfl)
  F_bh9:=F_bh9
  b_bh9:=F_bh9.binds λ_ _ _ _ _ _=>L2.jv λ_=>rfl
  m_bh9:=T6 X G (HD.nth f 4 rfl rfl)
  F_bj9:=F_bj9
  b_bj9:=F_bj9.binds λ_ _ _ _ _ _=>L2.fM λ_ _=>rfl
  m_bj9:=T6 X G (HD.nth f 5 rfl rfl)
  F_bb9:=F_bb9
  b_bb9:=F_bb9.binds λ_ _ _ _ _ _=>L2.fM λ_ _=>rfl
  m_bb9:=T6 X G (HD.nth f 6 rfl rfl)
  F_bc9:=F_bc9
  b_bc9:=F_bc9.binds λ_ _ _ _ _ _=>L2.jv λ_=>rfl
  m_bc9:=T6 X G (HD.nth f 7 rfl rfl)
  F_bl9:=F_bl9
  b_bl9:=F_bl9.binds λ_ _ _ _ _ _=>L2.fM λ_ _=>rfl
  m_bl9:=T6 X G (HD.nth f 8 rfl rfl)
  F_h9:=F_h9
  b_h9:=F_h9.binds λ_ _ _ _ _ _=>L2.fM λ_ _=>rfl
  me_h9:=⟨HD.nth b 7 rfl rfl,HD.nth i 7 rfl rfl,F_h9.kp⟩
  F_w9:=F_w9
  b_w9:=F_w9.binds λ_ _ _ _ _ _=>L2.jv λ_=>rfl
  me_w9:=⟨HD.nth b 8 rfl rfl,HD.nth i 8 rfl rfl,F_w9.kp⟩
  F_y9:=F_y9
  b_y9:=F_y9.binds λ_ _ _ _ _ _=>L2.jv λ_=>rfl
  me_y9:=⟨HD.nth b 9 rfl rfl,HD.nth i 9 rfl rfl,F_y9.kp⟩
  F_bk9:=F_bk9
  b_bk9:=F_bk9.binds λ_ _ _ _ _ _=>L2.gd λ_ _ _=>rfl
  m_bk9:=T6 X G (HD.nth f 9 rfl rfl)
  F_e9:=F_e9
  b_e9:=F_e9.binds λ_ _ _ _ _ _=>L2.gd λ_ _ _=>rfl
  me_e9:=⟨HD.nth b 10 rfl rfl,HD.nth i 10 rfl rfl,F_e9.kp⟩
  F_f9:=F_f9
  b_f9:=F_f9.binds λ_ _ _ _ _ _=>L2.fM λ_ _=>rfl
  me_f9:=⟨HD.nth b 11 rfl rfl,HD.nth i 11 rfl rfl,F_f9.kp⟩
  F_i9:=F_i9
  b_i9:=F_i9.binds λ_ _ _ _ _ _=>L2.fM λ_ _=>rfl
  me_i9:=⟨HD.nth b 12 rfl rfl,HD.nth i 12 rfl rfl,F_i9.kp⟩
  F_j9:=F_j9
  b_j9:=F_j9.binds λ_ _ _ _ _ _=>L2.gd λ_ _ _=>rfl
  me_j9:=⟨HD.nth b 13 rfl rfl,HD.nth i 13 rfl rfl,F_j9.kp⟩
  F_m9:=F_m9
  b_m9:=F_m9.binds λ_ _ _ _ _ _=>L2.jv λ_=>rfl
  me_m9:=⟨HD.nth b 14 rfl rfl,HD.nth i 14 rfl rfl,F_m9.kp⟩
  F_x9:=F_x9
  b_x9:=F_x9.binds λ_ _ _ _ _ _=>L2.gd λ_ _ _=>rfl
  me_x9:=⟨HD.nth b 15 rfl rfl,HD.nth i 15 rfl rfl,F_x9.kp⟩
  F_c9:=F_c9
  b_c9:=F_c9.binds λ_ _ _ _ _ _=>L2.gd λ_ _ _=>rfl
  me_c9:=⟨HD.nth b 16 rfl rfl,HD.nth i 16 rfl rfl,F_c9.kp⟩
  F_d9:=F_d9
  b_d9:=F_d9.binds λ_ _ _ _ _ _=>L2.gd λ_ _ _=>rfl
  me_d9:=⟨HD.nth b 17 rfl rfl,HD.nth i 17 rfl rfl,F_d9.kp⟩
  F_g9:=F_g9
  b_g9:=F_g9.binds λ_ _ _ _ _ _=>L2.fM λ_ _=>rfl
  me_g9:=⟨HD.nth b 18 rfl rfl,HD.nth i 18 rfl rfl,F_g9.kp⟩
  F_ba9:=F_ba9
  b_ba9:=F_ba9.binds λ_ _ _ _ _ _=>L2.fM λ_ _=>rfl
  me_ba9:=⟨HD.nth b 19 rfl rfl,HD.nth i 19 rfl rfl,F_ba9.kp⟩
  F_bi9:=F_bi9
  b_bi9:=F_bi9.binds λ_ _ _ _ _ _=>L2.fM λ_ _=>rfl
  m_bi9:=T6 X G (HD.nth f 10 rfl rfl)
  F_n9:=F_n9
  b_n9:=F_n9.binds λ_ _ _ _ _ _=>L2.fM λ_ _=>rfl
  F_q9:=F_q9
  b_q9:=F_q9.binds λ_ _ _ _ _ _=>L2.fM λ_ _=>rfl
  me_q9:=⟨HD.nth b 21 rfl rfl,HD.nth i 21 rfl rfl,F_q9.kp⟩
  F_v9:=F_v9
  b_v9:=F_v9.binds λ_ _ _ _ _ _=>L2.gd λ_ _ _=>rfl
  me_v9:=⟨HD.nth b 22 rfl rfl,HD.nth i 22 rfl rfl,F_v9.kp⟩
  F_bm9:=F_bm9
  b_bm9:=F_bm9.binds λ_ _ _ _ _ _=>L2.fM λ_ _=>rfl
  m_bm9:=T6 X G (HD.nth f 11 rfl rfl)
  F_r9:=F_r9
  b_r9:=F_r9.binds λ_ _ _ _ _ _=>L2.gd λ_ _ _=>rfl
  me_r9:=⟨HD.nth b 23 rfl rfl,HD.nth i 23 rfl rfl,F_r9.kp⟩
  F_u9:=F_u9
  b_u9:=F_u9.binds λ_ _ _ _ _ _=>L2.EM λ_ _ _ _=>rfl
  me_u9:=⟨HD.nth b 24 rfl rfl,HD.nth i 24 rfl rfl,F_u9.kp⟩
  F_o9:=F_o9
  b_o9:=F_o9.binds λ_ _ _ _ _ _=>L2.gd λ_ _ _=>rfl
  me_o9:=⟨HD.nth b 25 rfl rfl,HD.nth i 25 rfl rfl,F_o9.kp⟩
  F_p9:=F_p9
  b_p9:=F_p9.binds λ_ _ _ _ _ _=>L2.jv λ_=>rfl
  me_p9:=⟨HD.nth b 26 rfl rfl,HD.nth i 26 rfl rfl,F_p9.kp⟩
  F_bf9:=F_bf9
  b_bf9:=F_bf9.binds λ_ _ _ _ _ _=>L2.EM λ_ _ _ _=>rfl
  m_bf9:=T6 X G (HD.nth f 12 rfl rfl)
  F_bd9:=F_bd9
  b_bd9:=F_bd9.binds λ_ _ _ _ _ _=>L2.jv λ_=>rfl
  m_bd9:=T6 X G (HD.nth f 13 rfl rfl)
  g_SEAT:=⟨_,T6 X G (HD.nth f 14 rfl rfl)⟩
  g_MOST_HOUSES:=⟨_,T6 X G (HD.nth f 15 rfl rfl)⟩
  z_len:=Ut X G (HD.nth f 16 rfl rfl)
  z_range:=Ut X G (HD.nth f 17 rfl rfl)
  z_min:=Ut X G (HD.nth f 18 rfl rfl)
  z_max:=Ut X G (HD.nth f 19 rfl rfl)
  z_set:=Ut X G (HD.nth f 20 rfl rfl)
  z_list:=Ut X G (HD.nth f 21 rfl rfl)
  z_tuple:=Ut X G (HD.nth f 22 rfl rfl)
  z_isinstance:=Ut X G (HD.nth f 23 rfl rfl)
  z_any:=Ut X G (HD.nth f 24 rfl rfl)
  z_ValueError:=Ut X G (HD.nth f 25 rfl rfl)
 }
 refine(Mh N).calm.imp λvs H Q E B=>?_;obtain⟨a,xs,A,C,D,S,F⟩:=B;refine Mi.Nd EV A C D (λp hp=>?_) F;cases hp
theorem OC{K:F0}{q:Program}{loose:List Str}{XP:(Str->Option Value)->Heap->Prop}{d:DefRec}(e:d.params.defaults=[])(b:d.name = "law")(y:HD.obK P6 Qc Q0 RA Q5 Q4 QS K=OA PySem.Challenge.pw_heraldways_k11_deeds_refused):PySem.W.WalkO q loose XP (λ_ h=>K.In h) PySem.Challenge.rw_heraldways_k11_deeds_refused.row.toRowW d [] (λf vs=>PySem.call f vs):=
 L2.Gn (l:=PySem.Challenge.rw_heraldways_k11_deeds_refused) (K:=λ_=>K) (n:=63) (k:=10) (x := "script") (CX:=λ_=>To) (sp:=λ_ T=>Mi.spT K T) SD rfl (by decide) e ⟨rfl,by decide,by decide⟩ (λ_ _ Y=>Y) (λ_ h=>absurd rfl h) (λ_ h=>(nomatch h)) (by unfold Tns.ok SD;decide) (λw mg j h T X G c TO=>Of X G (b▸c) TO y) (λw T H a ns g hO i=>⟨a,ns,rfl,Mi.KM hO i,g,Mi.OF hO,λ_=>rfl⟩) λ_ _ _ _ _ z=>z
end K11
open PySem PySem.W PyProof.Rows
set_option maxRecDepth 100000 in
set_option maxHeartbeats 0 in
theorem PySem.Challenge.cw_heraldways_k11_deeds_refused_holds : PySem.Challenge.rw_heraldways_k11_deeds_refused.Holds := by
 refine K11.hd0 λsaid=>?_;refine holds_openX (q:=K11.qP PySem.Challenge.pw_heraldways_k11_deeds_refused) (loose:=[]) (Xt:=λs=>xlAt (K11.qP PySem.Challenge.pw_heraldways_k11_deeds_refused) [] s&&recOk (RowW.records PySem.Challenge.rw_heraldways_k11_deeds_refused.row.toRowW) s) (XP:=XL (K11.qP PySem.Challenge.pw_heraldways_k11_deeds_refused) []) (Yf:=HD.ob K11.Tb K11.P6 K11.Qc K11.Q0 K11.RA K11.Q5 K11.Q4 K11.QS) (Ya:=λ_=>K11.OA PySem.Challenge.pw_heraldways_k11_deeds_refused) (N:=6634) (λw=>HD.two (K11.QR w) (K11.QQ w)) (λs e=>xl_of s (T7.mp e).1) XL.keeps (by rfl) (by rfl) (by rfl) (λs e=>recFacts_of (T7.mp e).2) (by rfl) said (by decide +kernel) ⟨rfl,rfl,rfl,rfl,rfl,by decide +kernel⟩ ?hw (HD.walkX λK y=>K11.OC rfl rfl y)
 case hw=>w_witness2
