import PyProof.Rows.All
import Wide.All
import Wide.FinOn
import OpenK.XOpen
import OpenK.KWalk
import OpenK.KMake
import OpenK.KOwn
import OpenK.Peek
import OpenK.KCall
import OpenK.KGet
import KE.KIsAll
import KE.KBytesAny
import KE.BytesK
import KE.KxBytes
import KE.KDictOf
import KE.KItem
import Lean
import PyProof.EqAt
import PyProof.EqKinds
import PyProof.TupleCall
import KE.KLam
import KE.KMinKey
import KE.KDictList
import KE.KRevIter
import PyProof.WalksMore
import PyProof.Rows.SetFrom
import KE.KSortTup
import KE.KDictSum
import PyProof.DictUpdate
import Open.Tops
import PySem.Challenge.RW_heraldways_k13_letters_counted
set_option Elab.async false
set_option linter.all false
set_option maxRecDepth 100000
abbrev F0:=PySem.W.Frag
abbrev P1:=List (PySem.Addr×PySem.Obj)
abbrev P4:=PySem.Value->PySem.Shared->Prop
abbrev T0:=List (Int×Int)
local macro_rules|`(tactic|ac_rfl)=>`(tactic|(constructor<;>first|rfl|decide +kernel))
def on:=@if_neg
def Vp:=@PySem.wpAny_bind
def Vq:=@if_pos
def Vr:=@List.map_cons
def Vs:=@List.length_map
def Vt:=@List.mem_append_right
def Vu:=@List.mem_cons_self
def Vv:=@PySem.Heap.get?_push_of_some
def Vw:=@List.mem_cons_of_mem
def Vx:=@List.length_cons
def Vy:=@List.length_append
def Vz:=@PySem.wpAny_pure
def VA:=@List.mem_cons
def VB:=@PySem.Heap.lt_size
def VC:=@List.mem_append_left
def VD:=@Bool.false_ne_true
def VE:=@Nat.le_refl
def VF:=@List.size_toArray
def VG:=@List.mem_singleton
def VH:=@List.mem_append
def VI:=@List.getElem?_eq_getElem
def VJ:=@Option.map_eq_some_iff
def VL:=@List.getD_eq_getElem?_getD
def VM:=@List.getElem?_eq_some_iff
def VN:=@PySem.Heap.get?_push_size
def VO:=@Option.some.inj
def VP:=@List.getElem?_eq_none
def VQ:=@List.nodup_cons
def VR:=@List.getElem?_map
def VS:=@Int.emod_lt_of_pos
def VT:=@List.length_set
def VU:=@PySem.W.mg_of
def VV:=@Nat.lt_of_lt_of_le
def VW:=@Nat.le_trans
def VX:=@Nat.ne_of_lt
def VY:=@List.mem_map
def VZ:=@List.nodup_append
def V0:=@Int.emod_nonneg
def V1:=@PySem.F.plainAttrs_dict
def V2:=@List.length_eq_zero_iff
def V3:=@PySem.Heap.get?_update_other
def V4:=@List.lookup_cons
def V5:=@PySem.PassesOwn.never
def V6:=@PySem.Heap.get?_update_self
def V7:=@beq_eq_false_iff_ne
def V8:=@Array.length_toList
def V9:=@List.map_append
def Wa:=@PySem.W.mg_none_of
def Wb:=@List.replicate_succ
def Wc:=@List.append_nil
def Wd:=@decide_eq_false
def We:=@List.eraseIdx_cons_succ
def Wg:=@PySem.Obj.data_mapDictKeys
def Wh:=@PySem.Calls.spliced_cons
def Wi:=@List.map_map
def Wj:=@PySem.wpAny_passesOwn
def Wk:=@List.nodup_nil
def Wl:=@List.getElem?_append_right
def Wm:=@Nat.lt_irrefl
def Wn:=@PySem.W.kia_one
def Wo:=@PySem.Calls.callWith_builtin
def Wp:=@Array.getElem?_eq_getElem
def Wq:=@List.getElem?_append_left
def Wr:=@List.flatten_cons
def Ws:=@List.append_assoc
def Wt:=@List.map_nil
def Wu:=@List.mem_of_getElem?
def Wv:=@List.filter_cons
def Ww:=@PySem.Around.under_plainId
def Wx:=@Nat.le_of_lt
def Wy:=@List.find?_cons
def Wz:=@List.eraseIdxIfInBounds_toArray
def WA:=@PySem.F.slot_dict_get
def WB:=@List.all_eq_true
def WC:=@PySem.Paired.length
def WD:=@Nat.zero_le
def WE:=@decide_eq_true
def WF:=@PySem.Calls.evalArgs_plain
def WG:=@PySem.wpAny_typeNameOfWhole_keyiter
def WH:=@PySem.wpAny_truthy_bool
def WI:=@PySem.Calls.spliced_nil
def WJ:=@PySem.F.plainAttrs_list
def WK:=@List.mem_filter
def WL:=@PySem.mem_of_lookup
def WM:=@PySem.Obj.isFreed_of_dict
def WN:=@List.getD_cons_succ
def WO:=@List.map_congr_left
def WP:=@PyProof.Rows.callWith_type1
def WQ:=@PySem.wpAny_holding
def WR:=@beq_self_eq_true
def WS:=@PySem.wpAny_Call_Name_kw
def WT:=@PySem.tupleKind_room_in1
def WU:=@PySem.F.slot_dict_pop
def WV:=@Array.getElem?_toList
def WW:=@List.getElem?_eq_none_iff
def WX:=@List.mem_or_eq_of_mem_set
def WY:=@PySem.codeAny_builtin
def WZ:=@PySem.wpAny_dictEntries
def W0:=@Option.isSome_iff_exists
def W1:=@PySem.plainId_quiet
def W3:=@PySem.wpAny_typeNameOf_keyiter
def W4:=@PySem.F.slot_dict_update
def W5:=@PySem.F.type_dict_update
def W6:=@Ne.symm
def W7:=@List.getElem?_cons_succ
def W8:=@PySem.F.entry_dict_get
def W9:=@Nat.lt_of_le_of_lt
def Xa:=@Bool.false_eq_true
def Xb:=@PySem.SeqAt.canLay_of_shaped
def Xc:=@Option.map_some
def Xd:=@List.any_cons
def Xe:=@List.length_singleton
def Xf:=@List.length_replicate
def Xg:=@PySem.wpAny_Call_method
def Xh:=@PySem.Heap.size_push
def Xi:=@Nat.lt_succ_self
def Xj:=@PySem.call_meetsIn
def Xk:=@Bool.and_eq_true
def Xl:=@List.cons_append
def Xm:=@List.drop_eq_getElem_cons
def Xn:=@List.getElem?_range
def Xo:=@PySem.Heap.SameBut.update
def Xp:=@PySem.F.slot_list_append
def Xq:=@PySem.F.type_list_append
def Xr:=@PySem.wpAny_execs_nil
def Xs:=@Nat.not_lt_zero
def Xu:=@List.getElem?_replicate
def Xv:=@PySem.wpAny_letGo
def Xw:=@Option.bind_eq_some_iff
def Xx:=@List.getElem?_set_self
def Xy:=@PySem.wpAny_pyIter_list
def Xz:=@PySem.wpAny_tryCatch
def XA:=@List.length_range
def XB:=@of_decide_eq_true
def XC:=@PySem.F.type_dict_pop
def XD:=@Bool.beq_eq_decide_eq
def XE:=@PySem.wpAny_mono
def XF:=@Array.mem_toList_iff
def XG:=@Bool.eq_iff_iff
def XH:=@List.foldl_cons
def XI:=@PySem.W.plainGet_of
def XJ:=@List.getElem_of_mem
def XM:=@PySem.W.shaped_ints
def XN:=@Nat.succ.inj
def XO:=@Nat.sub_self
def XQ:=@PySem.Calls.Name_function_global
def XR:=@Int.fdiv_eq_ediv_of_nonneg
def XS:=@beq_iff_eq
def XT:=@PySem.W.callWith_K
def XU:=@Option.isSome_some
def XV:=@List.set_cons_zero
def XW:=@List.set_cons_succ
def XY:=@List.exists_mem_of_ne_nil
def XZ:=@Sum.inl.inj
def X0:=@Option.isSome_map
def X3:=@Nat.lt_succ_of_lt
def X4:=@PySem.wpAny_newObj_type
def X5:=@List.ext_getElem?
def X6:=@Nat.le_succ_of_le
def X7:=@PySem.wpAny_standAt
def X9:=@PySem.F.slot_list_remove
def Yb:=@List.set_eq_of_length_le
def Yc:=@PySem.F.slot_dict_values
def Yd:=@PySem.F.args_dict_pop_3
def Ye:=@PySem.F.args_dict_get_2
def Yg:=@PySem.F.args_dict_get_3
def Yh:=@if_false
def Yi:=@List.getElem_mem
def Yj:=@List.drop_length
def Yk:=@PySem.codeAny_mono
def Yl:=@PySem.W.cellsFrom_some
def Ym:=@PySem.F.entry_dict_pop
def Yo:=@PySem.call_meets
def Yq:=@List.drop_eq_nil_of_le
def Yr:=@decide_false
def Ys:=@List.all_map
def Yt:=@PySem.wpAny_updateSeq
def Yu:=@PySem.wpAny_dictEpoch
def Yw:=@PySem.W.methodCall_KW
def Yx:=@List.length_filter_le
def Yy:=@PySem.F.type_dict_get
def Yz:=@List.getElem?_toArray
def YB:=@PySem.F.slot_dict_len
def YC:=@List.Perm.append_left
def YD:=@List.mem_range
def YE:=@List.getElem?_set_ne
def YG:=@PySem.sizeLine_eq
def YJ:=@Array.getElem_toList
def YN:=@Bool.and_eq_true_iff
def YO:=@if_true
def Zd:=@List.map_set
namespace HD
open PySem PySem.W PyProof.Rows
def top(p:Program)(i:Nat):Stmt:=p.main.body.getD i (.Pass ⟨0,0,0,0⟩)
def iC(s:Stmt)(j:Nat):Stmt:=match s with
 |.ClassDef _ _ _ body _ _ _ _ _ _ _=>body.getD j (.Pass ⟨0,0,0,0⟩)
 |_=> .Pass ⟨0,0,0,0⟩
def dA(s:Stmt):Arguments:=match s with
 |.FunctionDef _ a _ _ _ _ _ _ _ _=>a
 |_=>{posonlyargs:=[],args:=[],vararg:=none,kwonlyargs:=[],kw_defaults:=[],kwarg:=none,defaults:=[]}
def dB(s:Stmt):List Stmt:=match s with
 |.FunctionDef _ _ b _ _ _ _ _ _ _=>b
 |_=>[]
def dS(s:Stmt):Scope:=match s with
 |.FunctionDef _ _ _ _ _ _ sc _ _ _=>sc
 |_=>{kind:=.function,names:=[],isGenerator:=false,isCoroutine:=false}
def JM(b:List Addr)(h:Heap):Frag:=b.filterMap λa=>(h.get? a).map λo=>(a,o)
theorem JL(c:List Addr)(h:Heap):(JM c h).In h:=by
 intro a o e
 induction c with
 |nil=>cases e
 |cons b c d=>
   unfold JM at e;rw[List.filterMap_cons]at e;cases q:h.get? b with
   |none=>
     rw[q]at e;exact d e
   |some x=>
     rw[q]at e;replace e:List.lookup a ((b,x)::JM c h)=some o:=e;rw[V4]at e;by_cases z:a=b
     ·subst z;rw[WR a]at e;cases e;exact q
     ·rw[V7.mpr z]at e;exact d e
abbrev Vn:=Str×Str×Arguments×FuncBody×Scope×Addr×List (Str×Addr)×Value×Addr×Bool
def fnO(K:Frag)(f:Addr)(q:Str):Option Vn:=match K.lookup f with
 |some ⟨_,_,.func fd,_⟩=>some (fd.name,fd.qualname,fd.params,fd.body,fd.scope,fd.globals,fd.closure,fd.defaults,fd.builtins,codeIn K fd.code q)
 |_=>none
def fnE(x q:Str)(st:Stmt):Option Vn:=some (x,q,dA st,.stmts (dB st),dS st,mainGlobals,[],.none,builtinsNs,true)
theorem fn_of{K:Frag}{f:Addr}{x q:Str}{st:Stmt}(h:fnO K f q=fnE x q st):∃(oc:Value) (c:Option Addr) (kV d pm:Value) (an:Option Addr) (b ct:Value) (a:Array (Option Value)),
 K.lookup f=some ⟨oc,c,.func (fnOf x q (dA st) (dB st) (dS st) .none kV d pm an b ct),a⟩/\codeIn K b q=true:=by
 unfold fnO at h;split at h
 · next oc c fd a e=>
   obtain⟨n,l,m,bd,sc,o,r,p,g,j,pm,an,k,ct,s⟩:=fd;unfold fnE at h;simp only[Option.some.injEq,Prod.mk.injEq]at h;obtain⟨rfl,rfl,rfl,rfl,rfl,rfl,rfl,rfl,rfl,i⟩:=h;exact⟨oc,c,g,j,pm,an,k,ct,a,e,i⟩
 ·exact nomatch h
theorem fn_keep{K:Frag}{f:Addr}{x q:Str}{st:Stmt}(h:fnO K f q=fnE x q st):keepIn K (.ref f)=true:=by
 obtain⟨oc,d,kV,b,pm,an,c,ct,a,e,_⟩:=fn_of h;show(match K.lookup f with|some ⟨_,_,.func _,_⟩=>true|some ⟨_,_,.cls _,_⟩=>specialIn K (.ref f) "__call__" == some (some (.builtin "type.__call__"))|_=>false)=true;rw[e]
def Ss(K:Frag)(C:Addr):List Value:=match K.lookup C with
 |some ⟨_,_,.cls a,_⟩=>a.mro
 |_=>[]
def Tn(K:Frag)(C:Addr):Bool:=excIn K C [.type "ValueError",.type "Exception",.type "BaseException",.type "object"] "ValueError.__new__"
def LD(K:Frag)(D:Addr):Bool:=findIn K (.ref D) "__getattribute__" == some (some (.builtin "BaseException.__getattribute__"))&&(findIn K (.ref D) "__getattr__" == some none&&(findIn K (.ref D) "__class__" == some (some (.builtin "object.__class__")) &&
 (specialIn K (.builtin "object.__class__") "__get__" == some (some (.builtin "getset_descriptor.__get__"))&&(takesIn K (.builtin "object.__class__")==some true&&(mroIn K D (.type "object")==some true&&(mroIn K D (.type "BaseException")==some true&&(clsIn K D).isSome))))))
abbrev Ob:=List (Option (Option Value))×List (Option (Option Value))×List Bool×List (Option Vn)×List (Bool×List Value)×List (Option Bool)
def cls(K:Frag)(C:Addr):Bool:=plainGet K C Str.empty&&(hasDictIn K C&&(plainOver K C&&(makesIn K C&&keepIn K (.ref C))))
def obK(ns:List Str)(T:List (Addr×Str))(fs c:List Addr)(ds:List (Addr×Str))(b:List Addr)(a:List (Addr×Value))(K:Frag):Ob:=
 (ns.map (nsIn K mainGlobals),T.map (λp=>findIn K (.ref p.1) p.2),(fs.map λf=>isFn K (.ref f))++c.map (cls K),ds.map (λp=>fnO K p.1 p.2),b.map (λC=>(Tn K C&&LD K C,Ss K C)),a.map λp=>kitOne K (.ref p.1) p.2)
def ob(n:List Addr)(ns:List Str)(T:List (Addr×Str))(fs c:List Addr)(ds:List (Addr×Str))(b:List Addr)(a:List (Addr×Value))(s:Shared):Ob:=obK ns T fs c ds b a (JM n s.heap)
theorem two{W X L:Type}{o:Option W}{f:W->X}{g:W->L}{a:X}{b:L}(c:o.map f=some a)(d:o.map g=some b):o.map (λs=>(f s,g s))=some (a,b):=by
 cases o with
 |none=>cases c
 |some s=>cases c;cases d;rfl
theorem nth{W:Type}{l m:List W}(h:l=m)(i:Nat){a b:W}(d:l[i]?=some a)(c:m[i]?=some b):a=b:=by
 subst h;rw[d]at c;exact VO c
theorem cls_of{K:Frag}{C:Addr}(h:cls K C=true):plainGet K C Str.empty=true/\hasDictIn K C=true/\plainOver K C=true/\makesIn K C=true/\keepIn K (.ref C)=true:=by
 unfold cls at h;simpa only[Bool.and_eq_true] using h
theorem walkX{q:Program}{loose:List Str}{XP:(Str->Option Value)->Heap->Prop}{n:List Addr}{ns:List Str}{T:List (Addr×Str)}{fs j:List Addr}{ds:List (Addr×Str)}{i:List Addr}{g:List (Addr×Value)}{E:Ob}{r:RowW}{d:DefRec}{c:List (Str×Expr)}{run:Value->List Value->Sem Value}
 (W:∀K:Frag,obK ns T fs j ds i g K=E->WalkO q loose XP (λ_ h=>K.In h) r d c run):WalkX q loose XP (ob n ns T fs j ds i g) (λ_=>E) r d c run:=
 λw s0 k mg l G y a o pm z e x kV v u t s p m args b f L F D C B A=>W _ y w s0 k mg l G ((JL _ _).keeps L.keeps) a o pm z e x kV v u t s p m args b f F D C B A
end HD
namespace HS
open PySem PySem.W PyProof.Rows
noncomputable def s0(w:World)(os:OsState):Shared:=⟨boot_heap w.params,Array.mk [],boot_drawn,boot_toks,os⟩
def mid(x:Shared):Option (Shared×Thread)->Shared
 |some (s,_)=>s
 |none=>x
def lz(x:SharedT):Option (Flow×SharedT×Code×Pos)->SharedT
 |some (_,s,_)=>s
 |none=>x
noncomputable def look{W:Type}(p:Program)(w:World)(f:Shared->W)(o:Option Shared):Option W:=o.bind λa=>match staticsOk (importedModules p.main.body) (boot_heap w.params) a.heap&&namesBound p a.heap&&gensDone a&&laidKept (boot_heap w.params) a.heap with
 |true=>some (f a)
 |false=>none
section
variable{p:Program}{w:World}{os:OsState}{m0:Nat}{ann:Option Value}{env:Env}{q posA posB pos1 pos2:Pos}{b l1 l2:List Stmt}{sA:Shared}{sB s1 s2:SharedT}{k0 kb k1 k2:Nat}
theorem first(pre:topGo treeTable p w m0 ann k0 (s0 w os) (topStub p)=some (sA,⟨denote treeTable (.body b env),.body b env,posA,[topFrame q]⟩))
 (Qw:segRun treeTable p w m0 ann 1 kb sA (blockOf b env (.body b env) posA [topFrame q])=some (.next,sB.abs,.body b env,posB)) {N:Nat} {r:Shared} (h:topRun treeTable p w m0 ann N sB.abs (restOf b env (.body b env) posB [topFrame q])=some r):
 topRun treeTable p w m0 ann (k0+(kb+N)) (s0 w os) (topStub p)=some r:=go_top pre (piece_block Qw h)
theorem UZ{c:Code}(g:segRunT treeTable p w m0 ann 1 k1 s1 (piecesOf l1 env c pos1 [topFrame q])=some (.next,s2,c,pos2)){N:Nat}{r:Shared}(h:topRun treeTable p w m0 ann N s2.abs (restOf l2 env c pos2 [topFrame q])=some r):
 topRun treeTable p w m0 ann (k1+N) s1.abs (restOf (l1++l2) env c pos1 [topFrame q])=some r:=piece_app (segRun_of g) h
end
theorem ends{p:Program}{N M j:Nat}{g:Option Value}{W:Type}{f:Shared->W}{good:World->W}
 (b:∀w:World,(fencedOpening treeTable p w N).map (λs=>(s.heap,s.gens,s.drawn,s.toks))=some (boot_heap w.params,Array.mk [],boot_drawn,boot_toks))
 (size:∀w:World,((boot_heap w.params).isNs mainGlobals && (Array.mk []:Array GenState).size == 0,(boot_heap w.params).objs.size,(boot_heap w.params).nsMap mainGlobals "__annotations__")=(true,j,g))
 (run:∀(w:World) (os:OsState),∃a,topRun treeTable p w j g M (s0 w os) (topStub p)=some a/\look p w f (some a)=some (good w)) (t:M<=N):∀w:World,(openEnds treeTable p w N).map f=some (good w):=λw=>by
 obtain⟨⟨h,o,d,k,os⟩,e,q⟩:=VJ.mp (b w);obtain⟨rfl,rfl,rfl,rfl⟩:h=boot_heap w.params/\o=Array.mk []/\d=boot_drawn/\k=boot_toks:=by simpa using q
 obtain⟨n,m,l⟩:_/\_/\_:=by simpa only[Prod.mk.injEq] using size w
 obtain⟨a,r,i⟩:=run w os;have r:=topRun_mono (N-M) _ _ _ _ r;rw[show M+(N-M)=N by omega]at r;unfold openEnds;rw[e];show(topFrom treeTable p w N _).map f=_;unfold topFrom;dsimp only;rw[n,m,l];show((topRun treeTable p w j g N (s0 w os) (topStub p)).bind _).map f=_;rw[r];unfold look at i;dsimp only[Option.bind]at i ⊢;cases c:staticsOk (importedModules p.main.body) (boot_heap w.params) a.heap&&namesBound p a.heap&&gensDone a&&laidKept (boot_heap w.params) a.heap with
 |true=>rw[c]at i;exact i
 |false=>rw[c]at i;cases i
theorem run{W X:Type}{p:Program}{d t s o m M:Nat}{a:Option Value}{env:Env}{q j i h c:Pos}{b bJ:List Stmt}{L5:World->OsState->Shared}{QQ L4 fz:World->OsState->SharedT}{f:Shared->W}{g:Shared->X}{good:World->W}{k:World->X}
 (pre:∀w:World,(λos=>topGo treeTable p w d a t (s0 w os) (topStub p))=λos=>some (L5 w os,⟨denote treeTable (.body b env),.body b env,j,[topFrame q]⟩))
 (Qw:∀w:World,(λos=>segRun treeTable p w d a 1 s (L5 w os) (blockOf b env (.body b env) j [topFrame q]))=λos=>some (.next,(QQ w os).abs,.body b env,i))
 (ch:∀(w:World) (os:OsState) (r:Shared),topRun treeTable p w d a (o+m) (L4 w os).abs (restOf bJ env (.body b env) h [topFrame q])=some r->topRun treeTable p w d a M (QQ w os).abs (restOf b env (.body b env) i [topFrame q])=some r)
 (x:∀w:World,(λos=>(segRunT treeTable p w d a 1 o (L4 w os) (piecesOf bJ env (.body b env) h [topFrame q]),look p w f (topRun treeTable p w d a m (fz w os).abs ⟨doneF .next,.body b env,c,[topFrame q]⟩),look p w g (topRun treeTable p w d a m (fz w os).abs ⟨doneF .next,.body b env,c,[topFrame q]⟩)))=λos=>(some (.next,fz w os,.body b env,c),some (good w),some (k w))) (w:World) (os:OsState):
 ∃l,topRun treeTable p w d a (t+(s+M)) (s0 w os) (topStub p)=some l/\look p w f (some l)=some (good w)/\look p w g (some l)=some (k w):=by
 obtain⟨v,n,u⟩:_/\_/\_:=by simpa only[Prod.mk.injEq] using congrFun (x w) os
 cases e:topRun treeTable p w d a m (fz w os).abs ⟨doneF .next,.body b env,c,[topFrame q]⟩ with
 |none=>rw[e]at n;cases n
 |some l=>
   rw[e]at n u;refine⟨l,first (congrFun (pre w) os) (congrFun (Qw w) os) (ch w os l ?_),n,u⟩
   have:=UZ (l2:=[]) v (piece_nil e)
   rw[Wc]at this;exact this
end HS
set_option maxHeartbeats 4000000
namespace K13
open PySem PySem.W PyProof.Rows
theorem hd0(h:PySem.Challenge.rw_heraldways_k13_letters_counted.row.wellSaid=true->PySem.Challenge.rw_heraldways_k13_letters_counted.row.Holds):PySem.Challenge.rw_heraldways_k13_letters_counted.Holds:=by
 w_on;o_law;exact h (by assumption)
abbrev qP(p:Program):Program:=view p [0,2,3,4,5,6,7,9,10,11,12,14,15,16,18,19,21,22,23,24,25,26,27,28,29,30,31,32]
def Vf:List Addr:=List.range 482
def RQ:List Str := "Guild"::"Post"::"_law_cell_at"::"_law_fond_by"::"_law_road_by"::"_law_shy_by"::"_law_ways_by"::"_law_whole"::"best_road"::"copied"::"require_within"::"_law_dear_by"::"may_take"::"_law_guild_by"::"standing"::"_law_post_by"::"_law_deed_done"::"_law_counted"::"law"::"SEAT"::"MOST_HOUSES"::"len"::"range"::"min"::"max"::"set"::"list"::"tuple"::"isinstance"::"bool"::"int"::"any" :: []
def Sr:List (Addr×Str):=(240,"__init__")::(240,"houses_paired")::(240,"shuns_one_of")::(240,"size")::(395,"first_of_line")::(395,"forget")::(395,"write_road")::(240,"require_houses")::(395,"table")::(395,"waiting")::(240,"like")::(240,"liking")::(240,"neighbours")::(240,"require_long_road")::(240,"require_two_houses")::(240,"twin")::(240,"lay_way")::(240,"lift_way")::(240,"rank_of")::(240,"shun")::(240,"wish")::(395,"write_to_all")::(395,"__init__")::(395,"choose_anew")::(395,"rise")::(395,"fall")::(395,"hear")::(395,"carry")::(395,"carry_next")::(395,"settle")::(240,"__setattr__")::(395,"__setattr__")::(240,"house_count")::(240,"ways")::(240,"likings")::(240,"shuns")::(240,"wish_ranks")::(395,"guild")::(395,"roads")::(395,"told_last")::(395,"written_last")::(395,"letters")::(395,"standings")::[]
def Ti:List Addr:=[115,204,216,122,357,385,364,223,296,308,157,164,129,237,230,211,143,150,199,171,185,371,284,392,350,343,378,322,329,336]
def T2:List Addr:=[240,395]
def Tq:List (Addr×Str):=(115,"Guild.__init__")::(204,"Guild.houses_paired")::(216,"Guild.shuns_one_of")::(122,"Guild.size")::(357,"Post.first_of_line")::(385,"Post.forget")::(364,"Post.write_road")::(406,"_law_cell_at")::(432,"_law_fond_by")::(418,"_law_road_by")::(446,"_law_shy_by")::(425,"_law_ways_by")::(413,"_law_whole")::(265,"best_road")::(272,"copied")::(101,"require_within")::(223,"Guild.require_houses")::(296,"Post.table")::(308,"Post.waiting")::(439,"_law_dear_by")::(258,"may_take")::(157,"Guild.like")::(164,"Guild.liking")::(129,"Guild.neighbours")::(237,"Guild.require_long_road")::(230,"Guild.require_two_houses")::(211,"Guild.twin")::(143,"Guild.lay_way")::(150,"Guild.lift_way")::(199,"Guild.rank_of")::(171,"Guild.shun")::(185,"Guild.wish")::(371,"Post.write_to_all")::(284,"Post.__init__")::(392,"Post.choose_anew")::(350,"Post.rise")::(453,"_law_guild_by")::(251,"standing")::(343,"Post.fall")::(378,"Post.hear")::(322,"Post.carry")::(460,"_law_post_by")::(329,"Post.carry_next")::(467,"_law_deed_done")::(336,"Post.settle")::(474,"_law_counted")::(481,"law")::[]
def To:List Addr:=[]
def S8:List (Addr×Value):=[]
abbrev rf(n:Nat):Option (Option Value):=some (some (.ref n))
def Qz(p:Program):HD.Ob:=(rf 240::rf 395::rf 406::rf 432::rf 418::rf 446::rf 425::rf 413::rf 265::rf 272::rf 101::rf 439::rf 258::rf 453::rf 251::rf 460::rf 467::rf 474::rf 481::some (some (.int 0 296))::some (some (.int 60 298))::some none::some none::some none::some none::some none::some none::some none::some none::some none::some none::some none::[],rf 115::rf 204::rf 216::rf 122::rf 357::rf 385::rf 364::rf 223::rf 296::rf 308::rf 157::rf 164::rf 129::rf 237::rf 230::rf 211::rf 143::rf 150::rf 199::rf 171::rf 185::rf 371::rf 284::rf 392::rf 350::rf 343::rf 378::rf 322::rf 329::rf 336::some (some (.builtin "object.__setattr__"))::some (some (.builtin "object.__setattr__"))::some none::some none::some none::some none::some none::some none::some none::some none::some none::some none::some none::[],true::true::true::true::true::true::true::true::true::true::true::true::true::true::true::true::true::true::true::true::true::true::true::true::true::true::true::true::true::true::true::true::[],HD.fnE "__init__" "Guild.__init__" (HD.iC (HD.top p 12) 0)::HD.fnE "houses_paired" "Guild.houses_paired" (HD.iC (HD.top p 12) 13)::HD.fnE "shuns_one_of" "Guild.shuns_one_of" (HD.iC (HD.top p 12) 15)::HD.fnE "size" "Guild.size" (HD.iC (HD.top p 12) 1)::HD.fnE "first_of_line" "Post.first_of_line" (HD.iC (HD.top p 19) 11)::HD.fnE "forget" "Post.forget" (HD.iC (HD.top p 19) 15)::HD.fnE "write_road" "Post.write_road" (HD.iC (HD.top p 19) 12)::HD.fnE "_law_cell_at" "_law_cell_at" (HD.top p 21)::HD.fnE "_law_fond_by" "_law_fond_by" (HD.top p 25)::HD.fnE "_law_road_by" "_law_road_by" (HD.top p 23)::HD.fnE "_law_shy_by" "_law_shy_by" (HD.top p 27)::HD.fnE "_law_ways_by" "_law_ways_by" (HD.top p 24)::HD.fnE "_law_whole" "_law_whole" (HD.top p 22)::HD.fnE "best_road" "best_road" (HD.top p 16)::HD.fnE "copied" "copied" (HD.top p 18)::HD.fnE "require_within" "require_within" (HD.top p 11)::HD.fnE "require_houses" "Guild.require_houses" (HD.iC (HD.top p 12) 16)::HD.fnE "table" "Post.table" (HD.iC (HD.top p 19) 2)::HD.fnE "waiting" "Post.waiting" (HD.iC (HD.top p 19) 4)::HD.fnE "_law_dear_by" "_law_dear_by" (HD.top p 26)::HD.fnE "may_take" "may_take" (HD.top p 15)::HD.fnE "like" "Guild.like" (HD.iC (HD.top p 12) 6)::HD.fnE "liking" "Guild.liking" (HD.iC (HD.top p 12) 7)::HD.fnE "neighbours" "Guild.neighbours" (HD.iC (HD.top p 12) 2)::HD.fnE "require_long_road" "Guild.require_long_road" (HD.iC (HD.top p 12) 18)::HD.fnE "require_two_houses" "Guild.require_two_houses" (HD.iC (HD.top p 12) 17)::HD.fnE "twin" "Guild.twin" (HD.iC (HD.top p 12) 14)::HD.fnE "lay_way" "Guild.lay_way" (HD.iC (HD.top p 12) 4)::HD.fnE "lift_way" "Guild.lift_way" (HD.iC (HD.top p 12) 5)::HD.fnE "rank_of" "Guild.rank_of" (HD.iC (HD.top p 12) 12)::HD.fnE "shun" "Guild.shun" (HD.iC (HD.top p 12) 8)::HD.fnE "wish" "Guild.wish" (HD.iC (HD.top p 12) 10)::HD.fnE "write_to_all" "Post.write_to_all" (HD.iC (HD.top p 19) 13)::HD.fnE "__init__" "Post.__init__" (HD.iC (HD.top p 19) 0)::HD.fnE "choose_anew" "Post.choose_anew" (HD.iC (HD.top p 19) 16)::HD.fnE "rise" "Post.rise" (HD.iC (HD.top p 19) 10)::HD.fnE "_law_guild_by" "_law_guild_by" (HD.top p 28)::HD.fnE "standing" "standing" (HD.top p 14)::HD.fnE "fall" "Post.fall" (HD.iC (HD.top p 19) 9)::HD.fnE "hear" "Post.hear" (HD.iC (HD.top p 19) 14)::HD.fnE "carry" "Post.carry" (HD.iC (HD.top p 19) 6)::HD.fnE "_law_post_by" "_law_post_by" (HD.top p 29)::HD.fnE "carry_next" "Post.carry_next" (HD.iC (HD.top p 19) 7)::HD.fnE "_law_deed_done" "_law_deed_done" (HD.top p 30)::HD.fnE "settle" "Post.settle" (HD.iC (HD.top p 19) 8)::HD.fnE "_law_counted" "_law_counted" (HD.top p 31)::HD.fnE "law" "law" (HD.top p 32)::[],[],[])
open_shared sh for PySem.Challenge.pw_heraldways_k13_letters_counted leaving 25
noncomputable section
noncomputable abbrev pg:Program:=PySem.Challenge.pw_heraldways_k13_letters_counted
noncomputable abbrev bd:List Stmt:=behindTheImports pg
noncomputable abbrev cE:Code:=.body bd sh.env_1
noncomputable abbrev BB:List Frame:=[topFrame ⟨0,0,0,0⟩]
abbrev nK:Nat:=2145+2
noncomputable def L5(w:World)(os:OsState):Shared:=HS.mid (HS.s0 w os) (topGo treeTable pg w 11 (some (.ref 6)) 12 (HS.s0 w os) (topStub pg))
noncomputable abbrev QQ(w:World)(os:OsState):SharedT:=({tree:=sh.tree_4 w.params,n:=15,life:={},gens:={toList:=[]},drawn:={},toks:=187,os:=os}:SharedT)
noncomputable abbrev L4(w:World)(os:OsState):SharedT:=({tree:=sh.tree_106 w.params,n:=95,life:={},gens:={toList:=[]},drawn:={},toks:=294,os:=os}:SharedT)
theorem pre(w:World):(λos=>topGo treeTable pg w 11 (some (.ref 6)) 12 (HS.s0 w os) (topStub pg))=λos=>some (L5 w os,⟨denote treeTable cE,cE,⟨0,0,0,0⟩,BB⟩):=by
 unfold L5 cE bd pg;rw[Fast.te14364793385576792824,Fast.te7991651499979792557]
 kernel_rfl
theorem Qw(w:World):(λos=>segRun treeTable pg w 11 (some (.ref 6)) 1 1 (L5 w os) (blockOf bd sh.env_1 cE ⟨0,0,0,0⟩ BB))=λos=>some (.next,(QQ w os).abs,cE,⟨0,0,0,0⟩):=by
 unfold L5 cE bd pg;rw[Fast.te14364793385576792824,Fast.te7991651499979792557]
 kernel_rfl
theorem bdE:sh.sts_4++(sh.sts_28++(sh.sts_44++(sh.sts_60++(sh.sts_76++(sh.sts_92++bd.drop 8)))))=bd:=by
 unfold bd pg;rw[Fast.te7991651499979792557]
 kernel_rfl
theorem chn(w:World)(os:OsState)(r:Shared)(h:topRun treeTable pg w 11 (some (.ref 6)) nK (L4 w os).abs (restOf (bd.drop 8) sh.env_1 cE ⟨15,0,16,8⟩ BB)=some r):topRun treeTable pg w 11 (some (.ref 6)) (Nat.add 225 (Nat.add 214 (Nat.add 214 (Nat.add 214 (Nat.add 214 (Nat.add 214 nK)))))) (QQ w os).abs (restOf bd sh.env_1 cE ⟨0,0,0,0⟩ BB)=some r:=by
 have h:=sh.chain pg bd w os (bd.drop 8) nK r h;rw[bdE]at h;exact h
noncomputable def fz(w:World)(os:OsState):SharedT:=HS.lz (L4 w os) (segRunT treeTable pg w 11 (some (.ref 6)) 1 2145 (L4 w os) (piecesOf (bd.drop 8) sh.env_1 cE ⟨15,0,16,8⟩ BB))
theorem gZ(w:World):(λos=>(segRunT treeTable pg w 11 (some (.ref 6)) 1 2145 (L4 w os) (piecesOf (bd.drop 8) sh.env_1 cE ⟨15,0,16,8⟩ BB),HS.look pg w (openSeen (qP pg) [] (importedModules pg.main.body) (λs=>xlAt (qP pg) [] s&&recOk (RowW.records PySem.Challenge.rw_heraldways_k13_letters_counted.row.toRowW) s) true) (topRun treeTable pg w 11 (some (.ref 6)) 2 (fz w os).abs ⟨doneF .next,cE,⟨327,0,340,83⟩,BB⟩),HS.look pg w (HD.ob Vf RQ Sr Ti T2 Tq To S8) (topRun treeTable pg w 11 (some (.ref 6)) 2 (fz w os).abs ⟨doneF .next,cE,⟨327,0,340,83⟩,BB⟩)))=λos=>(some (.next,fz w os,cE,⟨327,0,340,83⟩),some (openGood (qP pg) []),some (Qz pg)):=by
 unfold fz cE bd pg;rw[Fast.te10110043849684766642,Fast.te14082659384304107361,Fast.te14364793385576792824,Fast.te4187177175401517315,Fast.te5923862056798008813,Fast.te7991651499979792557]
 kernel_rfl
theorem opn(w:World):(fencedOpening treeTable pg w 6992).map (λs=>(s.heap,s.gens,s.drawn,s.toks))=some (boot_heap w.params,Array.mk [],boot_drawn,boot_toks):=by
 unfold pg;rw[Fast.te14364793385576792824,Fast.te7991651499979792557]
 kernel_rfl
theorem siz(w:World):((boot_heap w.params).isNs mainGlobals && (Array.mk []:Array GenState).size == 0,(boot_heap w.params).objs.size,(boot_heap w.params).nsMap mainGlobals "__annotations__")=(true,11,(some (.ref 6))):=by
 kernel_rfl
theorem S7(w:World):(openEnds treeTable PySem.Challenge.pw_heraldways_k13_letters_counted w 6992).map (openSeen (qP PySem.Challenge.pw_heraldways_k13_letters_counted) [] (importedModules PySem.Challenge.pw_heraldways_k13_letters_counted.main.body) (λs=>xlAt (qP PySem.Challenge.pw_heraldways_k13_letters_counted) [] s&&recOk (RowW.records PySem.Challenge.rw_heraldways_k13_letters_counted.row.toRowW) s) true)=some (openGood (qP PySem.Challenge.pw_heraldways_k13_letters_counted) []):=HS.ends (good:=λ_=>_) opn siz (λw os=>let ⟨a,c,b,_⟩:=HS.run pre Qw chn gZ w os;⟨a,c,b⟩) (by decide +kernel) w
theorem S6(w:World):(openEnds treeTable PySem.Challenge.pw_heraldways_k13_letters_counted w 6992).map (HD.ob Vf RQ Sr Ti T2 Tq To S8)=some (Qz PySem.Challenge.pw_heraldways_k13_letters_counted):=HS.ends (good:=λ_=>_) opn siz (λw os=>let ⟨a,c,_,b⟩:=HS.run pre Qw chn gZ w os;⟨a,c,b⟩) (by decide +kernel) w
end
end K13
namespace L2
open PySem PySem.Spec PyProof.Rows
abbrev aP:=Sum Int Str
def qY:aP->Value->Bool
 |.inl k,v=>Value.isInt k v
 |.inr x,v=>Value.isStrOf x v
def S9(w:World):aP->Int
 |.inl k=>hashInt k
 |.inr x=>hashStr w x
theorem cg:∀{k:aP} {v:Value},qY k v=true->(∃i t,k=Sum.inl i/\v=Value.int i t)\/(∃x t,k=Sum.inr x/\v=Value.str x t)
 | .inl i,v,h=>by
   obtain⟨t,e⟩:=Value.isInt_shape (k:=i) (v:=v) h;exact .inl ⟨i,t,rfl,e⟩
 | .inr x,v,h=>by
   obtain⟨t,e⟩:=Value.isStrOf_shape (x:=x) (v:=v) h;exact .inr ⟨x,t,rfl,e⟩
theorem Cv(i:Int)(t:Tok):qY (.inl i) (.int i t)=true:=by simp[qY,Value.isInt]
theorem Cu(x:Str)(t:Tok):qY (.inr x) (.str x t)=true:=by simp[qY,Value.isStrOf]
theorem O1(a b:Int):decide ((Sum.inl a:aP)=Sum.inl b)=(a==b):=by
 by_cases e:a=b
 ·subst e;simp
 ·have h:¬ (Sum.inl a:aP)=Sum.inl b:=λq=>e (XZ q);rw[Wd h];exact(V7.mpr e).symm
theorem OY(a b:Str):decide ((Sum.inr a:aP)=Sum.inr b)=decide (a=b):=by
 by_cases e:a=b
 ·subst e;simp
 ·have h:¬ (Sum.inr a:aP)=Sum.inr b:=λq=>e (Sum.inr.inj q);rw[Wd h,Wd e]
theorem O0(a:Int)(b:Str):decide ((Sum.inl a:aP)=Sum.inr b)=false:=Wd (λq=>nomatch q)
theorem OZ(a:Str)(b:Int):decide ((Sum.inr a:aP)=Sum.inl b)=false:=Wd (λq=>nomatch q)
def aG(prog:Program)(w:World):PySem.KeyKind prog w aP where
 is:=qY
 hash:=S9 w
 inj:=λv a b g d=>by
  rcases cg g with ⟨i,t,rfl,rfl⟩|⟨x,t,rfl,rfl⟩
  · rcases cg d with ⟨j,u,rfl,e⟩|⟨y,u,rfl,e⟩
    ·injection e with e1 _;rw[e1]
    ·exact nomatch e
  · rcases cg d with ⟨j,u,rfl,e⟩|⟨y,u,rfl,e⟩
    ·exact nomatch e
    ·injection e with e1 _;rw[e1]
 byValue:=λk v h=>by
  rcases cg h with ⟨i,t,rfl,rfl⟩|⟨x,t,rfl,rfl⟩<;>rfl
 pyHash:=λc h=>by
  rcases cg c with ⟨i,t,rfl,rfl⟩|⟨x,t,rfl,rfl⟩
  ·exact wpAny_pyHash_int h
  ·exact wpAny_pyHash_str h
 eqBool:=λf c h=>by
  rcases cg f with ⟨i,t,rfl,rfl⟩|⟨x,t,rfl,rfl⟩
  · rcases cg c with ⟨j,u,rfl,rfl⟩|⟨y,u,rfl,rfl⟩
    ·rw[O1]at h;exact wpAny_eqBool_int h
    ·rw[O0]at h;exact SeqAt.EqAt.int_str i t y u _ _ _ _ h
  · rcases cg c with ⟨j,u,rfl,rfl⟩|⟨y,u,rfl,rfl⟩
    ·rw[OZ]at h;exact SeqAt.EqAt.str_int x t j u _ _ _ _ h
    ·rw[OY]at h;exact wpAny_eqBool_str h
 «strs»:=λk x t v h=>by
  rcases cg h with ⟨i,u,rfl,e⟩|⟨y,u,rfl,e⟩
  ·exact nomatch e
  · injection e with e1 _
    subst e1;cases v<;>rfl
theorem u3(prog:Program)(w:World)(i:Int)(t:Tok):(aG prog w).is (.inl i) (.int i t)=true:=Cv i t
theorem uZ(prog:Program)(w:World)(x:Str)(t:Tok):(aG prog w).is (.inr x) (.str x t)=true:=Cu x t
inductive V where
 |non|bl (b:Bool)|int (i:Int)|str (x:Str)|byt (b:Array UInt8)|flt (b:UInt64)|ref (a:Addr)|ty (n:String)
 deriving DecidableEq
def RelV:V->Value->Prop
 |.non,u=>u=Value.none
 |.bl b,u=>u=Value.bool b
 |.int i,u=>∃t,u=Value.int i t
 |.str x,u=>∃t,u=Value.str x t
 |.byt b,u=>∃t,u=Value.bytes b t
 |.flt b,u=>∃t,u=Value.float b t
 |.ref a,u=>u=Value.ref a
 |.ty n,u=>u=Value.type n
abbrev Vals:List V->List Value->Prop:=Paired RelV
theorem Vals.length{xs:List V}{us:List Value}(r:Vals xs us):xs.length=us.length:=WC r
theorem Vals.get:∀{xs:List V} {us:List Value} {i:Nat} {x:V},Vals xs us->xs[i]?=some x->∃u,us[i]?=some u/\RelV x u
 |_,_,_,_,.nil,e=>by simp at e
 |_,_,0,_,.cons r _,e=>by simp at e;subst e;exact⟨_,rfl,r⟩
 | _,_,i+1,x,.cons _ t,e=>by
   obtain⟨u,b,a⟩:=Vals.get (i:=i) (x:=x) t (by simpa using e);exact⟨u,by simpa using b,a⟩
theorem Vals.set{x:V}{u:Value}(r:RelV x u):∀{xs:List V} {us:List Value} (i:Nat),Vals xs us->Vals (xs.set i x) (us.set i u)
 |_,_,_,.nil=>.nil
 |_,_,0,.cons _ t=>.cons r t
 |_,_,i+1,.cons q t=>.cons q (Vals.set r i t)
theorem Vals.append:∀{xs a:List V} {us b:List Value},Vals xs us->Vals a b->Vals (xs++a) (us++b)
 |_,_,_,_,.nil,s=>s
 |_,_,_,_,.cons r t,s=>.cons r (Vals.append t s)
theorem Vals.take:∀{xs:List V} {us:List Value} (n:Nat),Vals xs us->Vals (xs.take n) (us.take n)
 |_,_,0,_=>.nil
 |_,_,_+1,.nil=>.nil
 |_,_,n+1,.cons r t=>.cons r (Vals.take n t)
theorem Vals.drop:∀{xs:List V} {us:List Value} (n:Nat),Vals xs us->Vals (xs.drop n) (us.drop n)
 |_,_,0,r=>r
 |_,_,_+1,.nil=>.nil
 |_,_,n+1,.cons _ t=>Vals.drop n t
def RelO:Option V->Option Value->Prop
 |some v,some u=>RelV v u
 |none,none=>True
 |_,_=>False
def KV{W:Type}:List (W×V)->List (W×Value)->Prop:=Paired λ(p:W×V) (q:W×Value)=>p.1=q.1/\RelV p.2 q.2
def kV:aP->V
 |.inl i=>.int i
 |.inr x=>.str x
inductive HO where
 /-- a list -/
 |lst (xs:List V)
 /-- a tuple (never changes) -/
 |tup (xs:List V)
 /-- a dict whose keys are ints and texts;one whose keys are tuples of ints and texts (the empty one is both) -/
 |dK (kvs:List (aP×V))|dT (kvs:List (List aP×V))
 /-- a set of ints: its members,its size -/
 |set (S:Int->Bool) (n:Nat)
 /-- an instance of the class at C,its dict at dx,its attributes -/
 |ins (C dx:Addr) (fs:List (Str×V))
 /-- the dict of the instance at x -/
 |own (x:Addr)
 /-- the dict of an exception -/
 |xd (fs:List (Str×V))
 /-- a bound method,f of x -/
 |met (f x:Addr)
 /-- a range object lo,lo+1,.. below hi -/
 |rng (lo hi:Int)
 /-- a thing that is known to the object (the script;a dict while a loop walks it): read,never written while it is so -/
 |frz (o:Obj) (u:HO)
 /-- a code object's table: at each of these places nothing,or a code of that name -/
 |tbl (l:List (Pos×Str))
 /-- any other thing,by what is true of its one object (a def of one's own: SetO a S n:=HO.ext λh=> ..) -/
 |ext (φ:Heap->Prop)
abbrev Hp:=Addr->Option HO
def upd(H:Hp)(a:Addr)(o:HO):Hp:=λb=>if b=a then some o else H b
theorem aM{H:Hp}{a:Addr}{o:HO}:upd H a o a=some o:=by unfold upd;rw[if_pos rfl]
theorem aE{H:Hp}{a b:Addr}{o:HO}(h:b≠a):upd H a o b=H b:=by unfold upd;rw[if_neg h]
theorem Fg{H:Hp}{a b:Addr}{o u:HO}(h:H a=some o)(h':H b=some u)(d:o≠u):a≠b:=by
 intro e;subst e;rw[h]at h';exact d (VO h')
theorem br{H:Hp}{a b:Addr}{o:HO}(h:H a=some o)(h':H b=none):a≠b:=by
 intro e;subst e;rw[h]at h';cases h'
section
variable(P:Program)(w:World)
def ObjOk(H:Hp)(h:Heap)(a:Addr):HO->Prop
 |.lst xs=>xs.length<=sizeLine/\∃(its:List Value) (n:Nat),Vals xs its/\h.get? a=some {cls:=.type "list",data:=.seq its.toArray n}
 |.tup xs=>xs.length<=sizeLine/\∃its:List Value,Vals xs its/\IsTup h a its.toArray
 |.dK kvs=>kvs.length<=sizeLine/\(a==sysModules)=false/\∃vs,KV kvs vs/\h.DictOf (aG P w) a vs
 | .dT kvs=>kvs.length<=sizeLine/\(a==sysModules)=false/\∃xs:List (List aP×Addr×Value),
    Paired (λ(p:List aP×V) (q:List aP×Addr×Value)=>p.1=q.1/\H q.2.1=some (.tup (p.1.map kV))/\RelV p.2 q.2.2) kvs xs/\
    ∃o i ep,h.get? a=some o/\o.ExactDict/\o.data=.dict i ep/\i.toList=xs.map (entryOfKey (tupleKind (aG P w)))/\(xs.map (·.1)).Nodup
 |.set S n=>h.SetOf (intKind P w) a S n
 | .ins C dx fs=>H dx=some (.own a)/\fs.length<=1000/\dx≠a/\h.get? a=some (PySem.W.instObj C dx)/\
    ∃b,h.Ns1 dx b/\(∀f,RelO (fs.lookup f) (b f))/\PySem.Within b (fs.map (·.1))
 |.own _=>∃o,h.get? a=some o
 |.xd fs=>∃b,h.Ns1 a b/\∀f,RelO (fs.lookup f) (b f)
 |.rng lo hi=>∃t u v,h.get? a=some {cls:=.type "range",data:=.fields #[.int lo t,.int hi u,.int 1 v]}
 |.frz o u=>h.get? a=some o/\ObjOk H h a u
 |.tbl l=>(∀y∈l,∀z∈l,y.1.line=z.1.line->y.1.col=z.1.col->y.2=z.2)/\∃ps:Array Value,h.get? a=some {cls:=.none,data:=.fields ps}/\TriplesOk ps.toList/\∀x∈l,codeAmong x.1 ps.toList=none\/∃c,codeAmong x.1 ps.toList=some (.ref c)/\H c=some (.own a)/\h.CodeRec (.ref c) x.2
 |.met f x=>h.get? a=some (PySem.W.methodObj (.ref f) (.ref x))
 |.ext d=>d h/\(∃o,h.get? a=some o)/\∀g e:Heap,d g->(∀o,g.get? a=some o->e.get? a=some o)->d e
def HOk(H:Hp)(h:Heap):Prop:=∀a o,H a=some o->ObjOk P w H h a o
end
section
variable{P:Program}{w:World}{H H':Hp}{h h':Heap}{a:Addr}{o:HO}
theorem ObjOk.lt(x:ObjOk P w H h a o):a<h.objs.size:=by
 cases o with
 |lst xs=>obtain⟨_,_,_,_,e⟩:=x;exact VB e
 |tup xs=>obtain⟨_,_,_,p⟩:=x;exact p.lt
 |dK kvs=>obtain⟨_,_,_,_,o,_,_,e,_⟩:=x;exact VB e
 |dT kvs=>obtain⟨_,_,_,_,o,_,_,e,_⟩:=x;exact VB e
 |set S n=>obtain⟨o,_,_,_,e,_⟩:=x;exact VB e
 |ins C dx fs=>obtain⟨_,_,_,e,_⟩:=x;exact VB e
 |own y=>obtain⟨_,e⟩:=x;exact VB e
 |xd fs=>obtain⟨_,⟨_,_,_,e,_⟩,_⟩:=x;exact VB e
 |rng lo hi=>obtain⟨_,_,_,e⟩:=x;exact VB e
 |frz ob u=>obtain⟨e,_⟩:=x;exact VB e
 |tbl l=>obtain⟨_,_,e,_⟩:=x;exact VB e
 |met f y=>exact VB (show h.get? a=some _ from x)
 |ext b=>obtain⟨_,⟨_,e⟩,_⟩:=x;exact VB e
theorem Paired.mapP{W X:Type}{F G:W->X->Prop}:∀{d:List W} {c:List X},Paired F d c->(∀a b,F a b->G a b)->Paired G d c
 |_,_,.nil,_=>.nil
 |_,_,.cons r t,f=>.cons (f _ _ r) (Paired.mapP t f)
theorem ObjOk.stay(x:ObjOk P w H h a o)(k:∀b u,(b=a\/H b=some (.own a))->h.get? b=some u->h'.get? b=some u)
 (s:∀b,H b=some (.own a)->H' b=some (.own a)) (F:∀b xs,H b=some (.tup xs)->H' b=some (.tup xs)):ObjOk P w H' h' a o:=by
 induction o with
 |lst xs=>obtain⟨z,its,n,r,e⟩:=x;exact⟨z,its,n,r,k _ _ (.inl rfl) e⟩
 |tup xs=>obtain⟨z,its,r,ob,e,c⟩:=x;exact⟨z,its,r,ob,k _ _ (.inl rfl) e,c⟩
 |dK kvs=>obtain⟨z,y,vs,r,ob,i,ep,e,c⟩:=x;exact⟨z,y,vs,r,ob,i,ep,k _ _ (.inl rfl) e,c⟩
 |dT kvs=>
   obtain⟨z,y,xs,r,ob,i,ep,e,c⟩:=x;exact⟨z,y,xs,Paired.mapP r λp q z=>⟨z.1,F _ _ z.2.1,z.2.2⟩,ob,i,ep,k _ _ (.inl rfl) e,c⟩
 |set S n=>obtain⟨ob,i,ep,t,e,c⟩:=x;exact⟨ob,i,ep,t,k _ _ (.inl rfl) e,c⟩
 |ins C dx fs=>
   obtain⟨d,z,ne,e,m,⟨j,i,ep,I,c⟩,r⟩:=x;exact⟨s _ d,z,ne,k _ _ (.inl rfl) e,m,⟨j,i,ep,k _ _ (.inr d) I,c⟩,r⟩
 |own y=>obtain⟨ob,e⟩:=x;exact⟨ob,k _ _ (.inl rfl) e⟩
 |xd fs=>obtain⟨m,⟨j,i,ep,e,c⟩,r⟩:=x;exact⟨m,⟨j,i,ep,k _ _ (.inl rfl) e,c⟩,r⟩
 |rng lo hi=>obtain⟨t,u,v,e⟩:=x;exact⟨t,u,v,k _ _ (.inl rfl) e⟩
 |frz ob u D=>obtain⟨e,q⟩:=x;exact⟨k _ _ (.inl rfl) e,D q⟩
 |tbl l=>
   obtain⟨J,ps,e,t,q⟩:=x;refine⟨J,ps,k _ _ (.inl rfl) e,t,λy E=>?_⟩;rcases q y E with z|⟨c,z,A,⟨L,o,vs,B,G,g,r⟩⟩
   ·exact .inl z
   ·cases G;exact .inr ⟨c,z,s _ A,⟨c,o,vs,B,rfl,k _ _ (.inr A) g,r⟩⟩
 |met f y=>
   have e:h.get? a=some (PySem.W.methodObj (.ref f) (.ref y)):=x;show h'.get? a=some (PySem.W.methodObj (.ref f) (.ref y));exact k a _ (.inl rfl) e
 |ext K=>obtain⟨p,⟨o,e⟩,st⟩:=x;exact⟨st _ _ p λo q=>k _ _ (.inl rfl) q,⟨o,k _ _ (.inl rfl) e⟩,st⟩
theorem HOk.lt(x:HOk P w H h)(e:H a=some o):a<h.objs.size:=(x a o e).lt
theorem HOk.fresh(x:HOk P w H h)(e:h.objs.size<=a):H a=none:=by
 cases q:H a with
 |none=>rfl
 |some u=>exact absurd (VV (x.lt q) e) (Wm _)
theorem HOk.kept(x:HOk P w H h)(k:∀b u,h.get? b=some u->h'.get? b=some u):HOk P w H h':=λa o e=>
 (x a o e).stay (λb u _ q=>k b u q) (λ_ q=>q) λ_ _ q=>q
theorem HOk.laid(x:HOk P w H h)(k:∀b u,h.get? b=some u->h'.get? b=some u)(hp:h.objs.size<=a)(new:ObjOk P w (upd H a o) h' a o):HOk P w (upd H a o) h':=λb u e=>by
 have d:=x.fresh hp;by_cases f:b=a
 ·subst f;rw[aM]at e;cases e;exact new
 ·rw[aE f]at e;exact(x b u e).stay (λc v _ q=>k c v q) (λc q=>by rw[aE (br q d)];exact q) λc xs q=>by rw[aE (br q d)];exact q
end
def Rd(H:Hp)(a:Addr)(u:HO):Prop:=H a=some u\/∃o,H a=some (.frz o u)
theorem Rd.ok{P:Program}{w:World}{H:Hp}{h:Heap}{a:Addr}{u:HO}(r:Rd H a u)(x:HOk P w H h):ObjOk P w H h a u:=by
 rcases r with r|⟨o,r⟩
 ·exact x a u r
 ·obtain⟨_,q⟩:=x a _ r;exact q
def Ux:Option HO->Prop
 |some (.lst _)=>True
 |some (.dK _)=>True
 |some (.dT _)=>True
 |some (.set _ _)=>True
 |some (.ins _ _ _)=>True
 |some (.ext _)=>True
 |_=>False
section
variable{P:Program}{w:World}{H:Hp}{h h':Heap}{x e:Addr}{o':HO}
theorem HOk.write(ok:HOk P w H h)(g:Ux (H x))(n:e=x\/H e=some (.own x))(k:∀b u,b≠e->h.get? b=some u->h'.get? b=some u)(l:∃u,h'.get? e=some u)
 (new:ObjOk P w (upd H x o') h' x o'):HOk P w (upd H x o') h':=λb u q=>by
 have d:∀c y,H c=some (.own y)->c≠x:=λc y r z=>by subst z;rw[r]at g;exact g
 have f:∀c xs,H c=some (.tup xs)->c≠x:=λc xs r z=>by subst z;rw[r]at g;exact g
 by_cases j:b=x
 ·subst j;rw[aM]at q;cases q;exact new
 · rw[aE j]at q;by_cases a:b=e
   · have m:H b=some (.own x):=by
      rcases n with z|z
      ·exact absurd (a.trans z) j
      ·rw[a];exact z
     rw[q]at m;cases m;obtain⟨v,o⟩:=l;exact⟨v,by rw[a];exact o⟩
   · refine(ok b u q).stay (λc v i r=>k c v ?_ r) (λc r=>by rw[aE (d c b r)];exact r) λc xs r=>by rw[aE (f c xs r)];exact r
     rcases i with rfl|i
     ·exact a
     · rintro rfl;rcases n with z|z
       ·exact d c b i z
       ·rw[i]at z;cases z;exact j rfl
end
structure Un (fs ex:List Addr) (H H':Hp) (h h':Heap):Prop where
 keep:∀b o,h.get? b=some o->H b=none->b∉fs->b∉ex->h'.get? b=some o
 slot:∀b o,h.get? b=some o->H b=none->b∈fs->b∉ex->∃sl,h'.get? b=some {o with slots:=sl}
 free:∀b o,h.get? b=some o->H b=none->b∉ex->H' b=none
 there:∀b o,h.get? b=some o->b∉ex->∃o',h'.get? b=some o'
 tups:∀b xs,H b=some (.tup xs)->H' b=some (.tup xs)
 frzs:∀b o u,H b=some (.frz o u)->H' b=some (.frz o u)
 tbls:∀b l,H b=some (.tbl l)->H' b=some (.tbl l)/\∀c o,H c=some (.own b)->h.get? c=some o->H' c=some (.own b)/\h'.get? c=some o
section
variable{fs fs' ex ex':List Addr}{H H1 H2:Hp}{h h1 h2 h':Heap}{a x e:Addr}{o:HO}
theorem Un.any(u:Un fs ex H H1 h h1){b:Addr}{ob:Obj}(q:h.get? b=some ob)(n:H b=none)(a:b∉ex):∃d,h1.get? b=some {ob with slots:=d}:=by
 by_cases c:b∈fs
 ·exact u.slot b ob q n c a
 ·exact⟨ob.slots,u.keep b ob q n c a⟩
theorem Un.kept(k:∀b u,h.get? b=some u->h'.get? b=some u):Un fs ex H H h h':=
 ⟨λb ob q _ _ _=>k b ob q,λb ob q _ _ _=>⟨ob.slots,k b ob q⟩,λ_ _ _ n _=>n,λb ob q _=>⟨ob,k b ob q⟩,λ_ _ q=>q,λ_ _ _ q=>q,λ_ _ q=>⟨q,λc o e1 a=>⟨e1,k c o a⟩⟩⟩
theorem Un.refl:Un fs ex H H h h:=Un.kept λ_ _ q=>q
theorem Un.laid(k:∀b u,h.get? b=some u->h'.get? b=some u)(hp:h.objs.size<=a)(d:H a=none):Un fs ex H (upd H a o) h h' where
 keep:=λb u q _ _ _=>k b u q
 slot:=λb u q _ _ _=>⟨u.slots,k b u q⟩
 free:=λb u q n _=>by rw[aE (VX (VV (VB q) hp))];exact n
 there:=λb u q _=>⟨u,k b u q⟩
 tups:=λb xs q=>by rw[aE (br q d)];exact q
 frzs:=λb u xs q=>by rw[aE (br q d)];exact q
 tbls:=λb xs q=>⟨by rw[aE (br q d)];exact q,λc o e1 e=>⟨by rw[aE (br e1 d)];exact e1,k c o e⟩⟩
theorem Un.write(a:Ux (H x))(j:e=x\/H e=some (.own x))(k:∀b u,b≠e->h.get? b=some u->h'.get? b=some u)(g:∃u,h'.get? e=some u):Un fs ex H (upd H x o) h h':=by
 have i:∀b,H b=none->b≠x:=λb n z=>by subst z;rw[n]at a;exact a
 have l:∀b,H b=none->b≠e:=λb n z=>by
  subst z;rcases j with r|r
  ·exact i b n r
  ·rw[n]at r;cases r
 have d:∀b u,H b=some u->¬ Ux (some u)->b≠x:=λb u q m z=>by subst z;rw[q]at a;exact m a
 refine⟨λb u q n _ _=>k b u (l b n) q,λb u q n _ _=>⟨u.slots,k b u (l b n) q⟩,λb u q n _=>by rw[aE (i b n)];exact n,λb u q _=>?_,
  λb xs q=>by rw[aE (d b _ q λz=>z)];exact q,λb u xs q=>by rw[aE (d b _ q λz=>z)];exact q,λb ps q=>⟨by rw[aE (d b _ q λz=>z)];exact q,λc o e1 p=>⟨by rw[aE (d c _ e1 λz=>z)];exact e1,k c o (λz=>by
   rcases j with r|r
   ·exact d c _ e1 (λz=>z) (z.trans r)
   ·rw[<-z,e1]at r;cases r;rw[q]at a;exact a) p⟩⟩⟩
 by_cases f:b=e
 ·subst f;exact g
 ·exact⟨u,k b u f q⟩
end
def UA(h:Heap)(H:Hp):List Addr:=(List.range h.objs.size).filter λa=>(H a).isSome
def oq(h:Heap)(H:Hp):Heap:=PySem.W.hideAll h (UA h H)
theorem CA(h:Heap)(H:Hp):(oq h H).objs.size=h.objs.size:=PySem.W.hideAll_size _ _
theorem Gu{h:Heap}{H:Hp}{b:Addr}{o:Obj}(e:h.get? b=some o)(n:H b=none):(oq h H).get? b=some o:=
 PySem.W.hideAll_get _ e λa=>by
  have q:(H b).isSome=true:=(WK.mp a).2;rw[n]at q;simp at q
theorem Jl{h:Heap}{H:Hp}{b:Addr}{o:Obj}(e:(oq h H).get? b=some o):h.get? b=some o/\H b=none:=by
 have a:h.get? b=some o:=PySem.W.of_hideAll (UA h H) e;refine⟨a,?_⟩;cases q:H b with
 |none=>rfl
 |some x=>
   have c:b∈UA h H:=WK.mpr ⟨YD.mpr (VB a),by simp[q]⟩;have z:(oq h H).get? b=none:=PySem.W.hideAll_none (UA h H) c;rw[z]at e;cases e
def Kb(g h:Heap)(L:Addr):P1:=(List.range h.objs.size).filterMap λa=>if a=L\/(g.get? a).isSome=true then none else (h.get? a).map λo=>(a,o)
def bJ(g h:Heap)(L d:Addr):P1:=(Kb g h L).filter λp=>decide (p.1≠d)
structure Mod (K:F0) (mg:Str->Option Value) (base:Heap):Prop where
 kin:K.In base
 glob:base.Ns mainGlobals mg
 blt:∃mb,base.Ns builtinsNs mb/\∀x:Str,x ≠ "__name__" -> mb x=bootBuiltins x
 nolimit:base.NoLimit
 bmod:∃bm o,mg "__builtins__" = some (.ref bm)/\bm≠builtinsNs/\base.get? bm=some o/\o.cls=.type "module" /\ o.dict=some builtinsNs/\o.data=.plain
structure Cx where
 prog:Program
 w:World
 K:F0
 mg:Str->Option Value
 base:Heap
 A:Around
 N:List Str
 s₀:Shared
 H₀:Hp
 env:Env
 outer:List Env
 stack:List Env
 ex:List Addr
 fn:Str->Bool
 calm:Bool
 pn:P1
 xe:Value->Shared->Prop
def ym(l:List Env):List Addr:=l.filterMap (·.frame)
abbrev Cx.fs(X:Cx):List Addr:=ym X.outer
def UR(sc:Scope)(x:Str):Prop:=sc.names.lookup x=some .local\/sc.names.lookup x=some .cell\/sc.names.lookup x=some .free
def Qy(sc:Scope)(x:Str):Prop:=sc.names.lookup x=some .local\/sc.names.lookup x=some .cell
def Vl(env:Env)(h:Heap)(m:Str->Option Value)(x:Str)(u:Value):Prop:=
 (env.kindOf x=some .local/\m x=some u)\/((env.kindOf x=some .cell\/env.kindOf x=some .free)/\∃c,env.cells.lookup x=some c/\h.IsCell c (some u))
structure Cx.Ok (X:Cx):Prop where
 mod:Mod X.K X.mg X.base
 kind:X.env.scope.kind=.function
 glob:X.env.globals=mainGlobals
 blt:X.env.builtins=builtinsNs
 above:X.s₀.heap.objs.size<=X.env.locals
 inj:∀x y c,X.env.cells.lookup x=some c->X.env.cells.lookup y=some c->x=y
 has:∀x,(X.env.kindOf x=some .cell\/X.env.kindOf x=some .free)->∃c,X.env.cells.lookup x=some c
 cab:∀x c,X.fn x=true->X.env.cells.lookup x=some c->X.s₀.heap.objs.size<=c
 hd:X.calm=true->X.A.handled=none
 frames:X.A.frames=some X.stack
 stk:X.stack=X.outer\/(X.stack=X.env::X.outer/\X.env.frame=some X.env.locals)
 exf:∀b∈X.ex,b≠X.env.locals/\∀x c,X.env.cells.lookup x=some c->c≠b
 bs:∀b o,X.base.get? b=some o->X.s₀.heap.get? b=some o/\X.H₀ b=none
 bsz:X.base.objs.size<=X.s₀.heap.objs.size
 noex:∀b o,X.base.get? b=some o->b∉X.ex
 exfs:∀b∈X.ex,b∉X.fs
 funs:X.s₀.heap.FunFrames X.base X.outer
 frf:∀b∈X.fs,X.H₀ b=none
structure Inv (X:Cx) (G:P1) (Z:List (Option V)) (H:Hp) (s:Shared):Prop where
 ok:X.Ok
 os:s.os=X.s₀.os
 bare:AllBare s.gens
 base:Un X.fs X.ex X.H₀ H X.s₀.heap s.heap
 loc:∃m,s.heap.Ns X.env.locals m/\∀(i:Nat) (x:Str) (v:V),X.N[i]?=some x->Z[i]?=some (some v)->UR X.env.scope x->∃u,RelV v u/\Vl X.env s.heap m x u
 cell:∀x c,X.env.cells.lookup x=some c->∃v,s.heap.IsCell c v
 free:H X.env.locals=none
 freeC:∀x c,X.env.cells.lookup x=some c->H c=none
 pin:∀p∈X.pn++G,s.heap.get? p.1=some p.2/\H p.1=none/\p.1≠X.env.locals/\p.1∉X.fs/\∀v,p.2.data≠ .cell v
 hok:HOk X.prog X.w H s.heap
 len:Z.length=X.N.length
section
variable{X:Cx}{G:P1}{Z:List (Option V)}{H H':Hp}{s:Shared}{h':Heap}
theorem Cx.Ok.nofr(ok:X.Ok){b:Addr}{o:Obj}(e:X.base.get? b=some o):b∉X.fs:=λa=>by
 have:=(ok.funs.mem a).1
 rw[e]at this;cases this
theorem Inv.bs(I:Inv X G Z H s):∀b o,X.base.get? b=some o->s.heap.get? b=some o/\H b=none:=λb o e=>
 ⟨I.base.keep b o (I.ok.bs b o e).1 (I.ok.bs b o e).2 (I.ok.nofr e) (I.ok.noex b o e),I.base.free b o (I.ok.bs b o e).1 (I.ok.bs b o e).2 (I.ok.noex b o e)⟩
theorem Inv.bk(I:Inv X G Z H s):∀b o,X.base.get? b=some o->s.heap.get? b=some o:=λb o e=>(I.bs b o e).1
theorem Inv.mod(I:Inv X G Z H s):Mod X.K X.mg X.base:=I.ok.mod
theorem Inv.kIn(I:Inv X G Z H s):X.K.In s.heap:=I.ok.mod.kin.keeps I.bk
theorem Inv.lt(I:Inv X G Z H s):X.env.locals<s.heap.objs.size:=let ⟨_,a,_⟩:=I.loc;a.lt
theorem Inv.sz(I:Inv X G Z H s):X.s₀.heap.objs.size<=s.heap.objs.size:=VW I.ok.above (Wx I.lt)
theorem Inv.nofs(I:Inv X G Z H s){a:Addr}(h:s.heap.objs.size<=a):a∉X.fs:=λc=>by
 obtain⟨_,o,b,_⟩:=I.ok.funs.mem c;exact absurd (VV (VB b) (VW I.sz h)) (Wm _)
theorem Inv.cne(I:Inv X G Z H s):∀x c,X.env.cells.lookup x=some c->c≠X.env.locals:=λx c e z=>by
 obtain⟨v,o,d,hd⟩:=I.cell x c e;obtain⟨m,⟨o',f,ep,a,b,_⟩,_⟩:=I.loc;rw[z,a]at d;cases d;rw[b]at hd;cases hd
theorem Inv.funs(I:Inv X G Z H s):s.heap.FunFrames X.base X.outer:=by
 have all:∀(l:List Env),(∀b∈ym l,b∈X.fs)->X.s₀.heap.FunFrames X.base l->s.heap.FunFrames X.base l:=by
  intro l
  induction l with
  |nil=>intro _ _;trivial
  |cons env r g=>
    intro f k;obtain⟨m,⟨L,o,a,j,i,hd⟩,h⟩:=k;have d:L∈X.fs:=f L (by unfold ym;rw[List.filterMap_cons,a];exact List.mem_cons_self);obtain⟨n,e⟩:=I.base.slot L o i (I.ok.frf L d) d λz=>I.ok.exfs L z d;exact⟨m,⟨L,_,a,j,e,hd⟩,g (λb c=>f b (by unfold ym;rw[List.filterMap_cons,a];exact List.mem_cons_of_mem _ c)) h⟩
 exact all X.outer (λ_ c=>c) I.ok.funs
theorem Inv.stack(I:Inv X G Z H s):s.heap.FunFrames X.base X.stack:=by
 rcases I.ok.stk with e|⟨e,b⟩
 ·rw[e];exact I.funs
 ·rw[e];obtain⟨m,a,_⟩:=I.loc;refine .cons (by rw[I.ok.kind];decide) b a ?_ I.funs;exact Heap.get?_none_of_le (VW I.ok.bsz I.ok.above)
theorem Inv.stkSub(I:Inv X G Z H s):∀b∈ym X.stack,b∈X.env.locals::X.fs:=λb a=>by
 rcases I.ok.stk with e|⟨e,c⟩
 ·rw[e]at a;exact Vw _ a
 ·rw[e]at a;unfold ym at a;rw[List.filterMap_cons,c]at a;exact a
theorem Inv.stkFree(I:Inv X G Z H s):∀b∈ym X.stack,H b=none:=λb a=>by
 rcases VA.mp (I.stkSub b a) with e|a
 ·rw[e];exact I.free
 ·obtain⟨_,o,c,_⟩:=I.ok.funs.mem a;exact I.base.free b o c (I.ok.frf b a) λz=>I.ok.exfs b z a
theorem Inv.step{g':Array GenState}{t':Nat}{d':Drawn}{ch:List Addr}(I:Inv X G Z H s)
 (g:∀b∈ch,(b∈X.ex\/X.s₀.heap.objs.size<=b)/\b≠X.env.locals/\(∀x c,X.env.cells.lookup x=some c->c≠b)/\∀p∈X.pn++G,p.1≠b)
 (keep:∀b o,b≠X.env.locals->b∉X.fs->b∉ch->s.heap.get? b=some o->H b=none->h'.get? b=some o)
 (slot:∀b o,b≠X.env.locals->b∈X.fs->b∉ch->s.heap.get? b=some o->H b=none->∃D,h'.get? b=some {o with slots:=D}) (free:∀b o,b∉ch->s.heap.get? b=some o->H b=none->H' b=none)
 (there:∀b o,b∉ch->s.heap.get? b=some o->∃o',h'.get? b=some o')
 (tups:∀b xs,H b=some (.tup xs)->H' b=some (.tup xs)) (frzs:∀b o u,H b=some (.frz o u)->H' b=some (.frz o u)) (tbls:∀b l,H b=some (.tbl l)->H' b=some (.tbl l)/\∀c o,H c=some (.own b)->s.heap.get? c=some o->H' c=some (.own b)/\h'.get? c=some o)
 (ns:∀m,s.heap.Ns X.env.locals m->h'.Ns X.env.locals m) (hok:HOk X.prog X.w H' h') (L:AllBare g'):
 Inv X G Z H' {s with heap:=h',gens:=g',drawn:=d',toks:=t'}:=by
 have A:∀b o,X.s₀.heap.get? b=some o->b≠X.env.locals:=λb o e=>VX (VV (VB e) I.ok.above)
 have j:∀b o,X.s₀.heap.get? b=some o->b∉X.ex->b∉ch:=λb o e a t=>by
  rcases(g b t).1 with z|z
  ·exact a z
  ·exact absurd (VV (VB e) z) (Wm _)
 have h:∀x c,X.env.cells.lookup x=some c->∀v,s.heap.IsCell c v->h'.IsCell c v:=λx c e v ⟨o,y,hd⟩=>by
  have f:c∉ch:=λz=>(g c z).2.2.1 x c e rfl;by_cases F:c∈X.fs
  ·obtain⟨D,q⟩:=slot c o (I.cne x c e) F f y (I.freeC x c e);exact⟨_,q,hd⟩
  ·exact⟨o,keep c o (I.cne x c e) F f y (I.freeC x c e),hd⟩
 refine⟨I.ok,I.os,L,⟨λb o e n t a=>?_,λb o e n t a=>?_,λb o e n a=>?_,λb o e a=>?_,λb xs e=>tups b xs (I.base.tups b xs e),λb o xs e=>frzs b o xs (I.base.frzs b o xs e),λb ps e=>⟨(tbls b ps (I.base.tbls b ps e).1).1,λc o e1 B=>let ⟨N,M⟩:=(I.base.tbls b ps e).2 c o e1 B;(tbls b ps (I.base.tbls b ps e).1).2 c o N M⟩⟩,?_,λx c e=>?_,?_,λx c e=>?_,λp hp=>?_,hok,I.len⟩
 ·exact keep b o (A b o e) t (j b o e a) (I.base.keep b o e n t a) (I.base.free b o e n a)
 ·obtain⟨D,e1⟩:=I.base.slot b o e n t a;obtain⟨C,B⟩:=slot b _ (A b o e) t (j b o e a) e1 (I.base.free b o e n a);exact⟨C,B⟩
 ·obtain⟨o',e1⟩:=I.base.there b o e a;exact free b o' (j b o e a) e1 (I.base.free b o e n a)
 ·obtain⟨o',e1⟩:=I.base.there b o e a;exact there b o' (j b o e a) e1
 · obtain⟨m,J,K⟩:=I.loc;refine⟨m,ns m J,λi x v e1 B O=>?_⟩;obtain⟨u,r,l⟩:=K i x v e1 B O;refine⟨u,r,?_⟩;rcases l with l|⟨k,c,e,z⟩
   ·exact .inl l
   ·exact .inr ⟨k,c,e,h x c e _ z⟩
 ·obtain⟨v,z⟩:=I.cell x c e;exact⟨v,h x c e v z⟩
 ·obtain⟨m,⟨o,_,_,y,_⟩,_⟩:=I.loc;exact free _ o (λz=>(g _ z).2.1 rfl) y I.free
 ·obtain⟨v,o,y,hd⟩:=I.cell x c e;exact free c o (λz=>(g c z).2.2.1 x c e rfl) y (I.freeC x c e)
 ·obtain⟨e,n,ne,E,d⟩:=I.pin p hp;have f:p.1∉ch:=λz=>(g p.1 z).2.2.2 p hp rfl;exact⟨keep p.1 p.2 ne E f e n,free p.1 p.2 f e n,ne,E,d⟩
theorem Inv.un{t':Nat}(I:Inv X G Z H s)(u:Un X.fs [] H H' s.heap h')(hok:HOk X.prog X.w H' h'):Inv X G Z H' {s with heap:=h',toks:=t'}:=by
 obtain⟨m,⟨o,p,ep,g,r⟩,_⟩:=id I.loc;obtain⟨k,j⟩:=u.any g I.free (by simp)
 exact I.step (g':=s.gens) (d':=s.drawn) (ch:=[]) (λ_ z=>nomatch z) (λb o _ c _ e n=>u.keep b o e n c (by simp)) (λb o _ c _ e n=>u.slot b o e n c (by simp)) (λb o _ e n=>u.free b o e n (by simp)) (λb o _ e=>u.there b o e (by simp)) u.tups u.frzs u.tbls (λl i=>by
  obtain⟨o',d,f,a,h⟩:=i;rw[g]at a;cases a
  exact⟨_,d,f,j,h⟩) hok I.bare
theorem Inv.call{g':Array GenState}{t':Nat}{d':Drawn}{ch:List Addr}(I:Inv X G Z H s)(u:Un (ym X.stack) ch H H' s.heap h')(hok:HOk X.prog X.w H' h')(q:AllBare g')
 (f:∀b∈ch,(b∈X.ex\/X.s₀.heap.objs.size<=b)/\b≠X.env.locals/\(∀x c,X.env.cells.lookup x=some c->c≠b)/\∀p∈X.pn++G,p.1≠b):
 Inv X G Z H' {s with heap:=h',gens:=g',drawn:=d',toks:=t'}:=by
 obtain⟨m,⟨o,A,ep,j,r⟩,_⟩:=id I.loc;obtain⟨v,g⟩:=u.any j I.free λz=>(f _ z).2.1 rfl
 exact I.step (ch:=ch) f (λb o g t a e n=>u.keep b o e n (λz=>(VA.mp (I.stkSub b z)).elim g t) a) (λb o _ _ a e n=>u.any e n a) (λb o a e n=>u.free b o e n a) (λb o a e=>u.there b o e a) u.tups u.frzs u.tbls (λy l=>by
  obtain⟨o',h,i,d,k⟩:=l;rw[j]at d;cases d
  exact⟨_,h,i,g,k⟩) hok q
theorem Inv.turned{t':Nat}{a:Addr}(I:Inv X G Z H s)(k:∀b o,b≠a->s.heap.get? b=some o->h'.get? b=some o)(g:H a=none)(h:a≠X.env.locals)
 (y:a∈X.ex\/X.s₀.heap.objs.size<=a) (w:∀x c,X.env.cells.lookup x=some c->c≠a) (t:∀p∈X.pn++G,p.1≠a):Inv X G Z H {s with heap:=h',toks:=t'}:=by
 have f:∀b u,H b=some u->b≠a:=λb u e z=>by rw[z,g]at e;cases e
 refine I.step (g':=s.gens) (d':=s.drawn) (ch:=[a]) (λb l=>?_) (λb o _ _ d e _=>k b o (λz=>d (by simp[z])) e) (λb o _ _ d e _=>⟨o.slots,k b o (λz=>d (by simp[z])) e⟩) (λ_ _ _ _ n=>n)
  (λb o d e=>⟨o,k b o (λz=>d (by simp[z])) e⟩) (λ_ _ e=>e) (λ_ _ _ e=>e) (λ_ _ e=>⟨e,λc o e1 B=>⟨e1,k c o (br e1 g) B⟩⟩) (λm j=>?_) (λb u e=>?_) I.bare
 · have e:b=a:=by simpa using l
   subst e;exact⟨y,h,w,t⟩
 ·obtain⟨o,A,ep,i,r⟩:=j;exact⟨o,A,ep,k _ o (W6 h) i,r⟩
 · refine(I.hok b u e).stay (λc v d q=>k c v ?_ q) (λ_ q=>q) λ_ _ q=>q;rcases d with z|z
   ·rw[z];exact f b u e
   ·exact f c _ z
theorem Inv.tok(I:Inv X G Z H s)(t:Nat):Inv X G Z H {s with toks:=t}:=I.un (h':=s.heap) (t':=t) Un.refl I.hok
theorem Inv.kept{t':Nat}(I:Inv X G Z H s)(k:∀b u,s.heap.get? b=some u->h'.get? b=some u):Inv X G Z H {s with heap:=h',toks:=t'}:=I.un (Un.kept k) (I.hok.kept k)
theorem Inv.laid{a:Addr}{o:HO}{t':Nat}(I:Inv X G Z H s)(k:∀b u,s.heap.get? b=some u->h'.get? b=some u)(hp:s.heap.objs.size<=a)(new:ObjOk X.prog X.w (upd H a o) h' a o):
 Inv X G Z (upd H a o) {s with heap:=h',toks:=t'}:=I.un (Un.laid k hp (I.hok.fresh hp)) (I.hok.laid k hp new)
theorem Inv.write{x e:Addr}{o:HO}{t':Nat}(I:Inv X G Z H s)(c:Ux (H x))(d:e=x\/H e=some (.own x))(k:∀b u,b≠e->s.heap.get? b=some u->h'.get? b=some u)(a:∃u,h'.get? e=some u)
 (new:ObjOk X.prog X.w (upd H x o) h' x o):Inv X G Z (upd H x o) {s with heap:=h',toks:=t'}:=I.un (Un.write c d k a) (I.hok.write c d k a new)
theorem Inv.pins_of{a:P1}(I:Inv X G Z H s)(h:∀p∈a,s.heap.get? p.1=some p.2/\H p.1=none/\p.1≠X.env.locals/\p.1∉X.fs/\∀v,p.2.data≠ .cell v):Inv X a Z H s:=
 ⟨I.ok,I.os,I.bare,I.base,I.loc,I.cell,I.free,I.freeC,λp hp=>(VH.mp hp).elim (λz=>I.pin p (VC _ z)) (h p),I.hok,I.len⟩
theorem uU{N:List Str}(c:N.Nodup){i j:Nat}{x:Str}(a:N[i]?=some x)(b:N[j]?=some x):i=j:=by
 obtain⟨f,e1⟩:=VM.mp a;obtain⟨e,d⟩:=VM.mp b;exact(List.getElem_inj c).mp (e1.trans d.symm)
theorem BK{M:Model}{A:Around}{E:P4}{i:Nat}{x:Str}{v:V}{u:Value}{Q:Unit->Shared->Prop}(I:Inv X G Z H s)(hN:X.N.Nodup)(hi:X.N[i]?=some x)(B:Qy X.env.scope x)(r:RelV v u)
 (h:∀s',Inv X G (Z.set i (some v)) H s'->(∃a,Heap.SameBut a s.heap s'.heap/\(a=X.env.locals\/X.env.cells.lookup x=some a))->Q () s') (hf:X.fn x=true\/X.env.scope.names.lookup x=some .local:=by first | exact .inl rfl | exact .inr rfl | assumption):wpAny M A (storeName X.env x u) Q E s:=by
 obtain⟨m,hn,hl⟩:=id I.loc;have T:(X.env.scope.kind == .class||(X.env.scope.kind == .module&&X.env.locals != X.env.globals))=false:=by rw[I.ok.kind];rfl
 have J:i<Z.length:=by rw[I.len];exact(VM.mp hi).1
 have cne:=I.cne
 have g:∀{a:Addr} {h':Heap},(∃o,s.heap.get? a=some o/\H a=none)->Heap.SameBut a s.heap h'->HOk X.prog X.w H h':=λ{a h'} ha f b ob e=>by
  obtain⟨_,_,D⟩:=ha;refine(I.hok b ob e).stay (λc w' t q=>(f.2 c ?_).trans q) (λ_ q=>q) λ_ _ q=>q;rintro rfl;rcases t with rfl|t
  ·rw[D]at e;cases e
  ·rw[D]at t;cases t
 rcases B with F|F
 · refine wpAny_storeName_local F hn (λh' hn' f=>?_) T;obtain⟨oL,_,_,hoL,_⟩:=id hn;refine h _ ⟨I.ok,I.os,I.bare,⟨λb o e n O B=>?_,λb o e n O B=>?_,I.base.free,λb o e B=>?_,I.base.tups,I.base.frzs,λb l q=>⟨(I.base.tbls b l q).1,λc o e1 C=>let ⟨Y,f2⟩:=(I.base.tbls b l q).2 c o e1 C;⟨Y,(f.2 c (br Y I.free)).trans f2⟩⟩⟩,⟨_,hn',λj y v' e1 C e3=>?_⟩,λy c e=>?_,I.free,I.freeC,λp hp=>?_,g ⟨oL,hoL,I.free⟩ f,by simpa using I.len⟩ ⟨_,f,.inl rfl⟩
   ·exact(f.2 b (VX (VV (VB e) I.ok.above))).trans (I.base.keep b o e n O B)
   ·obtain⟨sl,e1⟩:=I.base.slot b o e n O B;exact⟨sl,(f.2 b (VX (VV (VB e) I.ok.above))).trans e1⟩
   ·obtain⟨o',e1⟩:=I.base.there b o e B;exact⟨o',(f.2 b (VX (VV (VB e) I.ok.above))).trans e1⟩
   · by_cases K:j=i
     ·subst K;rw[hi]at e1;cases e1;rw[Xx J]at C;cases C;exact⟨u,r,.inl ⟨F,by simp⟩⟩
     · rw[YE (W6 K)]at C;obtain⟨u',r',q⟩:=hl j y v' e1 C e3;refine⟨u',r',?_⟩;rcases q with ⟨k,e⟩|⟨k,c,e,z⟩
       · refine .inl ⟨k,?_⟩
         have:y≠x:=λe=>K (uU hN e1 (e▸hi))
         simp[this,e]
       ·exact .inr ⟨k,c,e,z.sameBut f (cne y c e)⟩
   ·obtain⟨w',z⟩:=I.cell y c e;exact⟨w',z.sameBut f (cne y c e)⟩
   ·obtain⟨e,n,ne,nf,d⟩:=I.pin p hp;exact⟨(f.2 p.1 ne).trans e,n,ne,nf,d⟩
 · have L:X.fn x=true:=by
    rcases hf with z|z
    ·exact z
    ·rw[z]at F;cases F
   obtain⟨c,t⟩:=I.ok.has x (.inl F);obtain⟨w',z⟩:=I.cell x c t;refine wpAny_storeName_cell I.ok.kind F t z (λh' W f=>?_);obtain⟨oc,S,R⟩:=id z;refine h {s with heap:=h'} ⟨I.ok,I.os,I.bare,⟨λb o e n O B=>?_,λb o e n O B=>?_,I.base.free,λb o e B=>?_,I.base.tups,I.base.frzs,λb l q=>⟨(I.base.tbls b l q).1,λP o e1 C=>let ⟨Y,f2⟩:=(I.base.tbls b l q).2 P o e1 C;⟨Y,(f.2 P (br Y (I.freeC x c t))).trans f2⟩⟩⟩,⟨m,hn.sameBut f (W6 (cne x c t)),λj y v' e1 C e3=>?_⟩,λy P e=>?_,I.free,I.freeC,λp hp=>?_,g ⟨oc,S,I.freeC x c t⟩ f,by simpa using I.len⟩ ⟨c,f,.inr t⟩
   ·exact(f.2 b (VX (VV (VB e) (I.ok.cab x c L t)))).trans (I.base.keep b o e n O B)
   ·obtain⟨sl,e1⟩:=I.base.slot b o e n O B;exact⟨sl,(f.2 b (VX (VV (VB e) (I.ok.cab x c L t)))).trans e1⟩
   ·obtain⟨o',e1⟩:=I.base.there b o e B;exact⟨o',(f.2 b (VX (VV (VB e) (I.ok.cab x c L t)))).trans e1⟩
   · by_cases K:j=i
     ·subst K;rw[hi]at e1;cases e1;rw[Xx J]at C;cases C;exact⟨u,r,.inr ⟨.inl F,c,t,W⟩⟩
     · rw[YE (W6 K)]at C;obtain⟨u',r',q⟩:=hl j y v' e1 C e3;refine⟨u',r',?_⟩;rcases q with q|⟨k,P,e,z'⟩
       ·exact .inl q
       ·refine .inr ⟨k,P,e,z'.sameBut f ?_⟩;rintro rfl;exact K (uU hN e1 (I.ok.inj _ _ _ e t▸hi))
   · by_cases U:P=c
     ·subst U;exact⟨_,W⟩
     ·obtain⟨w2,z2⟩:=I.cell y P e;exact⟨w2,z2.sameBut f U⟩
   ·obtain⟨e,n,ne,nf,d⟩:=I.pin p hp;refine⟨(f.2 p.1 ?_).trans e,n,ne,nf,d⟩;intro q;rw[q,S]at e;have q':oc=p.2:=VO e;exact d w' (by rw[<-q'];exact R)
theorem ni{M:Model}{A:Around}{E:P4}{i:Nat}{x:Str}{v:V}{u:Value}{Q:Unit->Shared->Prop}(I:Inv X G Z H s)(d:X.N.Nodup)(hi:X.N[i]?=some x)(b:Qy X.env.scope x)(r:RelV v u)
 (h:∀a,Inv X G (Z.set i (some v)) H a->Q () a) (c:X.fn x=true\/X.env.scope.names.lookup x=some .local:=by first | exact .inl rfl | exact .inr rfl | assumption):wpAny M A (storeName X.env x u) Q E s:=
 BK I d hi b r (λa e _=>h a e) c
theorem Inv.call'{a:Shared}{ch:List Addr}(I:Inv X G Z H s)(f:a.os=s.os)(u:Un (ym X.stack) ch H H' s.heap a.heap)(hok:HOk X.prog X.w H' a.heap)(g:AllBare a.gens)
 (d:∀b∈ch,(b∈X.ex\/X.s₀.heap.objs.size<=b)/\b≠X.env.locals/\(∀x c,X.env.cells.lookup x=some c->c≠b)/\∀p∈X.pn++G,p.1≠b):Inv X G Z H' a:=by
 obtain⟨h',g',d',t',o'⟩:=a;have e:o'=s.os:=f;subst e;exact I.call (g':=g') (t':=t') (d':=d') u hok g d
end
abbrev XK:=Value->Option Addr->Hp->Prop
abbrev St:=List (Option V)
abbrev VK:=V->Hp->Prop
abbrev TE:=St->Hp->VK->Prop
abbrev TT:=St->Hp->(Bool->Hp->Prop)->Prop
abbrev TA:=St->Hp->(List V->Hp->Prop)->Prop
structure Ends where
 nx:St->Hp->Prop
 rt:VK
 bk:St->Hp->Prop:=λ_ _=>False
 ct:St->Hp->Prop:=λ_ _=>False
abbrev TS:=Ends->St->Hp->Prop
def EP(X:Cx)(G:P1)(Z:St)(Q:VK)(u:Value)(a:Shared):Prop:=∃v H',Inv X G Z H' a/\RelV v u/\Q v H'
def TP(X:Cx)(G:P1)(Z:St)(Q:Bool->Hp->Prop)(b:Bool)(a:Shared):Prop:=∃H',Inv X G Z H' a/\Q b H'
def AP(X:Cx)(G:P1)(Z:St)(Q:List V->Hp->Prop)(us:List Value)(a:Shared):Prop:=∃vs H',Inv X G Z H' a/\Vals vs us/\Q vs H'
def SP(X:Cx)(G:P1)(D:Ends)(f:Flow)(b:Shared):Prop:=
 match f with
 |.next=>∃a H',Inv X G a H' b/\D.nx a H'
 |.brk=>∃a H',Inv X G a H' b/\D.bk a H'
 |.cont=>∃a H',Inv X G a H' b/\D.ct a H'
 |.ret u=>∃v a H',Inv X G a H' b/\RelV v u/\D.rt v H'
def PE(X:Cx)(e:Expr)(t:TE):Prop:=
 ∀(G:P1) (s:Shared) (Z:St) (H:Hp) (Q:VK),Inv X G Z H s->t Z H Q->wpAny (model X.prog X.w) X.A (eval e X.env) (EP X G Z Q) X.xe s
def PT(X:Cx)(e:Expr)(t:TT):Prop:=
 ∀(G:P1) (s:Shared) (Z:St) (H:Hp) (Q:Bool->Hp->Prop),Inv X G Z H s->t Z H Q->wpAny (model X.prog X.w) X.A (isTrue e X.env (eval e X.env)) (TP X G Z Q) X.xe s
def PW(X:Cx)(e:Expr)(t:TT):Prop:=
 ∀(whole:Sem Value) (G:P1) (s:Shared) (Z:St) (H:Hp) (Q:Bool->Hp->Prop),Inv X G Z H s->t Z H Q->wpAny (model X.prog X.w) X.A (isTrue e X.env whole) (TP X G Z Q) X.xe s
theorem PW.pt{X:Cx}{e:Expr}{t:TT}(h:PW X e t):PT X e t:=h _
def PA(X:Cx)(a:List Expr)(t:TA):Prop:=
 ∀(pos:Pos) (G:P1) (s:Shared) (Z:St) (H:Hp) (Q:List V->Hp->Prop),Inv X G Z H s->t Z H Q->wpAny (model X.prog X.w) X.A (spliced (backTo pos (starEach a X.env))) (AP X G Z Q) X.xe s
def PS(X:Cx)(st:Stmt)(t:TS):Prop:=
 ∀(G:P1) (s:Shared) (Z:St) (H:Hp) (D:Ends),Inv X G Z H s->t D Z H->wpAny (model X.prog X.w) X.A (exec st X.env) (SP X G D) X.xe s
def PSs(X:Cx)(st:List Stmt)(t:TS):Prop:=
 ∀(G:P1) (s:Shared) (Z:St) (H:Hp) (D:Ends),Inv X G Z H s->t D Z H->wpAny (model X.prog X.w) X.A (execs st X.env) (SP X G D) X.xe s
theorem bI{W:Type}{t:Sem W}{Q b:W->Shared->Prop}{M:Model}{A:Around}{E:P4}{s:Shared}(h:wpAny M A t Q E s)(c:∀a s,Q a s->b a s):wpAny M A t b E s:=XE h c λ_ _ x=>x
section
variable{X:Cx}
def dD(i:Nat):TE:=λZ H Q=>∃v,Z[i]?=some (some v)/\Q v H
def tC(v:V):TE:=λ_ H Q=>Q v H
theorem M4{i:Nat}{x:Str}{pos:Pos}(p:X.N[i]?=some x)(j:UR X.env.scope x)(hd:(x==("__debug__" : Str))=false:=by decide)(f:(x==("__classdict__" : Str))=false:=by decide):PE X (.Name x pos) (dD i):=by
 intro G s Z H Q I h;obtain⟨v,e,h⟩:=h;obtain⟨m,k,o⟩:=I.loc;obtain⟨u,r,l⟩:=o i x v p e j;have d:EP X G Z Q u s:=⟨v,H,I,r,h⟩;rcases l with ⟨b,n⟩|⟨b,c,g,a⟩
 ·exact wpAny_Name (wpAny_loadName_local I.ok.kind b k n d) hd
 · rcases b with b|b
   ·exact wpAny_Name (wpAny_loadName_cell I.ok.kind b g a d) hd
   ·exact wpAny_Name (wpAny_loadName_free I.ok.kind b g a d f) hd
theorem am{i j pos}:PE X (.Constant (.int i) j pos) (tC (.int i)):=λ_ _ _ H _ I h=>wpAny_Constant_int ⟨.int i,H,I.tok _,⟨_,rfl⟩,h⟩
theorem kl{b j pos}:PE X (.Constant (.bool b) j pos) (tC (.bl b)):=λ_ _ _ H _ I h=>Constant_bool ⟨.bl b,H,I,rfl,h⟩
theorem eh{j pos}:PE X (.Constant .none j pos) (tC .non):=λ_ _ _ H _ I h=>Constant_none ⟨.non,H,I,rfl,h⟩
def Gl(X:Cx)(x:Str):Prop:=X.env.kindOf x=some .globalImplicit
theorem sO{E:P4}{G:P1}{s:Shared}{Z:St}{H:Hp}{x:Str}{u:Value}{pos:Pos}{Q:P4}(I:Inv X G Z H s)(b:Gl X x)(a:X.mg x=some u)(h:Q u s)
 (hd:(x==("__debug__" : Str))=false:=by decide):wpAny (model X.prog X.w) X.A (eval (.Name x pos) X.env) Q E s:=
 XQ I.ok.kind b (Calls.loadGlobal_global (by rw[I.ok.glob];exact I.mod.glob.keeps I.bk) a h) hd
theorem jP{E:P4}{G:P1}{s:Shared}{Z:St}{H:Hp}{x:Str}{u:Value}{pos:Pos}{Q:P4}(I:Inv X G Z H s)(d:Gl X x)(c:X.mg x=none)(a:bootBuiltins x=some u)(h:Q u s)
 (b:x ≠ "__name__" := by decide) (hd:(x==("__debug__" : Str))=false:=by decide):wpAny (model X.prog X.w) X.A (eval (.Name x pos) X.env) Q E s:=by
 obtain⟨g,f,e⟩:=I.mod.blt;exact XQ I.ok.kind d (Calls.loadGlobal_builtin (by rw[I.ok.glob];exact I.mod.glob.keeps I.bk) c (by rw[I.ok.blt];exact f.keeps I.bk) ((e x b).trans a) h) hd
theorem eQ{x:Str}{v:V}{u:Value}{pos:Pos}(b:Gl X x)(a:X.mg x=some u)(r:RelV v u)(hd:(x==("__debug__" : Str))=false:=by decide):PE X (.Name x pos) (tC v):=
 λ_ _ _ H _ I h=>sO I b a ⟨v,H,I,r,h⟩ hd
theorem zV{x:Str}{v:V}{u:Value}{pos:Pos}(d:Gl X x)(c:X.mg x=none)(a:bootBuiltins x=some u)(r:RelV v u)(b:x ≠ "__name__" := by decide)(hd:(x==("__debug__" : Str))=false:=by decide):PE X (.Name x pos) (tC v):=
 λ_ _ _ H _ I h=>jP I d c a ⟨v,H,I,r,h⟩ b hd
variable{a b:Expr}{ta tb:TE}{pos:Pos}
def PC(X:Cx)(op:CmpOp)(a b:Expr)(t:TE):Prop:=
 ∀(G:P1) (s:Shared) (Z:St) (H:Hp) (Q:VK),Inv X G Z H s->t Z H Q->
  wpAny (model X.prog X.w) X.A (eval a X.env) (λv d=>wpAny (model X.prog X.w) X.A (eval b X.env) (λu c=>wpAny (model X.prog X.w) X.A (compareOp op v u) (EP X G Z Q) X.xe c) X.xe d) X.xe s
theorem uW(b:Expr){op:CmpOp}(h:op≠ .In)(a:op≠ .NotIn):behindInMarks op b=false:=by
 have e1:(op == CmpOp.In)=false:=by cases op <;> first | rfl | exact absurd rfl h
 have c:(op == CmpOp.NotIn)=false:=by cases op <;> first | rfl | exact absurd rfl a
 cases b<;>simp[behindInMarks,e1,c]
def tB(t:TE):TT:=λZ H Q=>t Z H λx H1=>∃c,x=.bl c/\Q c H1
theorem M6{op:CmpOp}{t:TE}(h:PC X op a b t)(d:behindInMarks op b=false:=by first | exact uW _ (by decide) (by decide) | rfl):PE X (.Compare a [op] [b] pos) t:=λG s Z H Q I c=>wpAny_Compare1 (h G s Z H Q I c) d
theorem sn{op:CmpOp}{t:TE}(h:PC X op a b t)(e:behindInMarks op b=false:=by first | exact uW _ (by decide) (by decide) | rfl):PT X (.Compare a [op] [b] pos) (tB t):=by
 intro G s Z H Q I i;refine wpAny_isTrue_Compare1 (bI (h G s Z H _ I i) λv m e=>bI e λu s2 j=>bI j λc l ⟨x,H1,k,f,g⟩=>?_) e;obtain⟨d,rfl,q⟩:=g;cases f;exact WH ⟨H1,k,q⟩
theorem Ez{e:Expr}{t:TE}(h:PE X e t)(f:∀whole,isTrue e X.env whole=(do let v <-whole;standAt e.pos;holding [v] (truthy v)):=by intro _;rfl):PT X e (tB t):=by
 intro G s Z H Q I c;refine isTrue_plain (bI (h G s Z H _ I c) λv i ⟨x,H1,g,a,b⟩=>?_) (f _);obtain⟨d,rfl,q⟩:=b;cases a;exact WH ⟨H1,g,q⟩
variable{tA tB':TT}{bJ:List Expr}
def QO(t u:TT):TT:=λZ H Q=>t Z H λc H1=>if c=true then u Z H1 Q else Q false H1
def tOr(t u:TT):TT:=λZ H Q=>t Z H λc H1=>if c=true then Q true H1 else u Z H1 Q
def QI(t:TT):TT:=λZ H Q=>t Z H λc H1=>Q (!c) H1
theorem mW(b:PT X a tA):PW X (.BoolOp .And [a] pos) tA:=by
 intro d G s Z H Q I h;refine isTrue_and (bI (b G s Z H Q I h) λc f e=>?_);cases c with
 |true=>exact isTrue_and_nil e
 |false=>exact e
theorem sj(b:PT X a tA):PW X (.BoolOp .Or [a] pos) tA:=by
 intro d G s Z H Q I h;refine isTrue_or (bI (b G s Z H Q I h) λc f e=>?_);cases c with
 |false=>exact isTrue_or_nil e
 |true=>exact e
theorem sk(j:PT X a tA)(i:PW X (.BoolOp .And (b::bJ) pos) tB'):PW X (.BoolOp .And (a::b::bJ) pos) (QO tA tB'):=by
 intro f G s Z H Q I h;refine isTrue_and (bI (j G s Z H _ I h) λc g ⟨H1,e,d⟩=>?_);cases c with
 |true=>exact i f G g Z H1 Q e d
 |false=>exact⟨H1,e,d⟩
theorem qF(j:PT X a tA)(i:PW X (.BoolOp .Or (b::bJ) pos) tB'):PW X (.BoolOp .Or (a::b::bJ) pos) (tOr tA tB'):=by
 intro f G s Z H Q I h;refine isTrue_or (bI (j G s Z H _ I h) λc g ⟨H1,e,d⟩=>?_);cases c with
 |true=>exact⟨H1,e,d⟩
 |false=>exact i f G g Z H1 Q e d
theorem MX(b:PT X a tA):PT X (.UnaryOp .Not a pos) (QI tA):=by
 intro G s Z H Q I h;exact isTrue_not (b G s Z H (λc H1=>Q (!c) H1) I h)
def Dp(ta tb:TE):TE:=λZ H Q=>ta Z H λx H1=>∃c,x=.bl c/\if c=true then tb Z H1 Q else Q (.bl false) H1
def KH(ta:TE):TE:=λZ H Q=>ta Z H λx H1=>∃c,x=.bl c/\Q (.bl (!c)) H1
theorem xn{op}{t:TE}(h:PE X a t):PE X (.BoolOp op [a] pos) t:=λG s Z H Q I b=>BoolOp_one (h G s Z H Q I b)
theorem xo(j:PE X a ta)(i:PE X (.BoolOp .And (b::bJ) pos) tb):PE X (.BoolOp .And (a::b::bJ) pos) (Dp ta tb):=by
 intro G s Z H Q I h;refine BoolOp_and (bI (j G s Z H _ I h) λv f ⟨x,H1,e,g,d⟩=>?_);obtain⟨c,rfl,d⟩:=d;cases g;refine WH ?_;cases c with
 |true=>exact i G f Z H1 Q e d
 |false=>exact⟨.bl false,H1,e,rfl,d⟩
theorem EK(e:PE X a ta):PE X (.UnaryOp .Not a pos) (KH ta):=by
 intro G s Z H Q I h;refine UnaryOp_ (bI (e G s Z H _ I h) λv g ⟨x,H1,f,d,b⟩=>?_);obtain⟨c,rfl,b⟩:=b;cases d;exact not_of (WH ⟨.bl (!c),H1,f,rfl,b⟩)
end
def SqL(K:F0)(H:Hp)(a:Addr)(xs:List V):Prop:=
 Rd H a (.lst xs)\/
  ∃(o:Obj) (its:Array Value) (n:Nat),K.lookup a=some o/\o.cls=.type "list" /\ o.dict=none/\o.data=.seq its n/\its.size<=sizeLine/\Vals xs its.toList
def SqT(K:F0)(H:Hp)(a:Addr)(xs:List V):Prop:=
 Rd H a (.tup xs)\/
  ∃(o:Obj) (its:Array Value) (n:Nat),K.lookup a=some o/\o.cls=.type "tuple" /\ o.data=.seq its n/\its.size<=sizeLine/\Vals xs its.toList
def Vh:Value->Option V
 |.none=>some .non
 |.bool b=>some (.bl b)
 |.int i _=>some (.int i)
 |.str x _=>some (.str x)
 |.bytes b _=>some (.byt b)
 |.float b _=>some (.flt b)
 |.ref a=>some (.ref a)
 |.type n=>some (.ty n)
 |_=>none
theorem RelV.abs{x:V}{u:Value}(r:RelV x u):Vh u=some x:=by
 cases x with
 |non=>cases r;rfl
 |bl _=>cases r;rfl
 |int _=>obtain⟨t,rfl⟩:=r;rfl
 |str _=>obtain⟨t,rfl⟩:=r;rfl
 |byt _=>obtain⟨t,rfl⟩:=r;rfl
 |flt _=>obtain⟨t,rfl⟩:=r;rfl
 |ref _=>cases r;rfl
 |ty _=>cases r;rfl
theorem RelV.inj{x y:V}{u:Value}(r:RelV x u)(q:RelV y u):x=y:=VO (r.abs.symm.trans q.abs)
theorem Vals.inj:∀{xs a:List V} {us:List Value},Vals xs us->Vals a us->xs=a
 |_,_,_,.nil,.nil=>rfl
 |_,_,_,.cons r t,.cons b t'=>by rw[r.inj b,Vals.inj t t']
section
variable{X:Cx}{G:P1}{Z:St}{H:Hp}{s:Shared}{a:Addr}{xs ys:List V}
theorem SqL.of{K:F0}(h:H a=some (.lst xs)):SqL K H a xs:=.inl (.inl h)
theorem SqT.of{K:F0}(h:H a=some (.tup xs)):SqT K H a xs:=.inl (.inl h)
theorem Inv.list(I:Inv X G Z H s)(h:SqL X.K H a xs):∃its:List Value,Vals xs its/\PlainL s.heap a its.toArray/\xs.length<=sizeLine:=by
 rcases h with h|⟨o,its,n,c,d,hd,b,hz,r⟩
 ·obtain⟨z,its,n,r,e⟩:=h.ok I.hok;exact⟨its,r,⟨_,n,e,rfl,rfl,rfl⟩,z⟩
 ·refine⟨its.toList,r,⟨o,n,I.kIn a o c,d,hd,by simpa using b⟩,?_⟩;have e:=r.length;simp only[V8]at e;omega
theorem Inv.tuple(I:Inv X G Z H s)(h:SqT X.K H a xs):∃its:List Value,Vals xs its/\IsTup s.heap a its.toArray/\xs.length<=sizeLine:=by
 rcases h with h|⟨o,its,n,c,d,b,hz,r⟩
 ·obtain⟨z,its,r,p⟩:=h.ok I.hok;exact⟨its,r,p,z⟩
 ·refine⟨its.toList,r,⟨o,I.kIn a o c,d,n,by simpa using b⟩,?_⟩;have e:=r.length;simp only[V8]at e;omega
theorem Inv.list_inj(I:Inv X G Z H s)(h:SqL X.K H a xs)(h':SqL X.K H a ys):xs=ys:=by
 obtain⟨its,r,⟨o,n,e,_,_,d⟩,_⟩:=I.list h;obtain⟨its',c,⟨o',g,b,_,_,d'⟩,_⟩:=I.list h';rw[e]at b;cases b;rw[d]at d';injection d' with f _
 have:its=its':=by simpa using congrArg Array.toList f
 subst this;exact r.inj c
end
abbrev Cx.wish(X:Cx)(E:P4):Cx:={X with xe:=E}
abbrev Cx.nox(X:Cx):Cx:=X.wish λ_ _=>False
theorem Cx.Ok.wish{X:Cx}(ok:X.Ok)(E:P4):(X.wish E).Ok:=
 ⟨ok.mod,ok.kind,ok.glob,ok.blt,ok.above,ok.inj,ok.has,ok.cab,ok.hd,ok.frames,ok.stk,ok.exf,ok.bs,ok.bsz,ok.noex,ok.exfs,ok.funs,ok.frf⟩
theorem Cx.Ok.unwish{X:Cx}{E:P4}(ok:(X.wish E).Ok):X.Ok:=
 ⟨ok.mod,ok.kind,ok.glob,ok.blt,ok.above,ok.inj,ok.has,ok.cab,ok.hd,ok.frames,ok.stk,ok.exf,ok.bs,ok.bsz,ok.noex,ok.exfs,ok.funs,ok.frf⟩
section
variable{X:Cx}{G:P1}{Z:St}{H:Hp}{s:Shared}{E:P4}
theorem Inv.wish(I:Inv X G Z H s)(E:P4):Inv (X.wish E) G Z H s:=⟨I.ok.wish E,I.os,I.bare,I.base,I.loc,I.cell,I.free,I.freeC,I.pin,I.hok,I.len⟩
theorem Inv.unwish(I:Inv (X.wish E) G Z H s):Inv X G Z H s:=⟨I.ok.unwish,I.os,I.bare,I.base,I.loc,I.cell,I.free,I.freeC,I.pin,I.hok,I.len⟩
theorem SP.unwish{D:Ends}{f:Flow}{b:Shared}(h:SP (X.wish E) G D f b):SP X G D f b:=by
 cases f with
 |next=>obtain⟨a,H',I,q⟩:=h;exact⟨a,H',I.unwish,q⟩
 |brk=>obtain⟨a,H',I,q⟩:=h;exact⟨a,H',I.unwish,q⟩
 |cont=>obtain⟨a,H',I,q⟩:=h;exact⟨a,H',I.unwish,q⟩
 |ret u=>obtain⟨v,a,H',I,r,q⟩:=h;exact⟨v,a,H',I.unwish,r,q⟩
theorem PSs.nox{st:List Stmt}{t:TS}(h:PSs X.nox st t):PSs X st t:=λG s Z H D I a=>
 XE (h G s Z H D (I.wish _) a) (λ_ _ q=>q.unwish) λ_ _ z=>False.elim z
end
section
variable{X:Cx}{st:Stmt}{bJ:List Stmt}{t u:TS}{e:Expr}{te:TE}{pos:Pos}
def KJ:TS:=λD Z H=>D.nx Z H
def QH(t u:TS):TS:=λD Z H=>t {D with nx:=u D} Z H
theorem bo:PSs X [] KJ:=λ_ _ Z H _ I h=>Xr ⟨Z,H,I,h⟩
theorem ac(d:PS X st t)(c:PSs X bJ u):PSs X (st::bJ) (QH t u):=by
 intro G s Z H D I h;refine wpAny_execs_cons (bI (d G s Z H {D with nx:=u D} I h) λf b q=>?_);cases f with
 |next=>
   obtain⟨a,H',e,q⟩:=q;exact c G b a H' D e q
 |ret v=>exact q
 |brk=>exact q
 |cont=>exact q
theorem ag(a:PS X st t):PSs X [st] t:=by
 intro G s Z H D I h;refine wpAny_execs_cons (bI (a G s Z H D I h) λf b q=>?_);cases f with
 |next=>exact Xr q
 |ret v=>exact q
 |brk=>exact q
 |cont=>exact q
theorem Inv.quiet{G:P1}{Z:St}{H:Hp}{s:Shared}(I:Inv X G Z H s):interactive X.env=false:=by simp[interactive,I.ok.kind]
def KM(te:TE):TS:=λD Z H=>te Z H λ_ H1=>D.nx Z H1
theorem az(c:PE X e te)(b:swapsWith e none pos.line X.env=pure false:=by rfl):PS X (.Expr e pos) (KM te):=by
 intro G s Z H D I h;exact wpAny_Expr_any (bI (c G s Z H _ I h) λv f ⟨x,H1,d,g,a⟩=>⟨Z,H1,d,a⟩) I.quiet b
def L1(te:TE):TS:=λD Z H=>te Z H D.rt
theorem aZ(c:PE X e te):PS X (.Return (some e) pos) (L1 te):=by
 intro G s Z H D I h;exact wpAny_Return_some (bI (c G s Z H _ I h) λv f ⟨x,H1,d,a,b⟩=>⟨x,Z,H1,d,a,b⟩)
def KF:TS:=λD _ H=>D.rt .non H
theorem Ja:PS X (.Return none pos) KF:=λ_ _ Z H _ I h=>wpAny_Return_none ⟨.non,Z,H,I,rfl,h⟩
def QK(c:TT)(t u:TS):TS:=λD Z H=>c Z H λb H1=>if b=true then t D Z H1 else u D Z H1
theorem bY{c:Expr}{a b:List Stmt}{e:TT}(j:PT X c e)(l:PSs X a t)(k:PSs X b u):PS X (.If c a b pos) (QK e t u):=by
 intro G s Z H D I h;refine wpAny_If (bI (j G s Z H _ I h) λd f ⟨H1,i,g⟩=>?_);cases d with
 |true=>exact l G f Z H1 D i g
 |false=>exact k G f Z H1 D i g
def De:TS:=λ_ _ _=>False
theorem c7:PS X st De:=λ_ _ _ _ _ _ h=>h.elim
end
abbrev TG:=V->St->Hp->(St->Hp->Prop)->Prop
abbrev Qo:=List V->St->Hp->(St->Hp->Prop)->Prop
def PG(X:Cx)(a:Expr)(t:TG):Prop:=
 ∀(G:P1) (s:Shared) (Z:St) (H:Hp) (v:V) (u:Value) (Q:St->Hp->Prop),Inv X G Z H s->RelV v u->t v Z H Q->
  wpAny (model X.prog X.w) X.A (assign a X.env u) (λ_ c=>∃b H',Inv X G b H' c/\Q b H') X.xe s
def UT(X:Cx)(b:List Expr)(t:Qo):Prop:=
 ∀(G:P1) (s:Shared) (Z:St) (H:Hp) (vs:List V) (us:List Value) (Q:St->Hp->Prop),Inv X G Z H s->Vals vs us->t vs Z H Q->
  wpAny (model X.prog X.w) X.A (assignInOrder ((assignEach b X.env).map (·.2)) us) (λ_ c=>∃a H',Inv X G a H' c/\Q a H') X.xe s
abbrev Qn:=V->V->V->Hp->(Hp->Prop)->Prop
def Uv(X:Cx)(t:Qn):Prop:=
 ∀(G:P1) (s:Shared) (Z:St) (H:Hp) (o i v:V) (ov a u:Value) (Q:Hp->Prop),Inv X G Z H s->RelV o ov->RelV i a->RelV v u->t o i v H Q->
  wpAny (model X.prog X.w) X.A (setItem ov a u) (λ_ b=>∃H',Inv X G Z H' b/\Q H') X.xe s
abbrev US:=V->V->Hp->VK->Prop
def PIp(X:Cx)(op:Operator)(t:US):Prop:=
 ∀(G:P1) (s:Shared) (Z:St) (H:Hp) (x y:V) (v u:Value) (Q:VK),Inv X G Z H s->RelV x v->RelV y u->t x y H Q->
  wpAny (model X.prog X.w) X.A (inplaceOp op v u) (EP X G Z Q) X.xe s
section
variable{X:Cx}{pos:Pos}
def fE(i:Nat):TG:=λv Z H Q=>Q (Z.set i (some v)) H
theorem cc{i:Nat}{x:Str}(c:X.N.Nodup)(hi:X.N[i]?=some x)(a:Qy X.env.scope x)(b:X.fn x=true\/X.env.scope.names.lookup x=some .local:=by first | exact .inl rfl | exact .inr rfl | assumption):PG X (.Name x pos) (fE i):=by
 intro G s Z H v u Q I r h;exact wpAny_assign_Name (ni I c hi a r (λe d=>⟨_,H,d,h⟩) b)
def Tg:Qo:=λvs Z H Q=>vs=[]/\Q Z H
def GC(t:TG)(u:Qo):Qo:=λvs Z H Q=>∃v r,vs=v::r/\t v Z H λa H'=>u r a H' Q
theorem zT:UT X [] Tg:=by
 intro G s Z H vs us Q I r h;obtain⟨e,h⟩:=h;subst e;cases r;exact assignInOrder_nil ⟨Z,H,I,h⟩
theorem ki{e:Expr}{a:List Expr}{t:TG}{u:Qo}(j:PG X e t)(i:UT X a u)
 (g:(assignEach (e::a) X.env).map (·.2)=assign e X.env::(assignEach a X.env).map (·.2):=by rfl):UT X (e::a) (GC t u):=by
 intro G s Z H vs us Q I r h;obtain⟨v,vr,e1,h⟩:=h;subst e1;cases r with
 |cons r d=>
   rw[g];refine assignInOrder_cons (bI (j G s Z H _ _ _ I r h) λ_ c ⟨b,H1,k,f⟩=>?_);exact i G c b H1 _ _ Q k d f
def Te(K:F0)(n:Nat)(t:Qo):TG:=λv Z H Q=>∃a xs,v=.ref a/\SqT K H a xs/\xs.length=n/\t xs Z H Q
theorem EG{c:List Expr}{k:Nat}{t:Qo}{n:Nat}(q:X.calm=true)(h:UT X c t)
 (m:(assignEach c X.env).length=n:=by rfl) (f:(assignEach c X.env).findIdx? (·.1)=none:=by rfl):PG X (.Tuple c k pos) (Te X.K n t):=by
 intro G s Z H v u Q I r d;obtain⟨a,xs,e1,l,p,d⟩:=d;subst e1;cases r;obtain⟨its,g,j,hz⟩:=I.tuple l;refine assign_Tuple_tuple (I.ok.hd q) j (by simp[m,<-p,g.length]) f λh' i=>?_;have w:Inv X G Z H {s with heap:=h'}:=I.kept (t':=s.toks) λb o e=>i b o (VX (VB e)) e;exact h G _ Z H xs _ Q w (by simpa using g) d
def Tf(to a:TE)(t:Qn):TG:=λv Z H Q=>to Z H λo H1=>a Z H1 λi c=>t o i v c λb=>Q Z b
theorem EH{o i:Expr}{to b:TE}{t:Qn}(l:PE X o to)(hi:PE X i b)(k:Uv X t)
 (m:∀v,assign (.Subscript o i pos) X.env v=(do
   let ov <-holding [v] (eval o X.env)
   let a <-holding [v,ov] (eval i X.env)
   standAt pos
   holding [v,ov,a] (setItem ov a v)
   release [v,ov,a] []):=by intro _;rfl):PG X (.Subscript o i pos) (Tf to b t):=by
 intro G s Z H v u Q I r h;rw[m];refine Vp (WQ (bI (l G s Z H _ I h) λov c ⟨x,H1,q,e,j⟩=>?_));refine Vp (WQ (bI (hi G c Z H1 _ q j) λa s2 ⟨y,z,p,d,g⟩=>?_));refine Vp (X7 (Vp (WQ (bI (k G s2 Z z x y v ov a u _ p e d r g) λ_ A ⟨w,n,f⟩=>?_))));exact wpAny_release ⟨Z,w,n,f⟩
def wU(te:TE)(g:TG):TS:=λD Z H=>te Z H λx H1=>g x Z H1 D.nx
theorem EB{a e:Expr}{te:TE}{g:TG}(k:PE X e te)(j:PG X a g)(i:swapsWithSole [a] e pos.line X.env=pure false:=by rfl)(f:swappedStores [a] e X.env=pure none:=by rfl)
 (l:(assignEach [a] X.env).map (·.2)=[assign a X.env]:=by rfl):PS X (.Assign [a] e pos) (wU te g):=by
 intro G s Z H D I h;refine wpAny_Assign_stores (bI (k G s Z H _ I h) λv b ⟨x,H1,m,c,d⟩=>?_) i f;rw[l];exact bI (j G b Z H1 x v _ m c d) λ_ s2 q=>q
theorem aR{i:Nat}{x:Str}{e:Expr}{te:TE}{a:Pos}(k:X.N.Nodup)(hi:X.N[i]?=some x)(d:Qy X.env.scope x)(j:PE X e te)(f:swapsWith e (some (.Name x a)) pos.line X.env=pure false:=by rfl)(g:X.fn x=true\/X.env.scope.names.lookup x=some .local:=by first | exact .inl rfl | exact .inr rfl | assumption):
 PS X (.Assign [.Name x a] e pos) (wU te (fE i)):=by
 intro G s Z H D I h;refine wpAny_Assign_Name (bI (j G s Z H _ I h) λv n ⟨y,H1,m,b,c⟩=>?_) f;exact ni m k hi d b (λs2 l=>⟨_,H1,l,c⟩) g
def QN(i:Nat)(te:TE)(a:US):TS:=λD Z H=>∃x,Z[i]?=some (some x)/\te Z H λy H1=>a x y H1 λz b=>D.nx (Z.set i (some z)) b
theorem MY{i:Nat}{x:Str}{e:Expr}{te:TE}{op:Operator}{o:US}{g:Pos}(P:X.N.Nodup)(hi:X.N[i]?=some x)(n:Qy X.env.scope x)(M:PE X e te)(E:PIp X op o)(L:X.fn x=true\/X.env.scope.names.lookup x=some .local:=by first | exact .inl rfl | exact .inr rfl | assumption):
 PS X (.AugAssign (.Name x g) op e pos) (QN i te o):=by
 intro G s Z H D I h;obtain⟨v,e1,h⟩:=h;obtain⟨m,F,K⟩:=I.loc;have j:UR X.env.scope x:=by rcases n with k|k;exact .inl k;exact .inr (.inl k)
 obtain⟨u,r,l⟩:=K i x v hi e1 j;refine wpAny_AugAssign_Name ?_
 have go:wpAny (model X.prog X.w) X.A (eval e X.env) (λw f=>wpAny (model X.prog X.w) X.A (inplaceOp op u w) (λr d=>wpAny (model X.prog X.w) X.A (storeName X.env x r) (λ_=>SP X G D .next) X.xe d) X.xe f) X.xe s:=by
  refine bI (M G s Z H _ I h) λw p ⟨y,H1,S,t,C⟩=>?_;refine bI (E G p Z H1 v y u w _ S r t C) λz s2 ⟨U,T,R,q,B⟩=>?_;exact ni R P hi n q (λV Q=>⟨_,T,Q,B⟩) L
 rcases l with ⟨a,J⟩|⟨a,c,O,b⟩
 ·exact wpAny_loadName_local I.ok.kind a F J go
 · rcases a with a|a
   ·exact wpAny_loadName_cell I.ok.kind a O b go
   · rcases n with k|k
     · have:X.env.scope.names.lookup x=some .free:=a
       rw[k]at this;cases this
     · have:X.env.scope.names.lookup x=some .free:=a
       rw[k]at this;cases this
def ipI(f:Int->Int->Int):US:=λx y H Q=>∃i j,x=.int i/\y=.int j/\Q (.int (f i j)) H
theorem O4:PIp X .Add (ipI λi j=>i+j):=by
 intro G s Z H x y v u Q I b a h;obtain⟨i,j,e1,c,q⟩:=h;subst e1;subst c;obtain⟨t,rfl⟩:=b;obtain⟨t',rfl⟩:=a;exact iadd_int ⟨.int _,H,I.tok _,⟨_,rfl⟩,q⟩
end
section
variable{X:Cx}{pos:Pos}
def Dd(c:TT)(tb:TS):TS:=λD Z H=>∃W:Nat->St->Hp->Prop,(∃m,W m Z H)/\∀m Z H,W m Z H->
 c Z H λb H1=>if b=true then ∃N:St->Hp->Prop,(∀a H',N a H'->∃d,d<m/\W d a H')/\tb {D with nx:=N,ct:=N,bk:=D.nx} Z H1 else D.nx Z H1
theorem uK{c:Expr}{body:List Stmt}{r:TT}{tb:TS}(hp:PassesOwn (model X.prog X.w) X.A X.env X.xe)(F:PT X c r)(J:PSs X body tb):PS X (.While c body [] pos) (Dd r tb):=by
 intro G s Z H D I h;obtain⟨W,⟨E,z⟩,g⟩:=h;refine wpAny_While (codeAny_whileLoop (λn C=>∃e H',Inv X G e H' C/\W n e H') ?_ E ⟨Z,H,I,z⟩);rintro n B ⟨d,H1,K,y⟩;refine Wj hp (bI (F G B d H1 _ K (g n d H1 y)) λb s2 ⟨x,u,k⟩=>?_);cases b with
 |true=>
   obtain⟨N,t,k⟩:=k;rw[Vq rfl];refine Wj hp (bI (J G s2 d x _ u k) λf L j=>?_);cases f with
   |next=>
     obtain⟨a,i,q,m⟩:=j;obtain⟨o,p,l⟩:=t a i m;exact⟨o,p,a,i,q,l⟩
   |cont=>
     obtain⟨a,i,q,m⟩:=j;obtain⟨o,p,l⟩:=t a i m;exact⟨o,p,a,i,q,l⟩
   |brk=>exact j
   |ret v=>exact j
 |false=>
   rw[on VD];exact Xr ⟨d,x,u,k⟩
end
structure It where
 go:Nat->Hp->Prop
 yld:Nat->Hp->V->Hp->Prop
 stop:Nat->Hp->Prop
def qi(X:Cx)(G:P1)(H:Hp)(b:Addr):Prop:=
 H b=none/\b≠X.env.locals/\b∉X.fs/\(b∈X.ex\/X.s₀.heap.objs.size<=b)/\(∀x c,X.env.cells.lookup x=some c->c≠b)/\∀p∈X.pn++G,p.1≠b
theorem Inv.fpOk{X:Cx}{G:P1}{Z:St}{H H':Hp}{s:Shared}{b:Addr}(I:Inv X G Z H s)(a:s.heap.objs.size<=b)(d:H' b=none):qi X G H' b:=by
 refine⟨d,Nat.ne_of_gt (VV I.lt a),I.nofs a,.inr (VW I.sz a),λx c e z=>?_,λp hp z=>?_⟩
 ·obtain⟨v,q⟩:=I.cell x c e;exact absurd (VV q.lt (by rw[z];exact a)) (Wm _)
 ·exact absurd (VV (VB (I.pin p hp).1) (by rw[z];exact a)) (Wm _)
structure Turn (P:Program) (w:World) (K:F0) (tg:Expr) (J:It) (fp:List Addr) (it:Addr) (tn:Nat->Heap->Prop):Prop where
 mem:it∈fp
 obj:∀i h,tn i h->∀b∈fp,∃o,h.get? b=some o/\∀v,o.data≠ .cell v
 keep:∀i h h',tn i h->(∀b∈fp,∀o,h.get? b=some o->h'.get? b=some o)->tn i h'
 item:∀(X:Cx),X.prog=P->X.w=w->X.K=K->X.calm=true->∀(i:Nat) (G:P1) (s:Shared) (Z:St) (H:Hp) (E:P4),Inv X G Z H s->(∀b∈fp,qi X G H b)->tn i s.heap->J.go i H->
  wpAny (model P w) X.A (pyNext (.ref it)) (λr s1=>∃u,r=some u/\
   wpAny (model P w) X.A (letOwnedTupleGo tg (.ref it) u) (λ_ s2=>∃x H',Inv X G Z H' s2/\RelV x u/\J.yld i H x H'/\tn (i+1) s2.heap/\∀b∈fp,H' b=none) E s1) E s
 done:∀(X:Cx),X.prog=P->X.w=w->X.K=K->X.calm=true->∀(i:Nat) (G:P1) (s:Shared) (Z:St) (H:Hp) (E:P4),Inv X G Z H s->(∀b∈fp,qi X G H b)->tn i s.heap->J.stop i H->
  wpAny (model P w) X.A (pyNext (.ref it)) (λr s1=>r=none/\Inv X G Z H s1) E s
 self:∀(A:Around) (i:Nat) (s:Shared) (Q:P4) (E:P4),tn i s.heap->Q (.ref it) s->wpAny (model P w) A (pyIter (.ref it)) Q E s
abbrev TI:=St->Hp->(It->Hp->Prop)->Prop
def PIE(X:Cx)(G:P1)(Z:St)(f:Expr)(R:It->Hp->Prop)(a:Value)(s2:Shared):Prop:=
 ∃(d:Addr) (e:List Addr) (c:Nat->Heap->Prop) (J:It) (H':Hp),a=.ref d/\Inv X G Z H' s2/\Turn X.prog X.w X.K f J e d c/\c 0 s2.heap/\(∀b∈e,qi X G H' b)/\R J H'
def PI(X:Cx)(b iter:Expr)(a:TI):Prop:=
 ∀(G:P1) (s:Shared) (Z:St) (H:Hp) (R:It->Hp->Prop),Inv X G Z H s->a Z H R->
  wpAny (model X.prog X.w) X.A (eval iter X.env) (λv c=>wpAny (model X.prog X.w) X.A (pyIter v) (PIE X G Z b R) X.xe c) X.xe s
theorem Aw{M:Model}{A:Around}{E:P4}{s:Shared}{b:Expr}{c:Addr}{u:Value}{o:Obj}{n:String}{vs:Array Value}{Q:Unit->Shared->Prop}(d:s.heap.get? c=some o)(f:o.cls=.type n)(hd:o.data=.fields vs)
 (e:["enumerate","zip","dict_itemiterator","dict_reverseitemiterator","odict_iterator","itertools.zip_longest","itertools.pairwise"].contains n=false) (a:Q () s):wpAny M A (letOwnedTupleGo b (.ref c) u) Q E s:=by
 unfold letOwnedTupleGo
 cases b <;> first
  |exact Vz a
  | (cases u <;> first
      |exact Vz a
      | (refine Vp (wpAny_load d ?_)
         rw[f,hd];show wpAny M A (if (["enumerate","zip","dict_itemiterator","dict_reverseitemiterator","odict_iterator","itertools.zip_longest","itertools.pairwise"].contains n&&vs[0]?==some (rawInt _))=true then _ else _) Q E s;rw[on (by intro h;rw[e,Bool.false_and]at h;cases h)]
         exact Vz a))
def Vm(K:F0)(a:Addr):It:=
 ⟨λi H=>∃xs x,SqL K H a xs/\xs[i]?=some x,λi H x H'=>H'=H/\∀xs,SqL K H a xs->xs[i]?=some x,λi H=>∃xs,SqL K H a xs/\xs.length<=i⟩
def Uz(lo:Int)(n:Nat):It:=⟨λi _=>i<n,λi H x H'=>H'=H/\x=.int (lo+i),λi _=>n<=i⟩
theorem BH{P:Program}{w:World}{K:F0}{M:Expr}(a f:Addr):Turn P w K M (Vm K a) [f] f (λi h=>h.IsListIter f a i) where
 mem:=by simp
 obj:=λi h st b g=>by
  have e:b=f:=by simpa using g
  subst e;obtain⟨o,e,c,d⟩:=st;exact⟨o,e,λv z=>by rw[d]at z;cases z⟩
 keep:=λi h h' st k=>st.at λo e=>k f (by simp) o e
 item:=by
  intro X y r A L i G s Z H E I m st t;subst y r A;obtain⟨xs,x,l,q⟩:=t;obtain⟨its,n,p,hz⟩:=I.list l;obtain⟨u,R,O⟩:=n.get q;obtain⟨J,F,S,D,C,B⟩:=m f (by simp);refine wpAny_pyNext_list_item st p.isList (x:=u) (by simpa using R) λh' j N=>?_;have U:Inv X G Z H {s with heap:=h'}:=I.turned (t':=s.toks) (λb o g e=>(N.2 b g).trans e) J F D C B;obtain⟨o,e,c,d⟩:=id j;exact⟨u,rfl,Aw (s:={s with heap:=h'}) e c d (by decide) ⟨x,H,U,O,⟨rfl,λV Q=>by rw[I.list_inj Q l];exact q⟩,j,λb g=>(m b g).1⟩⟩
 done:=by
  intro X y r A L i G s Z H E I m st t;subst y r A;obtain⟨xs,l,q⟩:=t;obtain⟨its,n,p,hz⟩:=I.list l;obtain⟨J,F,S,D,C,B⟩:=m f (by simp);have Y:=n.length;exact wpAny_pyNext_list_end (I.ok.hd L) st p.isList (by simp;omega) λh' T=>⟨rfl,I.turned (t':=s.toks) (λb o g e=>T b o g e) J F D C B⟩
 self:=λ_ _ _ _ _ st h=>wpAny_pyIter_listiter st h
theorem wR{P:Program}{w:World}{K:F0}{C:Expr}(a:Addr)(lo:Int)(n:Nat):Turn P w K C (Uz lo n) [a] a (λi h=>IsRangeIter h a (lo+(i:Nat)*1) ((n:Int)-(i:Nat)) 1) where
 mem:=by simp
 obj:=λi h st b c=>by
  have e:b=a:=by simpa using c
  subst e
  exact⟨_,st,λv z=>by
   have B:Data.fields _=Data.cell v:=z
   cases B⟩
 keep:=λi h h' st k=>k a (by simp) _ st
 item:=by
  intro X m g p l i G s Z H E I f st j;subst m g p;obtain⟨y,x,J,u,r,q⟩:=f a (by simp);have W:=Walks.range (prog:=X.prog) (w:=X.w) (I.ok.hd l) a lo 1 n;refine W.item i s _ _ j st λv h' A F d D=>?_;obtain⟨t,rfl⟩:=F;have M:Inv X G Z H {s with heap:=h',toks:=A}:=I.turned (λb o c e=>D b o (by simpa using c) e) y x u r q;refine⟨_,rfl,Aw (s:={s with heap:=h',toks:=A}) (n := "range_iterator") d rfl rfl (by decide) ⟨.int (lo+i),H,M,⟨t,?_⟩,⟨rfl,rfl⟩,d,λb c=>(f b c).1⟩⟩;rw[Int.mul_one]
 done:=by
  intro X m g p l i G s Z H E I f st j;subst m g p;obtain⟨y,x,J,u,r,q⟩:=f a (by simp);exact wpAny_pyNext_range_end (I.ok.hd l) st (by have:n<=i:=j;omega) λh' L=>⟨rfl,I.turned (t':=s.toks) (λb o c e=>L b o c e) y x u r q⟩
 self:=λ_ _ _ _ _ st h=>wpAny_pyIter_rangeiter st h
section
variable{X:Cx}{tg:Expr}
def vh(K:F0)(b:TE):TI:=λZ H R=>b Z H λx H1=>∃a,x=.ref a/\(∃xs,SqL K H1 a xs)/\R (Vm K a) H1
theorem Jf{l:Expr}{f:TE}(k:PE X l f):PI X tg l (vh X.K f):=by
 intro G s Z H R I h;refine bI (k G s Z H _ I h) λv c ⟨x,H1,d,g,i⟩=>?_;obtain⟨a,e,⟨xs,j⟩,q⟩:=i;subst e;cases g;obtain⟨its,n,p,hz⟩:=d.list j;refine Xy p.isList ?_;refine⟨c.heap.objs.size,[c.heap.objs.size],_,_,H1,rfl,d.kept (t':=c.toks) λb o e=>Vv _ e,BH a _,⟨_,VN _ rfl,rfl,rfl⟩,λb m=>?_,q⟩;have e:b=c.heap.objs.size:=by simpa using m
 subst e;exact d.fpOk (VE _) (d.hok.fresh (VE _))
theorem uH{G:P1}{Z:St}{H:Hp}{s:Shared}{R:It->Hp->Prop}{E:P4}{lo hi:Int}{t u v:Tok}{a:Nat}(I:Inv X G Z H s)(i:-(2 ^ 62)<=lo)(h:lo<2 ^ 62)(g:-(2 ^ 62)<=hi)(f:hi<2 ^ 62)
 (q:R (Uz lo (hi-lo).toNat) H):wpAny (model X.prog X.w) X.A (pyIter (.ref s.heap.objs.size)) (PIE X G Z tg R) E {s with heap:=s.heap.push {cls:=.type "range",data:=.fields #[.int lo t,.int hi u,.int 1 v]},toks:=a}:=by
 refine wpAny_pyIter_range (IsRange.new ..) (small_one i h g f) ?_;have c:Inv X G Z H {s with heap:=s.heap.push {cls:=.type "range",data:=.fields #[.int lo t,.int hi u,.int 1 v]},toks:=a}:=I.kept λb o e=>Vv _ e
 refine⟨(s.heap.push {cls:=.type "range",data:=.fields #[.int lo t,.int hi u,.int 1 v]}).objs.size,[(s.heap.push {cls:=.type "range",data:=.fields #[.int lo t,.int hi u,.int 1 v]}).objs.size],_,_,H,rfl,
  c.kept (t':=a) λb o e=>Vv _ e,wR _ lo (hi-lo).toNat,?_,λb d=>?_,q⟩
 · have e1:lo+((0:Nat):Int)*1=lo:=by simp
   have j:(((hi-lo).toNat:Nat):Int)-((0:Nat):Int)=Builtin.Range.rangeSize lo hi 1:=by rw[rangeSize_one];split<;>omega
   show IsRangeIter _ _ (lo+((0:Nat):Int)*1) ((((hi-lo).toNat:Nat):Int)-((0:Nat):Int)) 1;rw[e1,j];exact VN _ rfl
 · have e:b=(s.heap.push {cls:=.type "range",data:=.fields #[.int lo t,.int hi u,.int 1 v]}).objs.size:=by simpa using d
   subst e;exact c.fpOk (VE _) (c.hok.fresh (VE _))
def LA(a:TA):TI:=λZ H R=>a Z H λvs H1=>∃j:Int,vs=[.int j]/\-(2 ^ 62)<=j/\j<2 ^ 62/\R (Uz 0 j.toNat) H1
def Lz(a:TA):TI:=λZ H R=>a Z H λvs H1=>∃i j:Int,vs=[.int i,.int j]/\(-(2 ^ 62)<=i/\i<2 ^ 62/\-(2 ^ 62)<=j/\j<2 ^ 62)/\R (Uz i (j-i).toNat) H1
theorem d9{a:Expr}{c:TA}{p pos:Pos}(l:Gl X "range")(k:X.mg "range" = none)(m:PA X [a] c)(i:starEach [a] X.env=[(false,eval a X.env)]:=by rfl):PI X tg (.Call (.Name "range" p) [a] [] pos) (LA c):=by
 intro G s Z H R I h;refine Call_ (jP I l k boot_range (WP (bI (m pos G s Z H _ I h) λus o ⟨vs,H1,n,f,b⟩=>?_) i rfl));obtain⟨j,e,b,g,q⟩:=b;subst e;cases f with
 |cons r d=>
   cases d;obtain⟨t,rfl⟩:=r;exact call_range_1 (uH n (by omega) (by omega) b g (by simpa using q))
theorem qK{a b:Expr}{g:TA}{p pos:Pos}(w:Gl X "range")(v:X.mg "range" = none)(x:PA X [a,b] g)(u:starEach [a,b] X.env=[(false,eval a X.env),(false,eval b X.env)]:=by rfl)(c:starEach [b] X.env=[(false,eval b X.env)]:=by rfl):
 PI X tg (.Call (.Name "range" p) [a,b] [] pos) (Lz g):=by
 intro G s Z H R I h;refine Call_ (jP I w v boot_range (WP (bI (x pos G s Z H _ I h) λus z ⟨vs,H1,y,k,f⟩=>?_) (by rw[u,c]) (by rw[c];rfl)));obtain⟨i,j,e,⟨f,o,n,m⟩,q⟩:=f;subst e;cases k with
 |cons r d=>
   cases d with
   |cons l d=>
     cases d;obtain⟨t,rfl⟩:=r;obtain⟨t',rfl⟩:=l;exact call_range_2 (uH y f o n m q)
def QL(d:TI)(g:TG)(tb:TS):TS:=λD Z H=>d Z H λJ H1=>∃W:Nat->Nat->St->Hp->Prop,(∃m,W 0 m Z H1)/\∀i m Z H,W i m Z H->
 (J.stop i H/\D.nx Z H)\/(J.go i H/\∃N:St->Hp->Prop,(∀a H',N a H'->∃c,c<m/\W (i+1) c a H')/\∀x H',J.yld i H x H'->g x Z H' λb e=>tb {D with nx:=N,ct:=N,bk:=D.nx} b e)
def nA(a:List Addr)(h:Heap):P1:=a.filterMap λb=>(h.get? b).map λo=>(b,o)
theorem g9{a:List Addr}{h:Heap}{b:Addr}{o:Obj}(c:b∈a)(e:h.get? b=some o):(b,o)∈nA a h:=List.mem_filterMap.mpr ⟨b,c,by rw[e];rfl⟩
theorem Ca{a:List Addr}{h:Heap}{p:Addr×Obj}(hp:p∈nA a h):p.1∈a/\h.get? p.1=some p.2:=by
 obtain⟨b,c,e⟩:=List.mem_filterMap.mp hp;cases q:h.get? b with
 |none=>rw[q]at e;cases e
 |some o=>
   rw[q]at e;have d:(b,o)=p:=VO e;subst d;exact⟨c,q⟩
theorem Inv.pinned{G:P1}{Z:St}{H:Hp}{s:Shared}{a:List Addr}(I:Inv X G Z H s)(h:∀b∈a,qi X G H b)(g:∀b∈a,∃o,s.heap.get? b=some o/\∀v,o.data≠ .cell v):Inv X (G++nA a s.heap) Z H s:=
 I.pins_of λp hp=>(VH.mp hp).elim (λz=>I.pin p (Vt _ z)) λz=>by
  obtain⟨c,e⟩:=Ca z;obtain⟨k,j,i,_⟩:=h p.1 c;obtain⟨o,f,d⟩:=g p.1 c;rw[e]at f;cases f;exact⟨e,k,j,i,d⟩
theorem Inv.unpinned{G pl:P1}{Z:St}{H:Hp}{s:Shared}(I:Inv X (G++pl) Z H s):Inv X G Z H s:=I.pins_of λp hp=>I.pin p (Vt _ (VC _ hp))
theorem ft{iter:Expr}{body:List Stmt}{Y:TI}{g:TG}{tb:TS}{pos:Pos}(hp:PassesOwn (model X.prog X.w) X.A X.env X.xe)(hc:X.calm=true)(hi:PI X tg iter Y)(hg:PG X tg g)(l:PSs X body tb)
 (hs:∀x,foldedSetIterable iter X.env x=pure x:=by intro _;rfl):PS X (.For tg iter body [] pos) (QL Y g tb):=by
 intro G s Z H D I h;refine wpAny_For (bI (hi G s Z H _ I h) λv s1 h1=>bI h1 λitv s2 h2=>?_) hs;obtain⟨it,L,tn,J,H2,e,I2,T,Q,f2,W,⟨m0,w0⟩,B⟩:=h2;subst e
 -- what P true of the y E through the loop
 have k:∀{H':Hp},(∀b∈L,H' b=none)->∀b∈L,qi X G H' b:=λhn b l=>⟨hn b l,(f2 b l).2⟩;refine codeAny_forLoop_any (λn s'=>∃i j H',Inv X G j H' s'/\tn i s'.heap/\(∀b∈L,H' b=none)/\W i n j H') ?_ m0 ⟨0,Z,H2,I2,Q,λb l=>(f2 b l).1,w0⟩;rintro n s3 ⟨i,c,M,I3,C,K,w3⟩;rcases B i n c M w3 with ⟨stop,qn⟩|⟨go,N,hN,step⟩
 ·refine Wj hp (bI (T.done X rfl rfl rfl hc i G s3 c M X.xe I3 (k K) C stop) λr s4 ⟨S,I4⟩=>?_);subst S;exact Xr ⟨c,M,I4,qn⟩
 · refine Wj hp (bI (T.item X rfl rfl rfl hc i G s3 c M X.xe I3 (k K) C go) λr s4 ⟨u,S,h4⟩=>?_);subst S;refine Wj hp (bI h4 λ_ s5 ⟨x,H5,I5,r5,y5,z,U⟩=>?_);have V:=I5.pinned (k U) (T.obj _ _ z);refine Wj hp (bI (hg _ s5 c H5 x u _ V r5 (step x H5 y5)) λ_ s6 ⟨O,H6,I6,q6⟩=>?_);refine Wj hp (bI (l _ s6 O H6 _ I6 q6) λf R t=>?_)
   have again:∀{a:St} {q:Hp},Inv X (G++nA L s5.heap) a q R->N a q->∃m,m<n/\∃i j H',Inv X G j H' R/\tn i R.heap/\(∀b∈L,H' b=none)/\W i m j H':=λ{a q} p F=>by
    obtain⟨m',hm,w7⟩:=hN a q F;refine⟨m',hm,i+1,a,q,p.unpinned,T.keep _ _ _ z λb l o e=>(p.pin (b,o) (Vt _ (Vt _ (g9 l e)))).1,λb l=>?_,w7⟩;obtain⟨o,e,d⟩:=T.obj _ _ z b l;exact(p.pin (b,o) (Vt _ (Vt _ (g9 l e)))).2.1
   cases f with
   |next=>obtain⟨a,q,p,F⟩:=t;exact again p F
   |cont=>obtain⟨a,q,p,F⟩:=t;exact again p F
   |brk=>obtain⟨a,q,p,t⟩:=t;exact⟨a,q,p.unpinned,t⟩
   |ret v=>obtain⟨x7,a,q,p,r7,t⟩:=t;exact⟨x7,a,q,p.unpinned,r7,t⟩
end
abbrev R2:=V->V->Hp->VK->Prop
def lj(X:Cx)(f:Value->Value->Sem Value)(r:R2):Prop:=
 ∀(G:P1) (s:Shared) (Z:St) (H:Hp) (x y:V) (v u:Value) (Q:VK),Inv X G Z H s->RelV x v->RelV y u->r x y H Q->
  wpAny (model X.prog X.w) X.A (f v u) (EP X G Z Q) X.xe s
def Vi(X:Cx)(f:Value->Sem Value)(r:V->Hp->VK->Prop):Prop:=
 ∀(G:P1) (s:Shared) (Z:St) (H:Hp) (x:V) (v:Value) (Q:VK),Inv X G Z H s->RelV x v->r x H Q->
  wpAny (model X.prog X.w) X.A (f v) (EP X G Z Q) X.xe s
def dR(X:Cx)(f:Value)(r:List V->Hp->VK->Prop):Prop:=
 ∀(G:P1) (s:Shared) (Z:St) (H:Hp) (xs:List V) (us:List Value) (Q:VK),Inv X G Z H s->Vals xs us->r xs H Q->
  wpAny (model X.prog X.w) X.A (call f us) (EP X G Z Q) X.xe s
def Ic(r:R2)(a tb:TE):TE:=λZ H Q=>a Z H λx H1=>tb Z H1 λy b=>r x y b Q
def tUn(r:V->Hp->VK->Prop)(a:TE):TE:=λZ H Q=>a Z H λx H1=>r x H1 Q
def rI(C:Int->Int->Prop)(g:Int->Int->V):R2:=λx y H Q=>∃i j,x=.int i/\y=.int j/\C i j/\Q (g i j) H
def zR(g:Int->Int->V):R2:=λx y H Q=>∃i j,x=.int i/\y=.int j/\Q (g i j) H
def rU(g:Int->V):V->Hp->VK->Prop:=λx H Q=>∃i,x=.int i/\Q (g i) H
section
variable{X:Cx}{a b c:Expr}{ta tb tc:TE}{pos:Pos}
theorem Qb(o:PE X a ta)(n:PE X b tb){G:P1}{s:Shared}{Z:St}{H:Hp}{R:V->V->Hp->Prop}(I:Inv X G Z H s)
 (h:ta Z H λx H1=>tb Z H1 λy c=>R x y c) {Q:P4} {f:Value->Value->Sem Value}
 (m:∀v u s2 x y c,Inv X G Z c s2->RelV x v->RelV y u->R x y c->wpAny (model X.prog X.w) X.A (f v u) Q X.xe s2):
 wpAny (model X.prog X.w) X.A (eval a X.env) (λv e=>wpAny (model X.prog X.w) X.A (eval b X.env) (λu d=>wpAny (model X.prog X.w) X.A (f v u) Q X.xe d) X.xe e) X.xe s:=by
 refine bI (o G s Z H _ I h) λv g ⟨x,H1,q,j,l⟩=>?_;refine bI (n G g Z H1 _ q l) λu s2 ⟨y,c,p,i,k⟩=>?_;exact m v u s2 x y c p j i k
theorem aJ{op:Operator}{r:R2}(e:lj X (binaryOp op) r)(g:PE X a ta)(f:PE X b tb):PE X (.BinOp a op b pos) (Ic r ta tb):=by
 intro G s Z H Q I h;exact wpAny_BinOp (Qb g f I h λv u s2 x y j i d c q=>e G s2 Z j x y v u Q i d c q)
theorem K8{op:UnaryOp}{r:V->Hp->VK->Prop}(e:Vi X (unaryOp op) r)(f:PE X a ta):PE X (.UnaryOp op a pos) (tUn r ta):=by
 intro G s Z H Q I h;exact UnaryOp_ (bI (f G s Z H _ I h) λv b ⟨x,H1,g,c,d⟩=>e G b Z H1 x v Q g c d)
theorem UG{f:Value->Value->Sem Value}{C:Int->Int->Prop}{g:Int->Int->Int}
 (rule:∀(i j:Int) (t u:Tok) (s:Shared) (Q:P4) (E:P4),C i j->Q (.int (g i j) s.toks) {s with toks:=s.toks+1}->wpAny (model X.prog X.w) X.A (f (.int i t) (.int j u)) Q E s):
 lj X f (rI C λi j=>.int (g i j)):=by
 intro G s Z H x y v u Q I b a h;obtain⟨i,j,rfl,rfl,c,q⟩:=h;obtain⟨t,rfl⟩:=b;obtain⟨t',rfl⟩:=a;exact rule i j t t' s _ _ c ⟨.int (g i j),H,I.tok _,⟨_,rfl⟩,q⟩
theorem Ru{f:Value->Value->Sem Value}{g:Int->Int->Int}
 (rule:∀(i j:Int) (t u:Tok) (s:Shared) (Q:P4) (E:P4),Q (.int (g i j) s.toks) {s with toks:=s.toks+1}->wpAny (model X.prog X.w) X.A (f (.int i t) (.int j u)) Q E s):
 lj X f (zR λi j=>.int (g i j)):=by
 intro G s Z H x y v u Q I b a h;obtain⟨i,j,rfl,rfl,q⟩:=h;obtain⟨t,rfl⟩:=b;obtain⟨t',rfl⟩:=a;exact rule i j t t' s _ _ ⟨.int (g i j),H,I.tok _,⟨_,rfl⟩,q⟩
theorem Nm{f:Value->Value->Sem Value}{g:Int->Int->Bool}
 (rule:∀(i j:Int) (t u:Tok) (s:Shared) (Q:P4) (E:P4),Q (.bool (g i j)) s->wpAny (model X.prog X.w) X.A (f (.int i t) (.int j u)) Q E s):
 lj X f (zR λi j=>.bl (g i j)):=by
 intro G s Z H x y v u Q I b a h;obtain⟨i,j,rfl,rfl,q⟩:=h;obtain⟨t,rfl⟩:=b;obtain⟨t',rfl⟩:=a;exact rule i j t t' s _ _ ⟨.bl (g i j),H,I,rfl,q⟩
def Qq(i j:Int):Prop:=0<j/\j<1073741824
def CMul(i j:Int):Prop:=(-(2 ^ 64)<i/\i<2 ^ 64)\/(-(2 ^ 64)<j/\j<2 ^ 64)
theorem CMul.ok{i j:Int}(h:CMul i j):IntMulOk i j:=by
 rcases h with ⟨b,a⟩|⟨b,a⟩
 ·exact .of_left (intBits_le_64 b a)
 ·exact .of_right (intBits_le_64 b a)
theorem wQ(k:Nat):(0:Int)<=2 ^ k:=by
 rw[two_pow_cast];exact Int.natCast_nonneg _
theorem gw:lj X (binaryOp .Add) (zR λi j=>.int (i+j)):=Ru λ_ _ _ _ _ _ _ q=>add_int q
theorem nD:lj X (binaryOp .Sub) (zR λi j=>.int (i-j)):=Ru λ_ _ _ _ _ _ _ q=>sub_int q
theorem nE:lj X (binaryOp .Mult) (rI CMul λi j=>.int (i*j)):=UG λ_ _ _ _ _ _ _ a q=>mul_int q a.ok
theorem cD:lj X (binaryOp .FloorDiv) (rI Qq λi j=>.int (i / j)):=UG λi j _ _ _ _ _ a q=>by
 have c:(0:Int)<j:=a.1;have b:j<1073741824:=a.2;exact floordiv_int (by omega) (by rw[XR i (by omega)];exact q) (.inl (PyProof.noPylong_small (by omega)))
theorem bE:lj X (binaryOp .Mod) (rI (λ_ j=>0<j) λi j=>.int (i%j)):=UG λi j _ _ _ _ _ a q=>by
 have b:(0:Int)<j:=a;exact mod_int' (by omega) (by rw[Int.fmod_eq_emod_of_nonneg i (by omega)];exact q)
theorem Nh:lj X (binaryOp .RShift) (rI (λ_ j=>0<=j) λi j=>.int (i / 2 ^ j.toNat)):=UG λi j _ _ _ _ _ a q=>
 rshift_int a (by rw[XR i (wQ _)];exact q)
theorem unI{f:Value->Sem Value}{g:Int->Int}
 (rule:∀(i:Int) (t:Tok) (s:Shared) (Q:P4) (E:P4),Q (.int (g i) s.toks) {s with toks:=s.toks+1}->wpAny (model X.prog X.w) X.A (f (.int i t)) Q E s):
 Vi X f (rU λi=>.int (g i)):=by
 intro G s Z H x v Q I a h;obtain⟨i,rfl,q⟩:=h;obtain⟨t,rfl⟩:=a;exact rule i t s _ _ ⟨.int (g i),H,I.tok _,⟨_,rfl⟩,q⟩
theorem Da:Vi X (unaryOp .USub) (rU λi=>.int (-i)):=unI λ_ _ _ _ _ q=>neg_int q
end
def Mc:V->V->Bool
 |.non,.non=>true | .non,.int _=>true | .int _,.non=>true | .non,.bl _=>true | .bl _,.non=>true | .non,.str _=>true | .str _,.non=>true
 |.int _,.int _=>true | .bl _,.bl _=>true | .str _,.str _=>true | .byt _,.byt _=>true
 |.int _,.str _=>true | .str _,.int _=>true | .bl _,.str _=>true | .str _,.bl _=>true
 |_,_=>false
def rEq:R2:=λx y H Q=>Mc x y=true/\Q (.bl (decide (x=y))) H
def rNe:R2:=λx y H Q=>Mc x y=true/\Q (.bl (!decide (x=y))) H
theorem AF{i j:Int}:decide (V.int i=V.int j)=(i==j):=by
 rw[XG];simp
theorem GX{i j:Bool}:decide (V.bl i=V.bl j)=(i==j):=by
 rw[XG];simp
theorem AE{i j:Str}:decide (V.str i=V.str j)=(i==j):=by
 rw[XG];simp
theorem AG{i j:Array UInt8}:decide (V.byt i=V.byt j)=(i.toList==j.toList):=by
 rw[XG];cases i;cases j;simp
section
variable{X:Cx}{a b c:Expr}{ta tb tc:TE}{pos:Pos}
theorem bA{G:P1}{Z:St}{H:Hp}{s:Shared}{Q:VK}{k k':Bool}(I:Inv X G Z H s)(q:Q (.bl k) H)(e:k=k'):EP X G Z Q (.bool k') s:=by
 subst e;exact⟨.bl k,H,I,rfl,q⟩
theorem qM:lj X (compareOp .Eq) rEq:=by
 intro G s Z H x y v u Q I c a h;obtain⟨b,q⟩:=h;cases x with
 |non=>
   cases c;cases y with
   |non=>cases a;exact PySem.EqNone.eq_none_none (bA I q (by simp))
   |bl j=>cases a;exact PySem.EqNone.eq_none_bool (bA I q (by simp))
   |int j=>obtain⟨t',rfl⟩:=a;exact PySem.EqNone.eq_none_int (bA I q (by simp))
   |str j=>obtain⟨t',rfl⟩:=a;exact PySem.EqNone.eq_none_str (bA I q (by simp))
   |_=>exact absurd (show false=true from b) VD
 |bl i=>
   cases c;cases y with
   |non=>cases a;exact PySem.EqNone.eq_bool_none (bA I q (by simp))
   |bl j=>cases a;exact eq_bool (bA I q GX)
   |str j=>obtain⟨t',rfl⟩:=a;exact PySem.EqMixed.eq_bool_str (bA I q (by simp))
   |_=>exact absurd (show false=true from b) VD
 |int i=>
   obtain⟨t,rfl⟩:=c;cases y with
   |non=>cases a;exact PySem.EqNone.eq_int_none (bA I q (by simp))
   |int j=>obtain⟨t',rfl⟩:=a;exact eq_int (bA I q AF)
   |str j=>obtain⟨t',rfl⟩:=a;exact PySem.EqMixed.eq_int_str (bA I q (by simp))
   |_=>exact absurd (show false=true from b) VD
 |str i=>
   obtain⟨t,rfl⟩:=c;cases y with
   |non=>cases a;exact PySem.EqNone.eq_str_none (bA I q (by simp))
   |bl j=>cases a;exact PySem.EqMixed.eq_str_bool (bA I q (by simp))
   |int j=>obtain⟨t',rfl⟩:=a;exact PySem.EqMixed.eq_str_int (bA I q (by simp))
   |str j=>obtain⟨t',rfl⟩:=a;exact eq_str (bA I q AE)
   |_=>exact absurd (show false=true from b) VD
 |byt i=>
   obtain⟨t,rfl⟩:=c;cases y with
   |byt j=>obtain⟨t',rfl⟩:=a;exact PySem.W.eq_bytes (bA I q AG)
   |_=>exact absurd (show false=true from b) VD
 |_=>cases y<;>exact absurd (show false=true from b) VD
theorem zY:lj X (compareOp .NotEq) rNe:=by
 intro G s Z H x y v u Q I c a h;obtain⟨b,q⟩:=h;cases x with
 |non=>
   cases c;cases y with
   |non=>cases a;exact PySem.EqNone.ne_none_none (bA I q (by simp))
   |bl j=>cases a;exact PySem.EqNone.ne_none_bool (bA I q (by simp))
   |int j=>obtain⟨t',rfl⟩:=a;exact PySem.EqNone.ne_none_int (bA I q (by simp))
   |str j=>obtain⟨t',rfl⟩:=a;exact PySem.EqNone.ne_none_str (bA I q (by simp))
   |_=>exact absurd (show false=true from b) VD
 |bl i=>
   cases c;cases y with
   |non=>cases a;exact PySem.EqNone.ne_bool_none (bA I q (by simp))
   |bl j=>cases a;exact ne_bool (bA I q (congrArg not GX))
   |str j=>obtain⟨t',rfl⟩:=a;exact PySem.EqMixed.ne_bool_str (bA I q (by simp))
   |_=>exact absurd (show false=true from b) VD
 |int i=>
   obtain⟨t,rfl⟩:=c;cases y with
   |non=>cases a;exact PySem.EqNone.ne_int_none (bA I q (by simp))
   |int j=>obtain⟨t',rfl⟩:=a;exact ne_int (bA I q (congrArg not AF))
   |str j=>obtain⟨t',rfl⟩:=a;exact PySem.EqMixed.ne_int_str (bA I q (by simp))
   |_=>exact absurd (show false=true from b) VD
 |str i=>
   obtain⟨t,rfl⟩:=c;cases y with
   |non=>cases a;exact PySem.EqNone.ne_str_none (bA I q (by simp))
   |bl j=>cases a;exact PySem.EqMixed.ne_str_bool (bA I q (by simp))
   |int j=>obtain⟨t',rfl⟩:=a;exact PySem.EqMixed.ne_str_int (bA I q (by simp))
   |str j=>obtain⟨t',rfl⟩:=a;exact ne_str (bA I q (congrArg not AE))
   |_=>exact absurd (show false=true from b) VD
 |byt i=>
   obtain⟨t,rfl⟩:=c;cases y with
   |byt j=>obtain⟨t',rfl⟩:=a;exact PySem.W.ne_bytes (bA I q (congrArg not AG))
   |_=>exact absurd (show false=true from b) VD
 |_=>cases y<;>exact absurd (show false=true from b) VD
theorem kq:lj X (compareOp .Lt) (zR λi j=>.bl (decide (i<j))):=Nm λ_ _ _ _ _ _ _ q=>lt_int q
theorem nF:lj X (compareOp .Gt) (zR λi j=>.bl (decide (j<i))):=Nm λ_ _ _ _ _ _ _ q=>gt_int q
theorem Rt:lj X (compareOp .GtE) (zR λi j=>.bl (decide (j<=i))):=Nm λ_ _ _ _ _ _ _ q=>ge_int q
theorem sF:lj X (compareOp .Is) (λx y H Q=>y=.non/\Q (.bl (decide (x=.non))) H):=by
 intro G s Z H x y v u Q I a b h;obtain⟨rfl,q⟩:=h;cases b;refine is_none_gen (bA I q ?_)
 cases x <;> first
  |(cases a;rfl)
  |(obtain⟨t,rfl⟩:=a;rfl)
theorem bf(b:Expr){op:CmpOp}(h:op≠ .In:=by decide)(a:op≠ .NotIn:=by decide):behindInMarks op b=false:=by
 have e1:(op == CmpOp.In)=false:=by cases op <;> first | rfl | exact absurd rfl h
 have c:(op == CmpOp.NotIn)=false:=by cases op <;> first | rfl | exact absurd rfl a
 cases b<;>simp[behindInMarks,e1,c]
theorem zU{op:CmpOp}{r:R2}(e:lj X (compareOp op) r)(i:PE X a ta)(g:PE X b tb)(f:behindInMarks op b=false):PE X (.Compare a [op] [b] pos) (Ic r ta tb):=by
 intro G s Z H Q I h;exact wpAny_Compare1 (Qb i g I h λv u s2 x y k j d c q=>e G s2 Z k x y v u Q j d c q) f
def KE(t:TE):TT:=λZ H Q=>t Z H λx H'=>∃k,x=.bl k/\Q k H'
theorem aK{op:CmpOp}{r:R2}(n:lj X (compareOp op) r)(q:PE X a ta)(p:PE X b tb)(o:behindInMarks op b=false):PT X (.Compare a [op] [b] pos) (KE (Ic r ta tb)):=by
 intro G s Z H Q I h
 refine wpAny_isTrue_Compare1 (bI (q G s Z H _ I h) λv d ⟨x,H1,A,i,m⟩=>bI (p G d Z H1 _ A m) λu s2 ⟨y,C,w,g,l⟩=>
  bI (n G s2 Z C x y v u _ w i g l) λc D ⟨z,B,t,f,k,e,j⟩=>?_) o
 subst e;cases f;exact WH ⟨B,t,j⟩
theorem sM:(sizeLine:Nat)<2 ^ 63:=by rw[YG];decide
theorem zc{x:V}{us:List Value}(r:Vals [x] us):∃u,us=[u]/\RelV x u:=by
 cases r with
 |cons b a=>cases a;exact⟨_,rfl,b⟩
theorem C8{x y:V}{us:List Value}(r:Vals [x,y] us):∃u a,us=[u,a]/\RelV x u/\RelV y a:=by
 cases r with
 |cons e d=>
   cases d with
   |cons c b=>cases b;exact⟨_,_,rfl,e,c⟩
theorem js(b:X.calm=true):dR X (.builtin "max") (λxs H Q=>∃i j,xs=[.int i,.int j]/\Q (.int (if j>i then j else i)) H):=by
 intro G s Z H xs us Q I r h;obtain⟨i,j,rfl,q⟩:=h;obtain⟨u,c,rfl,⟨t,rfl⟩,⟨t',rfl⟩⟩:=C8 r;refine max_two_ints (I.ok.hd b) λh' d k=>⟨_,H,I.kept k,?_,q⟩;by_cases a:j>i
 ·rw[Vq a,Vq a];exact⟨_,rfl⟩
 ·rw[on a,on a];exact⟨_,rfl⟩
theorem jr(b:X.calm=true):dR X (.builtin "min") (λxs H Q=>∃i j,xs=[.int i,.int j]/\Q (.int (if j<i then j else i)) H):=by
 intro G s Z H xs us Q I r h;obtain⟨i,j,rfl,q⟩:=h;obtain⟨u,c,rfl,⟨t,rfl⟩,⟨t',rfl⟩⟩:=C8 r;refine min_two_ints (I.ok.hd b) λh' d k=>⟨_,H,I.kept k,?_,q⟩;by_cases a:j<i
 ·rw[Vq a,Vq a];exact⟨_,rfl⟩
 ·rw[on a,on a];exact⟨_,rfl⟩
end
structure ObjM (h:Heap) (x dx C:Addr) (mA:Str->Option Value):Prop where
 obj:h.get? x=some (PySem.W.instObj C dx)
 ns:h.Ns1 dx mA
 ne:dx≠x
theorem Cp{h:Heap}{dx:Addr}{d:Str->Option Value}(n:h.Ns1 dx d):∃c,h.get? dx=some c/\∀name,PySem.W.lookIn name c=some (d name):=by
 obtain⟨o,f,ep,i,hd,k,_,j⟩:=n;refine⟨o,i,λname=>?_⟩;have e:=j name;unfold nsFind findBy at e;rw[<-Array.find?_toList]at e;unfold PySem.W.lookIn;rw[hd];dsimp only;split
 ·rename_i y q;rw[q]at e;exact congrArg some e
 · rename_i q;rw[q]at e
   have a:f.toList.any (·.refKey)=false:=by
    rw[List.any_eq_false];intro y g;obtain⟨z,t,b⟩:=k y (XF.mp g);simp[DictEntry.refKey,b]
   have l:¬ f.toList.any (·.refKey)=true:=by rw[a];exact VD
   rw[on l];exact congrArg some e
theorem ObjM.look{h:Heap}{x dx C:Addr}{b:Str->Option Value}(I:ObjM h x dx C b):∃a,PySem.W.InstAt h x (PySem.W.instObj C dx) C (some a)/\∀name,PySem.W.lookIn name a=some (b name):=
 let ⟨a,c,d⟩:=Cp I.ns
 ⟨a,⟨I.obj,rfl,rfl,c⟩,d⟩
section
variable{prog:Program}{w:World}{A:Around}{E:P4}{s:Shared}{K:F0}{x dx C f:Addr}{mA:Str->Option Value}{name:Str}{v:Value}
theorem JK{a:Bool}{Q:P4}(X:K.In s.heap)(I:ObjM s.heap x dx C mA)(f:PySem.W.plainGet K C name=true)(e:PySem.W.hasDictIn K C=true)
 (g:PySem.W.findIn K (.ref C) name=some none) (c:mA name=some v) (b:PySem.W.handedIn v=true) (h:Q v {s with toks:=s.toks+1}):
 wpAny (model prog w) A (getAttr (.ref x) name a) Q E s:=by
 obtain⟨i,J,d⟩:=I.look;exact PySem.W.get_value X J (XI f).1 (PySem.W.findObj_own e g rfl (by rw[d,c])) b h
theorem Gz{pl:Sem Bool}{Q:Value×List Value->Shared->Prop}(X:K.In s.heap)(I:ObjM s.heap x dx C mA)(a:PySem.W.plainGet K C name=true)
 (g:PySem.W.findIn K (.ref C) name=some (some (.ref f))) (d:PySem.W.isFn K (.ref f)=true) (c:mA name=none) (h:Q (.ref f,[.ref x]) s):
 wpAny (model prog w) A (getMethod (.ref x) name pl) Q E s:=by
 obtain⟨b,J,e⟩:=I.look;exact PySem.W.method_fn X J (XI a).1 (XI a).2 g (XS.mp d) (by show(PySem.W.lookIn name b).map (·.isSome)=some false;rw[e,c];rfl) h
theorem IR{ns:List Str}{Q:Unit->Shared->Prop}(X:K.In s.heap)(I:ObjM s.heap x dx C mA)
 (m:PySem.W.findIn K (.ref C) "__setattr__" = some (some (.builtin "object.__setattr__"))) (hp:PySem.W.plainOver K C=true) (l:PySem.W.takerIn K C name=some none) (n:PySem.W.hasDictIn K C=true)
 (k:PySem.Within mA ns) (hsz:ns.length<=sizeLine)
 (h:∀h',ObjM h' x dx C (λy=>if y=name then some v else mA y)->Heap.SameBut dx s.heap h'->Q () {s with heap:=h',toks:=s.toks+2}):
 wpAny (model prog w) A (setAttr (.ref x) name v) Q E s:=by
 obtain⟨t,J,z⟩:=I.look;refine PySem.W.set_plain X J m (PySem.W.osa_open (s:={s with toks:=s.toks+1}) (r:=none) X J hp l λb=>?_);obtain⟨B,o,g⟩:=PySem.W.any_some n;have j:s.heap.get? x=some ⟨.ref C,some dx,.plain,#[]⟩:=I.obj;refine Vp (Vz (Vp (Vp (wpAny_loadPart j (Vp (PySem.W.Looks.here (s:={s with toks:=s.toks+1}) (PySem.W.looks_clsIn X o) ?_))))));rw[g];refine Vz (a:=some dx) (Vp (Vz (Vp ?_)));refine wpAny_nsSet1 (s:={s with toks:=s.toks+1}) I.ns λh' d c=>?_;obtain⟨u,p,q,e,f,i⟩:=d.count (PySem.Within.cons name v k);refine Vp (wpAny_lookBehind e (by rw[f];exact pastItsLine_dict (VW i (by rw[Vx];omega))) ?_);exact Vz (h _ ⟨(c.2 _ (W6 I.ne)).trans I.obj,d,I.ne⟩ c)
theorem FW{R:Result->Shared->Prop}{vs:List Value}{a:List (Str×Value)}(X:K.In s.heap)(b:PySem.W.makesIn K C=true)
 (hi:PySem.W.findIn K (.ref C) "__init__" = some (some (.ref f))) (c:PySem.W.typeIn K (.ref f)=some (.type "function"))
 (h:codeAny (model prog w) (A.under (.builtin "type.__call__" ⟨.ref C::vs,a⟩)) (.call (.ref f) ⟨.ref (s.heap.objs.size+1)::vs,a⟩) (PySem.W.InitBack (s.heap.objs.size+1) R)
   {s with heap:=(s.heap.push PySem.W.emptyDict).push (PySem.W.instObj C s.heap.objs.size)}):
 codeAny (model prog w) A (.call (.ref C) ⟨vs,a⟩) R s:=by
 obtain⟨e,g,d,t,os⟩:=s;exact PySem.W.make_core (PySem.W.makes_of X b) (PySem.W.looks_findIn X hi) (λself=>PySem.W.bind_fn X self c) (.inl rfl) h
end
def fQ(f:Str)(v:V):List (Str×V)->List (Str×V)
 |[]=>[(f,v)]
 |(g,x)::r=>if g=f then (g,v)::r else (g,x)::fQ f v r
theorem mj(f g:Str)(v:V):∀fs:List (Str×V),(fQ f v fs).lookup g=if g=f then some v else fs.lookup g
 | []=>by
   show List.lookup g [(f,v)]=_;by_cases h:g=f
   ·have a:(g==f)=true:=XS.mpr h;simp only[List.lookup,a,Vq h]
   ·have a:(g==f)=false:=V7.mpr h;simp only[List.lookup,a,on h]
 | (k,x)::r=>by
   have c:=mj f g v r;rw[show fQ f v ((k,x)::r)=(if k=f then (k,v)::r else (k,x)::fQ f v r) from rfl];by_cases b:k=f
   · rw[Vq b];by_cases h:g=k
     ·have a:(g==k)=true:=XS.mpr h;simp only[List.lookup,a,Vq (h.trans b)]
     ·have a:(g==k)=false:=V7.mpr h;simp only[List.lookup,a,on (λe:g=f=>h (e.trans b.symm))]
   · rw[on b];by_cases h:g=k
     ·have a:(g==k)=true:=XS.mpr h;simp only[List.lookup,a,on (λe:g=f=>b (h.symm.trans e))]
     ·have a:(g==k)=false:=V7.mpr h;simp only[List.lookup,a];exact c
theorem lL(f:Str)(v:V):∀fs:List (Str×V),f∈(fQ f v fs).map (·.1)/\∀g,g∈fs.map (·.1)->g∈(fQ f v fs).map (·.1)
 |[]=>⟨by simp[fQ],λg h=>by simp at h⟩
 | (k,x)::r=>by
   obtain⟨c,b⟩:=lL f v r;rw[show fQ f v ((k,x)::r)=(if k=f then (k,v)::r else (k,x)::fQ f v r) from rfl];by_cases a:k=f
   ·rw[Vq a];subst a;exact⟨by simp,λg h=>by simpa using h⟩
   · rw[on a];refine⟨?_,λg h=>?_⟩
     ·rw[Vr];exact Vw _ c
     · rw[Vr]at h ⊢;rcases VA.mp h with e|e
       ·exact VA.mpr (.inl e)
       ·exact Vw _ (b g e)
theorem mq(f:Str)(v:V):∀fs:List (Str×V),(fQ f v fs).length<=fs.length+1
 |[]=>by simp[fQ]
 | (k,x)::r=>by
   have b:=mq f v r;rw[show fQ f v ((k,x)::r)=(if k=f then (k,v)::r else (k,x)::fQ f v r) from rfl];by_cases a:k=f
   ·rw[Vq a,Vx,Vx];omega
   ·rw[on a,Vx,Vx];omega
theorem RelO.some_of{v:V}{o:Option Value}(r:RelO (some v) o):∃u,o=some u/\RelV v u:=by
 cases o with
 |none=>exact(show False from r).elim
 |some u=>exact⟨u,rfl,r⟩
theorem RelO.none_of{o:Option Value}(r:RelO none o):o=none:=by
 cases o with
 |none=>rfl
 |some u=>exact(show False from r).elim
theorem CC{v:V}{u:Value}(r:RelV v u):PySem.W.handedIn u=true:=by
 cases v with
 |non=>cases(show u=Value.none from r);rfl
 |bl b=>cases(show u=Value.bool b from r);rfl
 |int i=>obtain⟨t,e⟩:=(show ∃t,u=Value.int i t from r);cases e;rfl
 |str x=>obtain⟨t,e⟩:=(show ∃t,u=Value.str x t from r);cases e;rfl
 |byt b=>obtain⟨t,e⟩:=(show ∃t,u=Value.bytes b t from r);cases e;rfl
 |flt b=>obtain⟨t,e⟩:=(show ∃t,u=Value.float b t from r);cases e;rfl
 |ref a=>cases(show u=Value.ref a from r);rfl
 |ty n=>cases(show u=Value.type n from r);rfl
section
variable{P:Program}{w:World}{H H':Hp}{h h':Heap}{a C dx:Addr}{fs fs':List (Str×V)}
theorem mY(hok:HOk P w H h)(e:H a=some (.ins C dx fs)):∃b,ObjM h a dx C b/\(∀f,RelO (fs.lookup f) (b f))/\PySem.Within b (fs.map (·.1))/\fs.length<=1000/\H dx=some (.own a):=by
 obtain⟨d,z,ne,ob,b,n,r,q⟩:=(show ObjOk P w H h a (.ins C dx fs) from hok a _ e);exact⟨b,⟨ob,n,ne⟩,r,q,z,d⟩
end
structure Cls (K:F0) (C:Addr):Prop where
 pg:PySem.W.plainGet K C Str.empty=true
 hd:PySem.W.hasDictIn K C=true
 po:PySem.W.plainOver K C=true
 sa:PySem.W.findIn K (.ref C) "__setattr__" = some (some (.builtin "object.__setattr__"))
theorem Cls.get{K:F0}{C:Addr}(c:Cls K C)(f:Str):PySem.W.plainGet K C f=true:=c.pg
def NoAttr(K:F0)(C:Addr)(f:Str):Prop:=PySem.W.findIn K (.ref C) f=some none
theorem NoAttr.taker{K:F0}{C:Addr}{f:Str}(n:NoAttr K C f):PySem.W.takerIn K C f=some none:=by
 unfold PySem.W.takerIn;rw[show PySem.W.findIn K (.ref C) f=some none from n];rfl
structure Meth (K:F0) (C:Addr) (m:Str) (f:Addr):Prop where
 at_:PySem.W.findIn K (.ref C) m=some (some (.ref f))
 fn:PySem.W.isFn K (.ref f)=true
 kp:PySem.W.keepIn K (.ref f)=true
section
variable{X:Cx}{G:P1}{Z:St}{H:Hp}{s:Shared}{a C dx:Addr}{fs:List (Str×V)}{f:Str}{v:V}{A:Around}{E:P4}
theorem yl{b:Bool}{Q:P4}(I:Inv X G Z H s)(e:H a=some (.ins C dx fs))(c:Cls X.K C)(n:NoAttr X.K C f)(l:fs.lookup f=some v)
 (h:∀u d,Inv X G Z H d->RelV v u->Q u d):wpAny (model X.prog X.w) A (getAttr (.ref a) f b) Q E s:=by
 obtain⟨i,O,r,_,_,_⟩:=mY I.hok e;obtain⟨u,j,g⟩:=RelO.some_of (v:=v) (o:=i f) (by rw[<-l];exact r f);exact JK I.kIn O (c.get f) c.hd n j (CC g) (h u _ (I.tok _) g)
theorem ot{m:Str}{g:Addr}{pl:Sem Bool}{Q:Value×List Value->Shared->Prop}(I:Inv X G Z H s)(e:H a=some (.ins C dx fs))(c:Cls X.K C)(k:Meth X.K C m g)(l:fs.lookup m=none)
 (h:Q (.ref g,[.ref a]) s):wpAny (model X.prog X.w) A (getMethod (.ref a) m pl) Q E s:=by
 obtain⟨b,O,r,_,_,_⟩:=mY I.hok e;have d:b m=none:=RelO.none_of (by rw[<-l];exact r m);exact Gz I.kIn O (c.get m) k.at_ k.fn d h
theorem wX{y:V}{u:Value}{Q:Unit->Shared->Prop}(I:Inv X G Z H s)(e:H a=some (.ins C dx fs))(c:Cls X.K C)(n:NoAttr X.K C f)(D:fs.length<1000)(p:RelV y u)
 (h:∀j,Inv X G Z (upd H a (.ins C dx (fQ f y fs))) j->Q () j):wpAny (model X.prog X.w) A (setAttr (.ref a) f u) Q E s:=by
 obtain⟨k,O,r,i,_,l⟩:=mY I.hok e;have hz:(fs.map (·.1)).length<=sizeLine:=by rw[Vs,YG];omega
 refine IR I.kIn O c.sa c.po n.taker c.hd i hz λh' d m=>h _ ?_;have hd:∃o,h'.get? dx=some o:=let ⟨o,_,_,B,_⟩:=d.ns;⟨o,B⟩
 refine I.write (x:=a) (e:=dx) (by rw[e];exact True.intro) (.inr l) (λb q v z=>(m.2 b v).trans z) hd ?_;refine⟨by rw[aE O.ne];exact l,?_,O.ne,d.obj,_,d.ns,λg=>?_,λg t=>?_⟩
 ·have:=mq f y fs;omega
 · show RelO ((fQ f y fs).lookup g) (if g=f then some u else k g);rw[mj];by_cases q:g=f
   ·rw[Vq q,Vq q];exact p
   ·rw[on q,on q];exact r g
 · by_cases q:g=f
   ·rw[q];exact(lL f y fs).1
   ·refine(lL f y fs).2 g (i g λz=>t ?_);show(if g=f then some u else k g)=none;rw[on q];exact z
theorem Inv.made(I:Inv X G Z H s):Inv X G Z (upd (upd H s.heap.objs.size (.own (s.heap.objs.size+1))) (s.heap.objs.size+1) (.ins C s.heap.objs.size []))
 {s with heap:=(s.heap.push PySem.W.emptyDict).push (PySem.W.instObj C s.heap.objs.size)}:=by
 have e1:(s.heap.push PySem.W.emptyDict).get? s.heap.objs.size=some PySem.W.emptyDict:=VN s.heap rfl
 have g:((s.heap.push PySem.W.emptyDict).push (PySem.W.instObj C s.heap.objs.size)).get? (s.heap.objs.size+1)=some (PySem.W.instObj C s.heap.objs.size):=by
  have:=VN (s.heap.push PySem.W.emptyDict) (o:=PySem.W.instObj C s.heap.objs.size) rfl
  rwa [Xh]at this
 have f:(s.heap.push PySem.W.emptyDict).Ns s.heap.objs.size (λ_=>none):=⟨PySem.W.emptyDict,#[],_,e1,rfl,(λe d=>absurd d (by simp)),λ_=>rfl⟩;have h:=I.laid (a:=s.heap.objs.size) (o:=.own (s.heap.objs.size+1)) (h':=s.heap.push PySem.W.emptyDict) (t':=s.toks) (λb u q=>Vv _ q) (VE _) ⟨_,e1⟩;refine h.laid (a:=s.heap.objs.size+1) (o:=.ins C s.heap.objs.size []) (t':=s.toks) (λb u q=>Vv _ q) (Nat.le_of_eq (Xh _ _)) ?_;have ne:s.heap.objs.size≠s.heap.objs.size+1:=VX (Xi _);refine⟨by rw[aE ne,aM],WD _,ne,g,λ_=>none,(Heap.Ns1.of_empty f).at λo q=>Vv _ q,λ_=>True.intro,λy c=>absurd rfl c⟩
theorem J0{prog:Program}{w:World}{env:Env}{e:Expr}{f:Str}{pos:Pos}{s:Shared}{Q:P4}(b:attributeBase e f env (eval e env)=eval e env)
 (h:wpAny (model prog w) A (eval e env) (λo a=>wpAny (model prog w) A (getAttr o f true) Q E a) E s):wpAny (model prog w) A (eval (.Attribute e f pos) env) Q E s:=
 Attribute_any_ h (by rw[arm_eval_Attribute,b])
end
def qp(K:F0)(b:TE)(f:Str):TE:=λZ H Q=>b Z H λx H1=>∃a C dx fs v,x=.ref a/\H1 a=some (.ins C dx fs)/\Cls K C/\NoAttr K C f/\fs.lookup f=some v/\Q v H1
def IX(K:F0)(d c:TE)(f:Str):TS:=λD Z H=>c Z H λy H1=>d Z H1 λx b=>∃a C dx fs,x=.ref a/\b a=some (.ins C dx fs)/\Cls K C/\NoAttr K C f/\fs.length<1000/\
 D.nx Z (upd b a (.ins C dx (fQ f y fs)))
section
variable{X:Cx}{o e value:Expr}{f:Str}{pos pos' tpos:Pos}{ta tv:TE}
theorem M5(g:PE X e ta)(i:attributeBase e f X.env (eval e X.env)=eval e X.env):PE X (.Attribute e f pos) (qp X.K ta f):=by
 intro G s Z H Q I h;refine J0 i (bI (g G s Z H _ I h) λu p ⟨x,H1,m,b,a,C,dx,fs,v,ex,j,c,n,l,q⟩=>?_);subst ex;obtain rfl:u=Value.ref a:=b;exact yl m j c n l λo s2 k d=>⟨v,H1,k,d,q⟩
theorem fS(k:PE X o ta)(i:PE X value tv)(j:swapsWith value (some (.Attribute o f pos')) pos.line X.env=pure false):PS X (.Assign [.Attribute o f pos'] value pos) (IX X.K ta tv f):=by
 intro G s Z H D I h;refine plainObj_wpAny_Assign_Attribute (bI (i G s Z H _ I h) λu b ⟨y,H1,t,d,q⟩=>bI (k G b Z H1 _ t q) λov s2 ⟨x,w,r,e,a,C,dx,fs,ex,m,c,n,l,g⟩=>?_) j;subst ex;obtain rfl:ov=Value.ref a:=e;exact wX r m c n l d λv p=>⟨Z,_,p,g⟩
end
section
variable{X:Cx}{G:P1}{Z:St}{H:Hp}{s:Shared}{A:Around}{E:P4}{Q:P4}{c:Value}{b:Bool}
inductive TyOf (K:F0) (H:Hp):V->Value->Prop where
 |non:TyOf K H .non (.type "NoneType")
 |bl (x:Bool):TyOf K H (.bl x) (.type "bool")
 |int (i:Int):TyOf K H (.int i) (.type "int")
 |str (x:Str):TyOf K H (.str x) (.type "str")
 |flt (x:UInt64):TyOf K H (.flt x) (.type "float")
 |lst {a:Addr} {xs:List V} (e:H a=some (.lst xs)):TyOf K H (.ref a) (.type "list")
 |frz {a:Addr} {o:Obj} {xs:List V} (e:H a=some (.frz o (.lst xs))):TyOf K H (.ref a) (.type "list")
 |tup {a:Addr} {xs:List V} (e:H a=some (.tup xs)):TyOf K H (.ref a) (.type "tuple")
 |dK {a:Addr} {kvs:List (aP×V)} (e:H a=some (.dK kvs)):TyOf K H (.ref a) (.type "dict")
 |dT {a:Addr} {kvs:List (List aP×V)} (e:H a=some (.dT kvs)):TyOf K H (.ref a) (.type "dict")
 | ins {a C dx:Addr} {fs:List (Str×V)} (e:H a=some (.ins C dx fs)) (cl:Cls K C) (ha:PySem.W.findIn K (.ref C) "__class__" = some (some (.builtin "object.__class__")))
    (hn:PySem.W.specialIn K (.builtin "object.__class__") "__get__" = some (some (.builtin "getset_descriptor.__get__"))) (htk:PySem.W.takesIn K (.builtin "object.__class__")=some true)
    (hm:PySem.W.mroIn K C (.type "object")=some true):TyOf K H (.ref a) (.ref C)
theorem Cw{x:V}{u t:Value}(I:Inv X G Z H s)(d:RelV x u)(ty:TyOf X.K H x t)(e:PySem.W.kitOne X.K t c=some b)(h:∀m,Q (.bool b) {s with toks:=m}):
 wpAny (model X.prog X.w) A (call (.builtin "isinstance") [u,c]) Q E s:=by
 cases ty with
 |non=>cases(show u=Value.none from d);exact Wn PySem.W.kitx_none I.kIn True.intro e (λz=>nomatch z) h
 |bl y=>cases(show u=Value.bool y from d);exact Wn PySem.W.kitx_bool I.kIn True.intro e (λz=>nomatch z) h
 |int i=>obtain⟨t,q⟩:=(show ∃t,u=Value.int i t from d);cases q;exact Wn PySem.W.kitx_int I.kIn True.intro e (λz=>nomatch z) h
 |str y=>obtain⟨t,q⟩:=(show ∃t,u=Value.str y t from d);cases q;exact Wn PySem.W.kitx_str I.kIn True.intro e (λz=>nomatch z) h
 |flt y=>obtain⟨t,q⟩:=(show ∃t,u=Value.float y t from d);cases q;exact Wn PySem.W.kitx_float I.kIn True.intro e (λz=>nomatch z) h
 |@lst a xs f=>
   cases(show u=Value.ref a from d);obtain⟨_,_,n,_,g⟩:=(show ObjOk X.prog X.w H s.heap a (.lst xs) from I.hok a _ f);exact Wn PySem.W.kitx_list I.kIn ⟨_,g,rfl⟩ e (λz=>nomatch z) h
 |@frz a ob xs f=>
   cases(show u=Value.ref a from d);obtain⟨_,_,_,n,_,g⟩:=(show ObjOk X.prog X.w H s.heap a (.frz ob (.lst xs)) from I.hok a _ f);exact Wn PySem.W.kitx_list I.kIn ⟨_,g,rfl⟩ e (λz=>nomatch z) h
 |@tup a xs f=>
   cases(show u=Value.ref a from d);obtain⟨_,_,_,p⟩:=(show ObjOk X.prog X.w H s.heap a (.tup xs) from I.hok a _ f);obtain⟨o,g,j,_⟩:=p;exact Wn PySem.W.kitx_tuple I.kIn ⟨o,g,j⟩ e (λz=>nomatch z) h
 |@dK a kvs f=>
   cases(show u=Value.ref a from d);obtain⟨_,_,vs,_,p⟩:=(show ObjOk X.prog X.w H s.heap a (.dK kvs) from I.hok a _ f);obtain⟨o,D,ep,g,j,_⟩:=p;exact Wn PySem.W.kitx_dict I.kIn ⟨o,g,j.1⟩ e (λz=>nomatch z) h
 |@dT a kvs f=>
   cases(show u=Value.ref a from d);obtain⟨_,_,xs,_,o,D,ep,g,j,_⟩:=(show ObjOk X.prog X.w H s.heap a (.dT kvs) from I.hok a _ f);exact Wn PySem.W.kitx_dict I.kIn ⟨o,g,j.1⟩ e (λz=>nomatch z) h
 |@ins a C dx fs f l B r k v=>
   cases(show u=Value.ref a from d);obtain⟨L,O,_⟩:=mY I.hok f;obtain⟨F,J,_⟩:=O.look;exact Wn (PySem.W.kitx_own (l.get _) l.hd B r k v) I.kIn J e (λz=>nomatch z) h
end
structure Room (k:Nat) (A:Around):Prop where
 hd:A.handled=none
 dp:A.depth+3*k+5<recursionLimit
 un:A.units+16*k+200<cLine
theorem Room.mono{j k:Nat}{A:Around}(r:Room k A)(h:j<=k):Room j A:=⟨r.hd,by have:=r.dp;omega,by have:=r.un;omega⟩
theorem Room.deeper{k:Nat}{A:Around}(r:Room (k+1) A)(env:Env):Room k (A.deeper env):=
 ⟨r.hd,by have:=r.dp;show A.depth+1+3*k+5<_;omega,by have:=r.un;show A.units+3+16*k+200<_;omega⟩
theorem yc{A:Around}{C:Addr}{us:List Value}{a:List (Str×Value)}:(A.under (.builtin "type.__call__" ⟨.ref C::us,a⟩)).depth=A.depth+1:=by
 first | rfl | simp[Around.under,Code.weight,Code.isCreation,Code.isGuard,Code.isCaller,Code.frames,Code.isFrame,guardIds]
theorem yb{A:Around}{C:Addr}{us:List Value}{a:List (Str×Value)}:(A.under (.builtin "type.__call__" ⟨.ref C::us,a⟩)).units=A.units+1:=by
 first | rfl | simp[Around.under,Code.cUnits,Code.frames,Code.isFrame]
theorem Room.make{k:Nat}{A:Around}(r:Room (k+1) A)(C:Addr)(us:List Value)(a:List (Str×Value)):Room k (A.under (.builtin "type.__call__" ⟨.ref C::us,a⟩)):=
 ⟨r.hd,by have:=r.dp;rw[yc];omega,by have:=r.un;rw[yb];omega⟩
theorem Room.depth{k:Nat}{A:Around}(r:Room k A):A.depth<recursionLimit:=by have:=r.dp;omega
theorem Room.units{k:Nat}{A:Around}(r:Room k A):A.units+64<cLine:=by have:=r.un;omega
def dh:TA:=λ_ H Q=>Q [] H
def bL(b:TE)(a:TA):TA:=λZ H Q=>b Z H λx H1=>a Z H1 λxs c=>Q (x::xs) c
section
variable{X:Cx}{e:Expr}{es:List Expr}{te:TE}{t:TA}{pos:Pos}
theorem ae:PA X [] dh:=λ_ _ _ _ H Q I h=>WI ⟨[],H,I,.nil,h⟩
theorem aa(j:PE X e te)(i:PA X es t)(g:starEach (e::es) X.env=(false,eval e X.env)::starEach es X.env:=by rfl):PA X (e::es) (bL te t):=by
 intro pos G s Z H Q I h;rw[g];show wpAny _ _ (spliced ((false,eval e X.env)::backTo pos (starEach es X.env))) _ _ s;refine Wh (bI (j G s Z H _ I h) λu a ⟨x,H1,l,c,f⟩=>?_);exact bI (i pos G a Z H1 _ l f) λus s2 ⟨xs,m,k,b,d⟩=>⟨x::xs,m,k,.cons c b,d⟩
def QG(t:TA):TE:=λZ H Q=>t Z H λxs H1=>xs.length<=sizeLine/\∀p,H1 p=none->Q (.ref p) (upd H1 p (.tup xs))
def QJ(t:TA):TE:=λZ H Q=>t Z H λxs H1=>xs.length<=sizeLine/\∀p,H1 p=none->Q (.ref p) (upd H1 p (.lst xs))
theorem bK{d}(h:PA X es t):PE X (.Tuple es d pos) (QG t):=by
 intro G s Z H Q I f;refine wpAny_Tuple_spliced (bI (h pos G s Z H _ I f) λus a ⟨xs,H1,c,r,z,q⟩=>⟨by rw[<-r.length];exact z,?_⟩);have g:H1 a.heap.objs.size=none:=c.hok.fresh (VE _);refine⟨.ref a.heap.objs.size,upd H1 a.heap.objs.size (.tup xs),c.laid (t':=a.toks) (λb u e=>Vv _ e) (VE _) ?_,rfl,q _ g⟩;exact⟨z,us,r,⟨_,VN _ rfl,rfl,_,rfl⟩⟩
theorem dq(h:PA X es t):PE X (.List es pos) (QJ t):=by
 intro G s Z H Q I d;refine wpAny_List_spliced (bI (h pos G s Z H _ I d) λus a ⟨xs,H1,c,r,z,q⟩=>⟨by rw[<-r.length];exact z,?_⟩);have f:H1 a.heap.objs.size=none:=c.hok.fresh (VE _);refine⟨.ref a.heap.objs.size,upd H1 a.heap.objs.size (.lst xs),c.laid (t':=a.toks) (λb u e=>Vv _ e) (VE _) ?_,rfl,q _ f⟩;exact⟨z,us,0,r,VN _ rfl⟩
end
abbrev Sp:=List V->Hp->VK->XK->Prop
abbrev C3:=List Env->Hp->Shared->XK->Value->Shared->Prop
structure Env0 (P:Program) (w:World) (K:F0) (mg:Str->Option Value) (base:Heap) (A:Around) (outer:List Env) (s:Shared) (H:Hp):Prop where
 frames:A.frames=some outer
 mod:Mod K mg base
 bs:∀b o,base.get? b=some o->s.heap.get? b=some o/\H b=none
 bsz:base.objs.size<=s.heap.objs.size
 funs:s.heap.FunFrames base outer
 frf:∀b∈ym outer,H b=none
 hok:HOk P w H s.heap
 bare:AllBare s.gens
def CE(outer:List Env)(P:Program)(w:World)(H:Hp)(s:Shared)(Q:VK)(u:Value)(a:Shared):Prop:=
 ∃v H',a.os=s.os/\AllBare a.gens/\Un (ym outer) [] H H' s.heap a.heap/\HOk P w H' a.heap/\RelV v u/\Q v H'
def CR(CX:C3)(outer:List Env)(P:Program)(w:World)(H:Hp)(s:Shared)(Q:VK)(E:XK)(r:Result)(a:Shared):Prop:=
 match r with
 |.ok (.ret u)=>CE outer P w H s Q u a
 |.ok _=>False
 |.error e=>CX outer H s E e a
structure FnOk (P:Program) (w:World) (K:F0) (mg:Str->Option Value) (base:Heap) (CX:C3) (k:Nat) (f:Addr) (fd:FuncData) (ps:List Str) (sp:Sp):Prop where
 len:∀vs H Q E,sp vs H Q E->vs.length=ps.length
 run:∀(A:Around) (outer:List Env) (s:Shared) (H:Hp) (args:Args) (us:List Value) (vs:List V) (Q:VK) (E:XK),Room k A->Env0 P w K mg base A outer s H->BindsTo s fd args (ps.zip us)->Vals vs us->sp vs H Q E->
  codeAny (model P w) A (.call (.ref f) args) (CR CX outer P w H s Q E) s
theorem FnOk.imp{P:Program}{w:World}{K:F0}{mg:Str->Option Value}{base:Heap}{CX:C3}{k:Nat}{f:Addr}{fd:FuncData}{ps:List Str}{sp a:Sp}(F:FnOk P w K mg base CX k f fd ps sp)
 (h:∀vs H Q E,a vs H Q E->sp vs H Q E):FnOk P w K mg base CX k f fd ps a:=
 ⟨λvs H Q E q=>F.len vs H Q E (h _ _ _ _ q),λA outer s H args us vs Q E d e g b c=>F.run A outer s H args us vs Q E d e g b (h _ _ _ _ c)⟩
theorem Env0.make{P:Program}{w:World}{K:F0}{mg:Str->Option Value}{base:Heap}{A:Around}{outer:List Env}{s:Shared}{H:Hp}(e:Env0 P w K mg base A outer s H)(C:Addr)(us:List Value)(a:List (Str×Value)):
 Env0 P w K mg base (A.under (.builtin "type.__call__" ⟨.ref C::us,a⟩)) outer s H:=⟨by first | exact e.frames | (simpa [Around.under,Code.envs,Code.isFrame,pushEnvs] using e.frames),e.mod,e.bs,e.bsz,e.funs,e.frf,e.hok,e.bare⟩
section
variable{X:Cx}{G:P1}{Z:St}{H:Hp}{s s':Shared}
theorem Inv.env0(I:Inv X G Z H s):Env0 X.prog X.w X.K X.mg X.base X.A X.stack s H:=
 ⟨I.ok.frames,I.ok.mod,I.bs,VW I.ok.bsz I.sz,I.stack,I.stkFree,I.hok,I.bare⟩
theorem Inv.after{Q:VK}{u:Value}(I:Inv X G Z H s)(h:CE X.stack X.prog X.w H s Q u s'):EP X G Z Q u s':=by
 obtain⟨v,H',os,bare,un,hok,r,q⟩:=h;obtain⟨c,g,d,t,a⟩:=s';obtain rfl:a=s.os:=os;exact⟨v,H',I.call (h':=c) (g':=g) (d':=d) (t':=t) (ch:=[]) un hok bare (λb z=>absurd z (by simp)),r,q⟩
end
def qB(sp:Sp)(a:List V)(E:XK)(t:TA):TE:=λZ H Q=>t Z H λvs H1=>sp (vs++a) H1 Q E
def iL(C:Addr)(m:Str)(sp:Sp)(b:List V)(E:XK)(c:TE)(t:TA):TE:=λZ H Q=>c Z H λx H1=>∃a dx fs,x=.ref a/\H1 a=some (.ins C dx fs)/\fs.lookup m=none/\
 t Z H1 λvs d=>sp (x::(vs++b)) d Q E
def Df(C:Addr)(sp:Sp)(a:List V)(E:XK)(t:TA):TE:=λZ H Q=>t Z H λvs H1=>∀x dx,H1 x=none->H1 dx=none->dx≠x->
 sp (.ref x::(vs++a)) (upd (upd H1 dx (.own x)) x (.ins C dx [])) (λv b=>v=.non/\Q (.ref x) b) E
def Binds(K:F0)(fd:FuncData)(ps:List Str)(ds:List Value):Prop:=
 ∀(s:Shared) (us:List Value),K.In s.heap->(us++ds).length=ps.length->BindsTo s fd ⟨us,[]⟩ (ps.zip (us++ds))
theorem Binds.all{K:F0}{fd:FuncData}{ps:List Str}(h:∀us:List Value,us.length=ps.length->bindArgs fd ⟨us,[]⟩=pure (ps.zip us)):Binds K fd ps []:=λs us _ a=>by
 rw[Wc]at a ⊢;exact .of_eq (h us a)
def j8(CX:C3)(X:Cx)(E:XK):Prop:=∀(G:P1) (Z:St) (H:Hp) (s:Shared) (e:Value) (a:Shared),Inv X G Z H s->CX X.stack H s E e a->X.xe e a
section
variable{X:Cx}{CX:C3}{k:Nat}{f C:Addr}{fd:FuncData}{ps:List Str}{sp:Sp}{dvs:List V}{ds:List Value}{E:XK}{x m:Str}{p pos apos:Pos}{e o:Expr}{es:List Expr}{ta:TE}{t:TA}
theorem w8{G:P1}{Z:St}{H:Hp}{s:Shared}{Q:VK}{us:List Value}{vs:List V}(F:FnOk X.prog X.w X.K X.mg X.base CX k f fd ps sp)(g:Room k X.A)(j:Binds X.K fd ps ds)(hd:Vals dvs ds)(d:j8 CX X E)
 (I:Inv X G Z H s) (r:Vals vs us) (h:sp (vs++dvs) H Q E):wpAny (model X.prog X.w) X.A (call (.ref f) us) (EP X G Z Q) X.xe s:=by
 have b:Vals (vs++dvs) (us++ds):=r.append hd;have i:(us++ds).length=ps.length:=by rw[<-b.length];exact F.len _ _ _ _ h
 refine wpAny_call (Yk (F.run X.A X.stack s H ⟨us,[]⟩ (us++ds) (vs++dvs) Q E g I.env0 (j s us I.kIn i) b h) λr c a=>?_);cases r with
 |error e=>exact d G Z H s e c I a
 |ok l=>
   cases l with
   |ret u=>exact I.after a
   |next=>exact False.elim a
   |brk=>exact False.elim a
   |cont=>exact False.elim a
theorem bp(F:FnOk X.prog X.w X.K X.mg X.base CX k f fd ps sp)(g:Room k X.A)(l:Gl X x)(i:X.mg x=some (.ref f))(j:PySem.W.keepIn X.K (.ref f)=true)(n:Binds X.K fd ps ds)(hd:Vals dvs ds)(d:j8 CX X E)
 (o:PA X (e::es) t) (b:(x==("__debug__" : Str))=false:=by decide) (m:starEach (e::es) X.env=(false,eval e X.env)::starEach es X.env:=by rfl) (a:(backTo pos (starEach es X.env)).any (·.1)=false:=by rfl):
 PE X (.Call (.Name x p) (e::es) [] pos) (qB sp dvs E t):=by
 intro G s Z H Q I h;refine WS (sO I l i ?_ b);refine XT (h₀:=X.base) I.ok.mod.kin j (bI (o pos G s Z H _ I h) λus u ⟨vs,H1,c,r,q⟩=>⟨c.kIn,?_⟩) m a;exact w8 F g n hd d c r q
theorem aL{pl:Sem Bool}(D:PE X o ta)(c:Cls X.K C)(g:Meth X.K C m f)(F:FnOk X.prog X.w X.K X.mg X.base CX k f fd ps sp)(B:Room k X.A)(J:Binds X.K fd ps ds)(hd:Vals dvs ds)(y:j8 CX X E)(L:PA X (e::es) t)
 (b:starEach (e::es) X.env=(false,eval e X.env)::starEach es X.env:=by rfl) (d:(backTo pos (starEach es X.env)).any (·.1)=false:=by rfl)
 (z:eval (.Call (.Attribute o m apos) (e::es) [] pos) X.env=(do
   let ov <-eval o X.env
   standAt apos.atName
   let (f,first) <-holding [ov] (getMethod ov m pl)
   callWith pos f first (backTo pos (starEach (e::es) X.env)) (backToKw pos (keywordEach [] X.env))):=by rfl):
 PE X (.Call (.Attribute o m apos) (e::es) [] pos) (iL C m sp dvs E ta t):=by
 intro G s Z H Q I h;refine Yw (pl:=pl) (bI (D G s Z H _ I h) λu n ⟨x,H1,j,p,a,dx,fs,ex,M,l,q⟩=>?_) z;subst ex;obtain rfl:u=Value.ref a:=p;refine ot j M c g l ?_;refine XT (first:=[.ref a]) (h₀:=X.base) I.ok.mod.kin g.kp (bI (L pos G n Z H1 _ j q) λus s2 ⟨vs,N,i,r,v⟩=>⟨i.kIn,?_⟩) b d;exact w8 (us:=.ref a::us) (vs:=.ref a::vs) F B J hd y i (.cons rfl r) v
theorem cy{pl:Sem Bool}(n:PE X o ta)(c:Cls X.K C)(d:Meth X.K C m f)(F:FnOk X.prog X.w X.K X.mg X.base CX k f fd ps sp)(j:Room k X.A)(p:Binds X.K fd ps ds)(hd:Vals dvs ds)(g:j8 CX X E)
 (i:eval (.Call (.Attribute o m apos) [] [] pos) X.env=(do
   let ov <-eval o X.env
   standAt apos.atName
   let (f,first) <-holding [ov] (getMethod ov m pl)
   callWith pos f first (backTo pos (starEach [] X.env)) (backToKw pos (keywordEach [] X.env))):=by rfl):
 PE X (.Call (.Attribute o m apos) [] [] pos) (iL C m sp dvs E ta dh):=by
 intro G s Z H Q I h;refine Yw (pl:=pl) (bI (n G s Z H _ I h) λu t ⟨x,H1,b,e,a,dx,fs,ex,r,l,q⟩=>?_) i;subst ex;obtain rfl:u=Value.ref a:=e;refine ot b r c d l ?_;exact PySem.W.callWith_K0 (first:=[.ref a]) b.kIn d.kp (w8 (us:=[.ref a]) (vs:=[.ref a]) F j p hd g b (.cons rfl .nil) q)
structure Mk (K:F0) (C f:Addr):Prop where
 makes:PySem.W.makesIn K C=true
 init:PySem.W.findIn K (.ref C) "__init__" = some (some (.ref f))
 fn:PySem.W.isFn K (.ref f)=true
 kp:PySem.W.keepIn K (.ref C)=true
theorem D1{G:P1}{Z:St}{H:Hp}{s:Shared}{Q:VK}{us:List Value}{vs:List V}(M:Mk X.K C f)(F:FnOk X.prog X.w X.K X.mg X.base CX k f fd ps sp)(m:Room (k+1) X.A)(o:Binds X.K fd ps ds)(hd:Vals dvs ds)
 (l:j8 CX X E) (I:Inv X G Z H s) (r:Vals vs us)
 (h:∀x dx,H x=none->H dx=none->dx≠x->sp (.ref x::(vs++dvs)) (upd (upd H dx (.own x)) x (.ins C dx [])) (λv y=>v=.non/\Q (.ref x) y) E):
 wpAny (model X.prog X.w) X.A (call (.ref C) us) (EP X G Z Q) X.xe s:=by
 have d:=h (s.heap.objs.size+1) s.heap.objs.size (I.hok.fresh (Nat.le_succ _)) (I.hok.fresh (VE _)) (VX (Xi _));have b:=Inv.made (C:=C) I;have c:Vals (V.ref (s.heap.objs.size+1)::(vs++dvs)) (Value.ref (s.heap.objs.size+1)::(us++ds)):=.cons rfl (r.append hd)
 have n:(Value.ref (s.heap.objs.size+1)::us++ds).length=ps.length:=by
  have e:=c.length;rw[F.len _ _ _ _ d]at e;exact e.symm
 refine wpAny_call (FW (f:=f) I.kIn M.makes M.init (XS.mp M.fn) (Yk (F.run _ X.stack _ _ ⟨Value.ref (s.heap.objs.size+1)::us,[]⟩ (Value.ref (s.heap.objs.size+1)::(us++ds)) _ _ E (m.make C us [])
  (b.env0.make C us []) (o _ (Value.ref (s.heap.objs.size+1)::us) b.kIn n) c d) λr g a=>?_))
 cases r with
 |error e=>exact l G Z _ _ e g b a
 |ok p=>
   cases p with
   |ret u=>
     obtain⟨v,H',t,i,q,j⟩:=b.after a;subst q;exact⟨i,⟨V.ref (s.heap.objs.size+1),H',t,rfl,j⟩⟩
   |next=>exact False.elim a
   |brk=>exact False.elim a
   |cont=>exact False.elim a
theorem sx(M:Mk X.K C f)(F:FnOk X.prog X.w X.K X.mg X.base CX k f fd ps sp)(g:Room (k+1) X.A)(j:Gl X x)(i:X.mg x=some (.ref C))(m:Binds X.K fd ps ds)(hd:Vals dvs ds)(d:j8 CX X E)
 (n:PA X (e::es) t) (b:(x==("__debug__" : Str))=false:=by decide) (l:starEach (e::es) X.env=(false,eval e X.env)::starEach es X.env:=by rfl) (a:(backTo pos (starEach es X.env)).any (·.1)=false:=by rfl):
 PE X (.Call (.Name x p) (e::es) [] pos) (Df C sp dvs E t):=by
 intro G s Z H Q I h;refine WS (sO I j i ?_ b);refine XT (h₀:=X.base) I.ok.mod.kin M.kp (bI (n pos G s Z H _ I h) λus o ⟨vs,H1,c,r,q⟩=>⟨c.kIn,?_⟩) l a;exact D1 M F g m hd d c r q
end
def PK(X:Cx)(a:List Keyword)(t:TA):Prop:=
 ∀(pos:Pos) (G:P1) (s:Shared) (Z:St) (H:Hp) (Q:List V->Hp->Prop),Inv X G Z H s->t Z H Q->wpAny (model X.prog X.w) X.A (evalAll ((backToKw pos (keywordEach a X.env)).map (·.2))) (AP X G Z Q) X.xe s
section
variable{X:Cx}{CX:C3}{k:Nat}{f C:Addr}{fd:FuncData}{ps ks:List Str}{sp:Sp}{E:XK}{x m:Str}{p pos apos kpos:Pos}{e o:Expr}{es:List Expr}{kws:List Keyword}{te ta:TE}{t tk:TA}{nm:Option Str}
theorem xm:PK X [] dh:=λ_ _ _ _ H Q I h=>wpAny_evalAll_nil ⟨[],H,I,.nil,h⟩
theorem sv(i:PE X e te)(g:PK X kws t):PK X (⟨nm,e,kpos⟩::kws) (bL te t):=by
 intro pos G s Z H Q I h;show wpAny _ _ (evalAll ((do let v <-eval e X.env;standAt pos;pure v)::(backToKw pos (keywordEach kws X.env)).map (·.2))) _ _ s;refine wpAny_evalAll_cons (Vp (bI (i G s Z H _ I h) λu a ⟨x,H1,k,c,f⟩=>Vp (X7 (Vz ?_))));exact bI (g pos G a Z H1 _ k f) λus s2 ⟨xs,l,j,b,d⟩=>⟨x::xs,l,j,.cons c b,d⟩
variable{g:List Value->List Value->List Value}{gV:List V->List V->List V}
end
structure FnScope (N P:List Str) (sc:Scope):Prop where
 kind:sc.kind=.function
 co:sc.isCoroutine=false
 gen:sc.isGenerator=false
 nd:N.Nodup
 pre:N.take P.length=P
 par:∀x∈P,sc.names.lookup x=some .local\/sc.names.lookup x=some .cell
 nofree:∀y∈sc.names,y.2≠ .free
theorem rL{kindOf:Str->Option NameKind}{x:Str}:∀{binds:List (Str×Value)} {m:Str->Option Value},(∀v,(x,v)∉binds)->bindL kindOf binds m x=m x
 |[],_,_=>rfl
 | (n,v)::r,m,h=>by
   unfold bindL;rw[rL λw a=>h w (List.mem_cons_of_mem _ a)];split
   · have:x≠n:=by rintro rfl;exact h v Vu
     simp[this]
   ·rfl
theorem rN{kindOf:Str->Option NameKind}{x:Str}:∀{binds:List (Str×Value)} {m:Str->Option Value},(∀v,(x,v)∉binds)->bindC kindOf binds m x=m x
 |[],_,_=>rfl
 | (n,v)::r,m,h=>by
   unfold bindC;rw[rN λw a=>h w (List.mem_cons_of_mem _ a)];split
   ·rfl
   · have:x≠n:=by rintro rfl;exact h v Vu
     simp[this]
theorem rM{kindOf:Str->Option NameKind}{x:Str}{v:Value}:∀{P:List Str} {vs:List Value} {i:Nat} {m:Str->Option Value},P.Nodup->P[i]?=some x->vs[i]?=some v->kindOf x=some .local->
 bindL kindOf (P.zip vs) m x=some v
 |[],_,_,_,_,h,_,_=>by simp at h
 |_::_,[],_,_,_,_,h,_=>by simp at h
 | p::P,w::vs,0,m,nd,b,a,c=>by
   simp at b a;subst b;subst a;show bindL kindOf ((p,w)::P.zip vs) m p=_;unfold bindL;rw[rL λv d=>(List.nodup_cons.mp nd).1 (List.of_mem_zip d).1,if_pos c];simp
 | p::P,w::vs,i+1,m,nd,b,a,c=>by
   show bindL kindOf ((p,w)::P.zip vs) m x=_;unfold bindL;exact rM (i:=i) (List.nodup_cons.mp nd).2 (by simpa using b) (by simpa using a) c
theorem rO{kindOf:Str->Option NameKind}{x:Str}{v:Value}:∀{P:List Str} {vs:List Value} {i:Nat} {m:Str->Option Value},P.Nodup->P[i]?=some x->vs[i]?=some v->kindOf x≠some .local->
 bindC kindOf (P.zip vs) m x=some v
 |[],_,_,_,_,h,_,_=>by simp at h
 |_::_,[],_,_,_,_,h,_=>by simp at h
 | p::P,w::vs,0,m,nd,b,a,c=>by
   simp at b a;subst b;subst a;show bindC kindOf ((p,w)::P.zip vs) m p=_;unfold bindC;rw[rN λv d=>(List.nodup_cons.mp nd).1 (List.of_mem_zip d).1,if_neg c];simp
 | p::P,w::vs,i+1,m,nd,b,a,c=>by
   show bindC kindOf ((p,w)::P.zip vs) m x=_;unfold bindC;exact rO (i:=i) (List.nodup_cons.mp nd).2 (by simpa using b) (by simpa using a) c
def iu(N:List Str)(vs:List V):St:=vs.map some++List.replicate (N.length-vs.length) none
def vF(CX:C3)(P:Program)(w:World)(K:F0)(mg:Str->Option Value)(base:Heap)(N:List Str)(qual:Str)(scope:Scope)(f:Addr)(b:Value)(A:Around)(outer:List Env)(s:Shared)(H:Hp)(E:XK):Cx where
 prog:=P
 w:=w
 K:=K
 mg:=mg
 base:=base
 A:=A.deeper (envOfC qual scope s.heap.objs.size f b)
 N:=N
 s₀:=s
 H₀:=H
 env:=envOfC qual scope s.heap.objs.size f b
 outer:=outer
 stack:=envOfC qual scope s.heap.objs.size f b::outer
 ex:=[]
 calm:=true
 fn:=λ_=>true
 pn:=[]
 xe:=λe c=>wpAny (model P w) (A.deeper (envOfC qual scope s.heap.objs.size f b)) («leaving» (envOfC qual scope s.heap.objs.size f b) e) (λ_ a=>CX outer H s E e a) (λd a=>CX outer H s E d a) c
theorem wx{sc:Scope}{n:Nat}{x:Str}(h:sc.names.lookup x=some .cell):∃c,(cellsFrom n sc.names []).lookup x=some c:=by
 have q:=Yl sc.names n [] (.inl h);exact W0.mp q
theorem Cy{CX:C3}{P:Program}{w:World}{K:F0}{mg:Str->Option Value}{base:Heap}{N ps:List Str}{qual:Str}{scope:Scope}{f:Addr}{o:Value}{A:Around}{outer:List Env}{s t:Shared}{H:Hp}{E:XK}{us:List Value}{vs:List V}
 (S:FnScope N ps scope) (hd:A.handled=none) (e0:Env0 P w K mg base A outer s H) (J:vs.length=ps.length) (r:Vals vs us)
 (x:InCallC s s.heap.objs.size (bindL (envOfC qual scope s.heap.objs.size f o).kindOf (ps.zip us) λ_=>none) (cellsFrom (s.heap.objs.size+1) scope.names []) (bindC (envOfC qual scope s.heap.objs.size f o).kindOf (ps.zip us) λ_=>none) t):
 Inv (vF CX P w K mg base N qual scope f o A outer s H E) [] (iu N vs) H t:=by
 have F:ps.length<=N.length:=by have:=congrArg List.length S.pre;rw[List.length_take]at this;omega
 obtain⟨m,I,rfl,C⟩:=x.done;have g:∀b:Addr,b∉(vF CX P w K mg base N qual scope f o A outer s H E).ex:=λb z=>absurd (show b∈([]:List Addr) from z) (by simp)
 refine⟨⟨e0.mod,S.kind,rfl,rfl,VE _,λy z c m d=>?_,λy j=>?_,λy c _ h=>?_,λ_=>hd,Around.frames_deeper e0.frames,.inr ⟨rfl,rfl⟩,λb z=>absurd z (g b),e0.bs,e0.bsz,λb _ _=>g b,λb z=>absurd z (g b),e0.funs,e0.frf⟩,
  rfl,e0.bare,Un.kept C,⟨_,x.toInCall.ns,λi y v m d L=>?_⟩,λy c h=>⟨_,x.cell y c h⟩,e0.hok.fresh (VE _),λy c h=>?_,λp hp=>absurd (show p∈([]:P1) from hp) (by simp),e0.hok.kept C,?_⟩
 ·exact name_of_addr x.apart (WL m) (WL d)
 · have j:scope.names.lookup y=some .cell\/scope.names.lookup y=some .free:=j;rcases j with j|j
   ·exact wx j
   ·exact absurd rfl (S.nofree _ (WL j))
 ·exact Wx (x.above y c (WL h))
 · have hi:i<vs.length:=by
    unfold iu at d;by_cases hi:i<vs.length
    ·exact hi
    ·rw[Wl (by simpa using hi)]at d;rw[Xu]at d;split at d<;>cases d
   have G:vs[i]?=some v:=by
    unfold iu at d;rw[List.getElem?_append_left (by simpa using hi),List.getElem?_map]at d;cases e:vs[i]? with
    |none=>rw[e]at d;cases d
    |some a=>rw[e]at d;cases d;rfl
   obtain⟨u,B,D⟩:=r.get G
   have hp:ps[i]?=some y:=by
    rw[<-S.pre,List.getElem?_take_of_lt (by omega)];exact m
   have l:ps.Nodup:=by rw[<-S.pre];exact S.nd.sublist (List.take_sublist _ _)
   refine⟨u,D,?_⟩;rcases S.par y (Wu hp) with k|k
   ·exact .inl ⟨k,rM l hp B k⟩
   ·obtain⟨c,e⟩:=wx (n:=s.heap.objs.size+1) k;refine .inr ⟨.inl k,c,e,?_⟩;have q:=x.cell y c e;rw[rO l hp B (by show scope.names.lookup y≠_;rw[k];decide)]at q;exact q
 ·exact e0.hok.fresh (Wx (x.above y c (WL h)))
 ·unfold iu;show _=N.length;rw[List.length_append,List.length_map,List.length_replicate];omega
theorem fn_of{CX:C3}{P:Program}{w:World}{K:F0}{mg:Str->Option Value}{base:Heap}{k:Nat}{f:Addr}{name qual:Str}{c:Arguments}{body:List Stmt}{scope:Scope}{L kV m pm a ct oc:Value}{an O:Option Addr}
 {B:Array (Option Value)} {N ps:List Str} {sp:Sp} (R:K.lookup f=some ⟨oc,O,.func (PySem.W.fnOf name qual c body scope L kV m pm an a ct),B⟩) (F:PySem.W.codeIn K a qual=true) (S:FnScope N ps scope)
 (len:∀vs H Q E,sp vs H Q E->vs.length=ps.length)
 (h:∀(A:Around) (outer:List Env) (s:Shared) (H:Hp) (vs:List V) (Q:VK) (E:XK),Room k (A.deeper (envOfC qual scope s.heap.objs.size f a))->sp vs H Q E->
   ∃t,PSs (vF CX P w K mg base N qual scope f a A outer s H E) body t/\t {nx:=λ_ H'=>Q .non H',rt:=Q} (iu N vs) H):
 FnOk P w K mg base CX (k+1) f (PySem.W.fnOf name qual c body scope L kV m pm an a ct) ps sp:=by
 refine⟨len,λA outer s H args us vs Q E D e0 hb r j=>?_⟩;have Y:=len _ _ _ _ j;have M:K.In s.heap:=e0.mod.kin.keeps λb o e=>(e0.bs b o e).1;have C:s.heap.NoLimit:=e0.mod.nolimit.keeps λb o e=>(e0.bs b o e).1
 have g:∀y∈ps.zip us,scope.names.lookup y.1=some .local\/(scope.names.lookup y.1=some .cell/\((cellsFrom (s.heap.objs.size+1) scope.names []).lookup y.1).isSome=true):=λ⟨n,v⟩ T=>by
  rcases S.par n (List.of_mem_zip T).1 with q|q
  ·exact .inl q
  ·exact .inr ⟨q,Yl _ _ _ (.inl q)⟩
 refine codeAny_call_function D.depth (M _ _ R) rfl S.co S.gen rfl (PySem.W.codeRec_of M F) (hb _ _ _ _ ?_);refine wpAny_newFunctionEnv_cells S.kind g λenv Z G x=>?_;subst Z;refine⟨C.keeps x.toInCall.keep,codeAny_func ?_⟩;obtain⟨t,U,X⟩:=h A outer s H vs Q E (D.deeper _) j;have I:Inv (vF CX P w K mg base N qual scope f a A outer s H E) [] (iu N vs) H G:=Cy S D.hd e0 Y r x;refine XE (U [] G (iu N vs) H _ I X) (λfl p i=>?_) λe p i=>i
 have l:∀{d:St} {H':Hp} {v:V} {u:Value},Inv (vF CX P w K mg base N qual scope f a A outer s H E) [] d H' p->RelV v u->Q v H'->CE outer P w H s Q u p:=
  λ{d H' v u} J z q=>⟨v,H',J.os,J.bare,J.base,J.hok,z,q⟩
 cases fl with
 |ret u=>
   obtain⟨v,d,H',J,z,q⟩:=i;exact l J z q
 |next=>
   obtain⟨d,H',J,q⟩:=i;exact l (v:=V.non) (u:=Value.none) J rfl q
 |brk=>
   obtain⟨_,_,_,q⟩:=i;exact False.elim q
 |cont=>
   obtain⟨_,_,_,q⟩:=i;exact False.elim q
section
variable{X:Cx}{x:Str}{p pos:Pos}{e:Expr}{es:List Expr}{t:TA}{id T:String}{r:List V->Hp->VK->Prop}
def Ie(r:List V->Hp->VK->Prop)(t:TA):TE:=λZ H Q=>t Z H λvs H1=>r vs H1 Q
theorem bw(m:dR X (.builtin id) r)(k:Gl X x)(j:X.mg x=none)(g:bootBuiltins x=some (.builtin id))(n:PA X (e::es) t)(i:x ≠ "__name__" := by decide)(b:(x==("__debug__" : Str))=false:=by decide)
 (l:starEach (e::es) X.env=(false,eval e X.env)::starEach es X.env:=by rfl) (a:(backTo pos (starEach es X.env)).any (·.1)=false:=by rfl):PE X (.Call (.Name x p) (e::es) [] pos) (Ie r t):=by
 intro G s Z H Q I h;refine WS (jP I k j g ?_ i b);exact PyProof.Rows.callWith_builtin1 (bI (n pos G s Z H _ I h) λus c ⟨vs,H1,o,d,f⟩=>m G c Z H1 vs us Q o d f) l a
theorem cJ(m:dR X (.type T) r)(k:Gl X x)(j:X.mg x=none)(g:bootBuiltins x=some (.type T))(n:PA X (e::es) t)(i:x ≠ "__name__" := by decide)(b:(x==("__debug__" : Str))=false:=by decide)
 (l:starEach (e::es) X.env=(false,eval e X.env)::starEach es X.env:=by rfl) (a:(backTo pos (starEach es X.env)).any (·.1)=false:=by rfl):PE X (.Call (.Name x p) (e::es) [] pos) (Ie r t):=by
 intro G s Z H Q I h;refine WS (jP I k j g ?_ i b);exact WP (bI (n pos G s Z H _ I h) λus c ⟨vs,H1,o,d,f⟩=>m G c Z H1 vs us Q o d f) l a
end
section
variable{W:Type}[DecidableEq W]
def cY(kvs:List (W×V))(k:W):Option V:=(kvs.find? λa=>decide (a.1=k)).map (·.2)
def fI(kvs:List (W×V))(k:W)(v:V):List (W×V):=
 if (kvs.any λa=>decide (a.1=k))=true then kvs.map (λa=>if a.1=k then (a.1,v) else a) else kvs++[(k,v)]
def fo(kvs:List (W×V))(k:W):List (W×V):=kvs.filter λa=>decide (a.1≠k)
theorem C9{k:W}:cY ([]:List (W×V)) k=none:=rfl
theorem ka{p:W×V}{r:List (W×V)}{k:W}(e:p.1=k):cY (p::r) k=some p.2:=by simp[cY,Wy,e]
theorem kc{p:W×V}{r:List (W×V)}{k:W}(e:¬ p.1=k):cY (p::r) k=cY r k:=by simp[cY,Wy,e]
theorem ur(k:W):∀kvs:List (W×V),(kvs.any λa=>decide (a.1=k))=(cY kvs k).isSome
 |[]=>rfl
 | p::r=>by
   rw[Xd];by_cases e:p.1=k
   ·simp only[ka e,WE e,Bool.true_or,XU]
   ·rw[kc e,Wd e,Bool.false_or];exact ur k r
theorem mo(kvs:List (W×V))(k:W)(v:V):(fI kvs k v).length<=kvs.length+1:=by
 unfold fI;split
 ·rw[Vs];omega
 ·rw[Vy,Vx,List.length_nil];omega
theorem RelO.isSome_eq{o:Option V}{u:Option Value}(r:RelO o u):o.isSome=u.isSome:=by
 cases o with
 | none=>cases u with
   |none=>rfl
   |some _=>exact(show False from r).elim
 | some _=>cases u with
   |none=>exact(show False from r).elim
   |some _=>rfl
theorem RelO.getD{o:Option V}{u:Option Value}{d:V}{d':Value}(r:RelO o u)(rd:RelV d d'):RelV (o.getD d) (u.getD d'):=by
 cases o with
 | none=>cases u with
   |none=>exact rd
   |some _=>exact(show False from r).elim
 | some _=>cases u with
   |none=>exact(show False from r).elim
   |some _=>exact r
theorem KV.val{kvs:List (W×V)}{vs:List (W×Value)}(r:KV kvs vs)(k:W):RelO (cY kvs k) (valueAt vs k):=by
 unfold KV at r
 induction r with
 |nil=>exact True.intro
 |@cons p q ps a h t f=>
   obtain⟨d,g⟩:=h;by_cases e:p.1=k
   · have c:q.1=k:=d.symm.trans e;have b:valueAt (q::a) k=some q.2:=by simp[valueAt,Wy,c]
     rw[ka e,b];exact g
   · have c:¬ q.1=k:=λz=>e (d.trans z);have b:valueAt (q::a) k=valueAt a k:=by simp[valueAt,Wy,c]
     rw[kc e,b];exact f
theorem KV.any{kvs:List (W×V)}{vs:List (W×Value)}(r:KV kvs vs)(k:W):(kvs.any λa=>decide (a.1=k))=vs.any λa=>decide (a.1=k):=by
 unfold KV at r
 induction r with
 |nil=>rfl
 |cons h t b=>rw[Xd,Xd,b,h.1]
theorem KV.repl{kvs:List (W×V)}{vs:List (W×Value)}(r:KV kvs vs)(k:W){y:V}{u:Value}(c:RelV y u):
 KV (kvs.map λa=>if a.1=k then (a.1,y) else a) (vs.map λa=>if a.1=k then (a.1,u) else a):=by
 unfold KV at r ⊢
 induction r with
 |nil=>exact .nil
 |@cons p q ps g h t d=>
   rw[Vr,Vr];refine .cons ?_ d;obtain⟨b,f⟩:=h;by_cases e:p.1=k
   ·rw[Vq e,Vq (b.symm.trans e)];exact⟨b,c⟩
   ·rw[on e,on (λz=>e (b.trans z))];exact⟨b,f⟩
theorem KV.put{kvs:List (W×V)}{vs:List (W×Value)}(r:KV kvs vs)(k:W){y:V}{u:Value}(a:RelV y u):KV (fI kvs k y) (stored vs k u):=by
 unfold fI stored;rw[r.any k];by_cases e:(vs.any λb=>decide (b.1=k))=true
 ·rw[Vq e,Vq e];exact r.repl k a
 ·rw[on e,on e];exact Paired.snoc r ⟨rfl,a⟩
theorem KV.drop{kvs:List (W×V)}{vs:List (W×Value)}(r:KV kvs vs)(k:W):KV (fo kvs k) (without vs k):=by
 unfold KV at r ⊢;unfold fo without
 induction r with
 |nil=>exact .nil
 |@cons p q ps i h t d=>
   obtain⟨c,f⟩:=h;rw[Wv,Wv];by_cases e:p.1=k
   · have a:¬ decide (p.1≠k)=true:=by simp[e]
     have b:¬ decide (q.1≠k)=true:=by simp[c.symm.trans e]
     rw[on a,on b];exact d
   · have g:¬ q.1=k:=λz=>e (c.trans z);have a:decide (p.1≠k)=true:=by simp[e]
     have b:decide (q.1≠k)=true:=by simp[g]
     rw[Vq a,Vq b];exact .cons ⟨c,f⟩ d
theorem KV.length{kvs:List (W×V)}{vs:List (W×Value)}(r:KV kvs vs):kvs.length=vs.length:=WC r
theorem oJ(kvs:List (W×V))(k:W):(fo kvs k).length<=kvs.length:=Yx _ _
end
theorem kH{P:Program}{w:World}{k:aP}{u:Value}(r:RelV (kV k) u):(aG P w).is k u=true:=by
 cases k with
 |inl i=>obtain⟨t,e⟩:=(show ∃t,u=Value.int i t from r);subst e;exact u3 P w i t
 |inr x=>obtain⟨t,e⟩:=(show ∃t,u=Value.str x t from r);subst e;exact uZ P w x t
theorem q9{P:Program}{w:World}:∀{a:List aP} {us:List Value},Vals (a.map kV) us->ItemsAre (aG P w) a us
 |[],_,r=>by rw[Wt]at r;cases r;exact .nil
 | k::a,_,r=>by
   rw[Vr]at r;cases r with
   |cons h t=>exact .cons (kH h) (q9 t)
abbrev KT(H:Hp):List (List aP×V)->List (List aP×Addr×Value)->Prop:=Paired λp q=>p.1=q.1/\H q.2.1=some (.tup (p.1.map kV))/\RelV p.2 q.2.2
theorem KT.val{H:Hp}{kvs:List (List aP×V)}{xs:List (List aP×Addr×Value)}(r:KT H kvs xs)(k:List aP):RelO (cY kvs k) ((atKey xs k).map (·.2)):=by
 induction r with
 |nil=>exact True.intro
 |@cons p q ps a h t f=>
   obtain⟨d,_,g⟩:=h;by_cases e:p.1=k
   · have c:q.1=k:=d.symm.trans e;have b:atKey (q::a) k=some q.2:=by simp[atKey,Wy,c]
     rw[ka e,b];exact g
   · have c:¬ q.1=k:=λz=>e (d.trans z);have b:atKey (q::a) k=atKey a k:=by simp[atKey,Wy,c]
     rw[kc e,b];exact f
theorem KT.repl{H:Hp}{kvs:List (List aP×V)}{xs:List (List aP×Addr×Value)}(r:KT H kvs xs)(k:List aP){y:V}{u:Value}(d:RelV y u):
 KT H (kvs.map λb=>if b.1=k then (b.1,y) else b) (xs.map (putAt k u)):=by
 induction r with
 |nil=>exact .nil
 |@cons p q ps i h t f=>
   rw[List.map_cons,List.map_cons];refine .cons ?_ f;obtain⟨a,c,g⟩:=h;unfold putAt;by_cases e:p.1=k
   ·rw[Vq e,Vq (a.symm.trans e)];exact⟨a,c,d⟩
   ·rw[on e,on (λz=>e (a.trans z))];exact⟨a,c,g⟩
theorem KT.put{H:Hp}{kvs:List (List aP×V)}{xs:List (List aP×Addr×Value)}(r:KT H kvs xs)(k:List aP){b:Addr}{y:V}{u:Value}(d:H b=some (.tup (k.map kV)))(a:RelV y u):
 KT H (fI kvs k y) (storedH xs k b u):=by
 have e:(kvs.any λc=>decide (c.1=k))=(atKey xs k).isSome:=by
  rw[ur,(r.val k).isSome_eq,X0]
 unfold fI storedH;rw[e];by_cases q:(atKey xs k).isSome=true
 ·rw[Vq q,Vq q];exact r.repl k a
 ·rw[on q,on q];exact Paired.snoc r ⟨rfl,d,a⟩
theorem KT.keeps{H H':Hp}{kvs:List (List aP×V)}{xs:List (List aP×Addr×Value)}(r:KT H kvs xs)(c:∀b a,H b=some (.tup a)->H' b=some (.tup a)):KT H' kvs xs:=
 Paired.mapP r λ_ _ z=>⟨z.1,c _ _ z.2.1,z.2.2⟩
section
variable{P:Program}{w:World}{H:Hp}{h:Heap}{a:Addr}
theorem K6{u:HO}(ok:HOk P w H h)(e:Rd H a u):ObjOk P w H h a u:=e.ok ok
theorem kQ{kvs:List (aP×V)}(ok:HOk P w H h)(e:Rd H a (.dK kvs)):kvs.length<=sizeLine/\(a==sysModules)=false/\∃vs,KV kvs vs/\h.DictOf (aG P w) a vs:=
 show ObjOk P w H h a (.dK kvs) from K6 ok e
theorem GS{kvs:List (aP×V)}(ok:HOk P w H h)(e:H a=some (.dK kvs)):kvs.length<=sizeLine/\(a==sysModules)=false/\∃vs,KV kvs vs/\h.DictOf (aG P w) a vs:=kQ ok (.inl e)
theorem fZ{b:List aP}(ok:HOk P w H h)(e:H a=some (.tup (b.map kV))):(tupleKind (aG P w)).is h b a:=by
 obtain⟨_,its,r,o,f,d,n,c⟩:=(show ObjOk P w H h a (.tup (b.map kV)) from ok a _ e);exact⟨o,its.toArray,n,f,d,c,by simpa using q9 r⟩
theorem mD{kvs:List (List aP×V)}(ok:HOk P w H h)(e:Rd H a (.dT kvs)):kvs.length<=sizeLine/\(a==sysModules)=false/\
 ∃xs,KT H kvs xs/\h.DictOfH (tupleKind (aG P w)) a xs:=by
 obtain⟨z,y,xs,r,o,n,ep,k,j,i,g,f⟩:=(show ObjOk P w H h a (.dT kvs) from K6 ok e);refine⟨z,y,xs,r,o,n,ep,k,j,i,g,λx b=>?_,f⟩
 have all:∀{l:List (List aP×V)} {m:List (List aP×Addr×Value)},KT H l m->∀x∈m,(tupleKind (aG P w)).is h x.1 x.2.1:=by
  intro l m q
  induction q with
  |nil=>intro x b;exact nomatch b
  |@cons p q ps s c t d=>
    intro x b;rcases VA.mp b with e|b
    ·subst e;exact fZ ok (by rw[<-c.1];exact c.2.1)
    ·exact d x b
 exact all r x b
theorem GN{kvs:List (List aP×V)}(ok:HOk P w H h)(e:H a=some (.dT kvs)):kvs.length<=sizeLine/\(a==sysModules)=false/\
 ∃xs,KT H kvs xs/\h.DictOfH (tupleKind (aG P w)) a xs:=mD ok (.inl e)
end
def DGet(H:Hp)(a:Addr)(y:V)(r:Option V):Prop:=
 (∃kvs k,Rd H a (.dK kvs)/\y=kV k/\r=cY kvs k)\/∃kvs k b,Rd H a (.dT kvs)/\y=.ref b/\H b=some (.tup (k.map kV))/\r=cY kvs k
def DPut(H:Hp)(a:Addr)(y v:V)(H':Hp):Prop:=
 (∃kvs k,H a=some (.dK kvs)/\y=kV k/\kvs.length<sizeLine/\H'=upd H a (.dK (fI kvs k v)))\/
 ∃kvs k b,H a=some (.dT kvs)/\y=.ref b/\H b=some (.tup (k.map kV))/\kvs.length<sizeLine/\H'=upd H a (.dT (fI kvs k v))
theorem DGet.k{H:Hp}{a:Addr}{kvs:List (aP×V)}{k:aP}(e:H a=some (.dK kvs)):DGet H a (kV k) (cY kvs k):=.inl ⟨kvs,k,.inl e,rfl,rfl⟩
theorem DPut.k{H:Hp}{a:Addr}{kvs:List (aP×V)}{k:aP}{v:V}(e:H a=some (.dK kvs))(b:kvs.length<sizeLine):DPut H a (kV k) v (upd H a (.dK (fI kvs k v))):=.inl ⟨kvs,k,e,rfl,b,rfl⟩
theorem DPut.t{H:Hp}{a b:Addr}{kvs:List (List aP×V)}{k:List aP}{v:V}(e:H a=some (.dT kvs))(d:H b=some (.tup (k.map kV)))(c:kvs.length<sizeLine):
 DPut H a (.ref b) v (upd H a (.dT (fI kvs k v))):=.inr ⟨kvs,k,b,e,rfl,d,c,rfl⟩
section
variable{X:Cx}{G:P1}{Z:St}{H:Hp}{s:Shared}{a:Addr}{y v:V}{u r:Value}{o:Option V}{A:Around}{E:P4}
theorem Inv.big(I:Inv X G Z H s):sysModules<s.heap.objs.size:=by
 have h:mainGlobals<s.heap.objs.size:=(I.mod.glob.keeps I.bk).lt;exact Nat.lt_trans (by decide) h
theorem CK{Q:P4}(r:A.units+1<cLine)(I:Inv X G Z H s)(g:DGet H a y (some v))(q:RelV y u)(h:∀f n,Inv X G Z H n->RelV v f->Q f n):
 wpAny (model X.prog X.w) A (getItem (.ref a) u) Q E s:=by
 rcases g with ⟨kvs,k,e,m,l⟩|⟨kvs,k,b,e,m,t,l⟩
 ·subst m;obtain⟨z,hd,vs,d,dd⟩:=kQ I.hok e;obtain⟨f,i,c⟩:=RelO.some_of (v:=v) (o:=valueAt vs k) (by rw[l];exact d.val k);exact wpAny_getItem_of (kH q) dd.mapOf i (h f _ (I.tok _) c)
 ·subst m;cases(show u=Value.ref b from q);obtain⟨z,hd,xs,d,dd⟩:=mD I.hok e;obtain⟨f,i,c⟩:=RelO.some_of (v:=v) (o:=(atKey xs k).map (·.2)) (by rw[l];exact d.val k);obtain⟨p,hp,j⟩:=VJ.mp i;refine wpAny_getItem_heap (WT r) (fZ I.hok t) dd hp ?_;rw[j];exact h f _ (I.tok _) c
theorem Vd{Q:P4}(j:A.units+1<cLine)(I:Inv X G Z H s)(g:DGet H a y o)(i:RelV y u)(h:∀f,Inv X G Z H f->Q (.bool o.isSome) f):
 wpAny (model X.prog X.w) A (compareOp .In u (.ref a)) Q E s:=by
 rcases g with ⟨kvs,k,e,d,l⟩|⟨kvs,k,b,e,d,m,l⟩
 ·subst d;obtain⟨z,hd,vs,c,dd⟩:=kQ I.hok e;refine wpAny_in_of (kH i) hd dd.mapOf ?_;rw[<-(c.val k).isSome_eq,<-l];exact h _ (I.tok _)
 ·subst d;cases(show u=Value.ref b from i);obtain⟨z,hd,xs,c,dd⟩:=mD I.hok e;refine wpAny_in_heap (WT j) (fZ I.hok m) hd dd ?_;have q:=(c.val k).isSome_eq;rw[X0]at q;rw[<-q,<-l];exact h _ (I.tok _)
theorem JU{Q:P4}(j:A.units+1<cLine)(I:Inv X G Z H s)(g:DGet H a y o)(i:RelV y u)(h:∀f,Inv X G Z H f->Q (.bool (!o.isSome)) f):
 wpAny (model X.prog X.w) A (compareOp .NotIn u (.ref a)) Q E s:=by
 rcases g with ⟨kvs,k,e,d,l⟩|⟨kvs,k,b,e,d,m,l⟩
 ·subst d;obtain⟨z,hd,vs,c,dd⟩:=kQ I.hok e;refine wpAny_notIn_of (kH i) hd dd.mapOf ?_;rw[<-(c.val k).isSome_eq,<-l];exact h _ (I.tok _)
 ·subst d;cases(show u=Value.ref b from i);obtain⟨z,hd,xs,c,dd⟩:=mD I.hok e;refine wpAny_notIn_heap (WT j) (fZ I.hok m) hd dd ?_;have q:=(c.val k).isSome_eq;rw[X0]at q;rw[<-q,<-l];exact h _ (I.tok _)
theorem kT{h':Heap}{t':Nat}{ob:HO}(I:Inv X G Z H s)(c:Ux (H a))(d:Heap.SameBut a s.heap h')(f:∃q,h'.get? a=some q)(new:ObjOk X.prog X.w (upd H a ob) h' a ob):
 Inv X G Z (upd H a ob) {s with heap:=h',toks:=t'}:=
 I.write (x:=a) (e:=a) c (.inl rfl) (λb q g z=>(d.2 b g).trans z) f new
theorem GT{P:Program}{w:World}{H':Hp}{h':Heap}{kvs:List (aP×V)}{vs:List (aP×Value)}(z:kvs.length<=sizeLine)(hd:(a==sysModules)=false)(b:KV kvs vs)(dd:h'.DictOf (aG P w) a vs):
 ObjOk P w H' h' a (.dK kvs):=⟨z,hd,vs,b,dd⟩
theorem CJ{H':Hp}{Q:Unit->Shared->Prop}(D:A.units+1<cLine)(I:Inv X G Z H s)(g:DPut H a y v H')(t:RelV y u)(x:RelV v r)(h:∀p,Inv X G Z H' p->Q () p):
 wpAny (model X.prog X.w) A (setItem (.ref a) u r) Q E s:=by
 rcases g with ⟨kvs,k,e,n,l,o⟩|⟨kvs,k,b,e,n,C,l,o⟩
 · subst n o;obtain⟨z,hd,vs,d,dd⟩:=GS I.hok e;have hz:vs.length<=sizeLine:=by rw[<-d.length];exact z
   have m:(fI kvs k v).length<=sizeLine:=by have:=mo kvs k v;omega
   refine wpAny_setItem_pairs (hsz:=hz) (kH t) dd λh' f j=>h _ ?_;have F:∃q,h'.get? a=some q:=let ⟨q,_,_,i,_⟩:=f;⟨q,i⟩
   exact kT I (by rw[e];exact True.intro) j F (GT m hd (d.put k x) f)
 · subst n o;cases(show u=Value.ref b from t);obtain⟨z,hd,xs,d,dd⟩:=GN I.hok e;have hz:xs.length<=sizeLine:=by rw[<-WC d];exact z
   have m:(fI kvs k v).length<=sizeLine:=by have:=mo kvs k v;omega
   refine wpAny_setItem_heap (hsz:=hz) (WT D) (fZ I.hok C) dd λh' f j=>h _ ?_;obtain⟨q,N,ep,i,M,L,K,_,J⟩:=f;refine kT I (by rw[e];exact True.intro) j ⟨q,i⟩ ⟨m,hd,_,(d.put k C x).keeps λc O B=>?_,q,N,ep,i,M,L,K,J⟩;rw[aE (Fg B e (λz=>nomatch z))];exact B
end
section
variable{X:Cx}{G:P1}{Z:St}{H:Hp}{s:Shared}{a:Addr}{kvs:List (aP×V)}{k:aP}{u:Value}{A:Around}{E:P4}
theorem Ts{v:V}{more:List Value}{Q:P4}(I:Inv X G Z H s)(e:H a=some (.dK kvs))(f:RelV (kV k) u)(l:cY kvs k=some v)(m:more=[]\/∃x,more=[x])
 (h:∀c j,Inv X G Z (upd H a (.dK (fo kvs k))) j->RelV v c->Q c j):wpAny (model X.prog X.w) A (call (.builtin "dict.pop") (.ref a::u::more)) Q E s:=by
 obtain⟨z,hd,vs,b,dd⟩:=GS I.hok e;obtain⟨c,n,g⟩:=RelO.some_of (v:=v) (o:=valueAt vs k) (by rw[<-l];exact b.val k)
 have hp:(keyPart u).isSome=true:=by
  cases k with
  |inl i=>obtain⟨t,q⟩:=(show ∃t,u=Value.int i t from f);subst q;rfl
  |inr x=>obtain⟨t,q⟩:=(show ∃t,u=Value.str x t from f);subst q;rfl
 have B:argsOk "dict.pop" ⟨.ref a::u::more,[]⟩:=by
  rcases m with q|⟨x,q⟩
  ·subst q;exact PySem.F.args_dict_pop_2 _ _
  ·subst q;exact Yd _ _ _
 refine Xj WU dd.typeIs Ym B (meets_dict_pop_there (aG X.prog X.w) a (kH f) more m hp)
  ⟨vs,c,dd,by rw[<-b.length];exact z,n,λh' d p=>h c _ ?_ g⟩
 have y:∃q,h'.get? a=some q:=let ⟨q,_,_,r,_⟩:=d;⟨q,r⟩
 exact kT I (by rw[e];exact True.intro) p y (GT (VW (oJ kvs k) z) hd (b.drop k) d)
theorem Pe{r:Value}{Q:P4}(I:Inv X G Z H s)(e:H a=some (.dK kvs))(b:RelV (kV k) u)(l:cY kvs k=none)(h:∀d,Inv X G Z H d->Q r d):
 wpAny (model X.prog X.w) A (call (.builtin "dict.pop") [.ref a,u,r]) Q E s:=by
 obtain⟨z,hd,vs,c,dd⟩:=GS I.hok e;have f:valueAt vs k=none:=RelO.none_of (by rw[<-l];exact c.val k)
 have hp:(keyPart u).isSome=true:=by
  cases k with
  |inl i=>obtain⟨t,q⟩:=(show ∃t,u=Value.int i t from b);subst q;rfl
  |inr x=>obtain⟨t,q⟩:=(show ∃t,u=Value.str x t from b);subst q;rfl
 exact Xj WU dd.typeIs Ym (Yd _ _ _) (meets_dict_pop_default (aG X.prog X.w) a (kH b) hd hp r) ⟨vs,dd,f,h _ (I.tok _)⟩
end
def Uw(i:Expr):Prop:=∀ov a,subscripted i false ov a=operate [ov,a] (getItem ov a)
theorem Iw{prog:Program}{w:World}{A:Around}{E:P4}{s:Shared}{env:Env}{b a:Expr}{pos:Pos}{T id:String}{Q:P4}
 (n:typeLookup (.type T) "__getitem__" = pure (some (.builtin id))) (m:Uw a)
 (h:wpAny (model prog w) A (eval b env) (λo f=>wpAny (model prog w) A (eval a env) (λi c=>c.TypeIs o T/\wpAny (model prog w) A (getItem o i) Q E c) E f) E s):
 wpAny (model prog w) A (eval (.Subscript b a pos) env) Q E s:=by
 refine Subscript_ (wpAny_mono h (λo f k=>wpAny_mono k (λi c d=>?_) λ_ _ x=>x) λ_ _ x=>x);obtain⟨l,d⟩:=d;unfold subscriptTail;refine wpAny_bind ?_;rw[getitemInPython_of_ne l.not_modules];refine wpAny_bind (wpAny_specialOf l n ?_)
 have g:wpAny (model prog w) A (subscripted a false o i) (λr e=>wpAny (model prog w) A (letTemporaryGo b o r >>= λ_=>pure r) Q E e) E c:=by
  rw[m o i];exact wpAny_operating (XE d (λr e j=>Vp (wpAny_letTemporaryGo (Vz j))) λ_ _ x=>x)
 first
  |exact Vz (Vp g)
  |exact Vp (Vz (Vp g))
  |exact Vp g
theorem vA{X:Cx}{G:P1}{Z:St}{H:Hp}{s:Shared}{a:Addr}{y:V}{o:Option V}(I:Inv X G Z H s)(g:DGet H a y o):s.TypeIs (.ref a) "dict" := by
 rcases g with ⟨kvs,k,e,_,_⟩|⟨kvs,k,b,e,_,_,_⟩
 ·obtain⟨_,_,vs,_,dd⟩:=kQ I.hok e;exact dd.typeIs
 ·obtain⟨_,_,xs,_,dd⟩:=mD I.hok e;exact dd.typeIs
def KN(c ty:TE):TE:=λZ H Q=>c Z H λx H1=>ty Z H1 λy b=>∃a v,x=.ref a/\DGet b a y (some v)/\Q v b
def QM(ty c:TE):TE:=λZ H Q=>ty Z H λy H1=>c Z H1 λx b=>∃a o,x=.ref a/\DGet b a y o/\Q (.bl o.isSome) b
def zg(ty c:TE):TE:=λZ H Q=>ty Z H λy H1=>c Z H1 λx b=>∃a o,x=.ref a/\DGet b a y o/\Q (.bl (!o.isSome)) b
def K4(d ty c:TE):TS:=λD Z H=>c Z H λv H1=>d Z H1 λx f=>ty Z f λy e=>∃a b,x=.ref a/\DPut e a y v b/\D.nx Z b
section
variable{X:Cx}{o i e value:Expr}{pos pos' tpos:Pos}{td ty tv:TE}
theorem sy(l:X.A.units+1<cLine)(n:PE X o td)(hi:PE X i ty)(m:Uw i):PE X (.Subscript o i pos) (KN td ty):=by
 intro G s Z H Q I h;refine Iw PySem.F.slot_dict_getitem.lookup m (bI (n G s Z H _ I h) λu d ⟨x,H1,q,f,k⟩=>bI (hi G d Z H1 _ q k) λz s2 ⟨y,r,c,e,a,v,ex,g,j⟩=>?_);subst ex;obtain rfl:u=Value.ref a:=f;exact⟨vA c g,CK l c g e λt w p b=>⟨v,r,p,b,j⟩⟩
theorem xq(j:X.A.units+1<cLine)(hi:PE X i ty)(k:PE X o td):PC X .In i o (QM ty td):=by
 intro G s Z H Q I h;refine bI (hi G s Z H _ I h) λr b ⟨y,H1,n,c,f⟩=>bI (k G b Z H1 _ n f) λu s2 ⟨x,p,m,d,a,ov,ex,g,e⟩=>?_;subst ex;obtain rfl:u=Value.ref a:=d;exact Vd j m g c λq l=>⟨.bl ov.isSome,p,l,rfl,e⟩
theorem qL(j:X.A.units+1<cLine)(hi:PE X i ty)(k:PE X o td):PC X .NotIn i o (zg ty td):=by
 intro G s Z H Q I h;refine bI (hi G s Z H _ I h) λr b ⟨y,H1,n,c,f⟩=>bI (k G b Z H1 _ n f) λu s2 ⟨x,p,m,d,a,ov,ex,g,e⟩=>?_;subst ex;obtain rfl:u=Value.ref a:=d;exact JU j m g c λq l=>⟨.bl (!ov.isSome),p,l,rfl,e⟩
theorem dJ(m:X.A.units+1<cLine)(p:PE X o td)(hi:PE X i ty)(l:PE X value tv)(n:swapsWith value (some (.Subscript o i pos')) pos.line X.env=pure false):
 PS X (.Assign [.Subscript o i pos'] value pos) (K4 td ty tv):=by
 intro G s Z H D I h;refine wpAny_Assign_Subscript (bI (l G s Z H _ I h) λr b ⟨v,H1,z,e,k⟩=>bI (p G b Z H1 _ z k) λu s2 ⟨x,C,w,d,j⟩=>bI (hi G s2 Z C _ w j) λJ F ⟨y,K,t,c,a,B,ex,g,f⟩=>?_) n;subst ex;obtain rfl:u=Value.ref a:=d;exact CJ m t g c e λE q=>⟨Z,B,q,f⟩
end
theorem GU{P:Program}{w:World}{H:Hp}(h:Heap)(a:sysModules<h.objs.size):ObjOk P w H (h.push {cls:=.type "dict",data:=.dict #[]}) h.objs.size (.dK []):=
 ⟨WD _,V7.mpr (W6 (VX a)),[],.nil,Heap.DictOf.new h⟩
theorem GO{P:Program}{w:World}{H:Hp}(h:Heap)(a:sysModules<h.objs.size):ObjOk P w H (h.push {cls:=.type "dict",data:=.dict #[]}) h.objs.size (.dT []):=
 ⟨WD _,V7.mpr (W6 (VX a)),[],.nil,_,#[],0,VN _ rfl,⟨rfl,rfl,rfl⟩,rfl,rfl,Wk⟩
def Dk:TE:=λ_ H Q=>∀p,H p=none->Q (.ref p) (upd H p (.dK []))
def Dj:TE:=λ_ H Q=>∀p,H p=none->Q (.ref p) (upd H p (.dT []))
section
variable{X:Cx}{pos:Pos}
theorem EL:PE X (.Dict [] [] pos) Dk:=λG s Z H Q I h=>
 wpAny_Dict_empty ⟨.ref s.heap.objs.size,_,I.laid (a:=s.heap.objs.size) (o:=.dK []) (t':=s.toks) (λ_ _ q=>Vv _ q) (VE _) (GU s.heap I.big),rfl,h _ (I.hok.fresh (VE _))⟩
theorem dL:PE X (.Dict [] [] pos) Dj:=λG s Z H Q I h=>
 wpAny_Dict_empty ⟨.ref s.heap.objs.size,_,I.laid (a:=s.heap.objs.size) (o:=.dT []) (t':=s.toks) (λ_ _ q=>Vv _ q) (VE _) (GO s.heap I.big),rfl,h _ (I.hok.fresh (VE _))⟩
end
structure M1 (X:Cx) (o:Expr) (m:Str) (apos:Pos) (e:Expr) (cpos:Pos):Prop where
 base:attributeBase o m X.env (eval o X.env)=eval o X.env
 few:((backTo cpos (starEach [e] X.env)).all (λx=>!x.1)&&(backToKw cpos (keywordEach [] X.env)).all (λx=>x.1.isSome)
  && decide (([e]:List Expr).length+([]:List Keyword).length+(if ([]:List Keyword).isEmpty then 0 else 1)<30))=true
 line:(apos.endLine==cpos.line)=true
 trees:backTo cpos (starEach [e] X.env)=[(false,eval e X.env)]
structure M2 (X:Cx) (o:Expr) (m:Str) (apos:Pos) (e f:Expr) (cpos:Pos):Prop where
 base:attributeBase o m X.env (eval o X.env)=eval o X.env
 few:((backTo cpos (starEach [e,f] X.env)).all (λx=>!x.1)&&(backToKw cpos (keywordEach [] X.env)).all (λx=>x.1.isSome)
  && decide (([e,f]:List Expr).length+([]:List Keyword).length+(if ([]:List Keyword).isEmpty then 0 else 1)<30))=true
 line:(apos.endLine==cpos.line)=true
 trees:backTo cpos (starEach [e,f] X.env)=[(false,eval e X.env),(false,eval f X.env)]
def LV(H:Hp)(a:Addr):Prop:=(∃kvs,Rd H a (.dK kvs))\/∃kvs,Rd H a (.dT kvs)
theorem lO{X:Cx}{G:P1}{Z:St}{H:Hp}{s:Shared}{a:Addr}(I:Inv X G Z H s)(d:LV H a):
 s.TypeIs (.ref a) "dict" /\ (∀b,Value.ref a=.ref b->∃ob,s.heap.get? b=some ob/\ob.dict=none)/\(a==sysModules)=false:=by
 rcases d with ⟨kvs,e⟩|⟨kvs,e⟩
 ·obtain⟨_,hd,vs,_,dd⟩:=kQ I.hok e;refine⟨dd.typeIs,λb q=>?_,hd⟩;cases q;obtain⟨ob,_,_,f,c,_⟩:=dd;exact⟨ob,f,c.2.1⟩
 ·obtain⟨_,hd,xs,_,dd⟩:=mD I.hok e;refine⟨dd.typeIs,λb q=>?_,hd⟩;cases q;obtain⟨ob,_,_,f,c,_⟩:=dd;exact⟨ob,f,c.2.1⟩
section
variable{X:Cx}{G:P1}{Z:St}{H:Hp}{s:Shared}{a:Addr}{y d:V}{u r:Value}{o:Option V}{A:Around}{E:P4}
theorem Pg{Q:P4}(m:A.units+1<cLine)(I:Inv X G Z H s)(g:DGet H a y o)(j:RelV y u)(h:∀f i,Inv X G Z H i->RelV (o.getD .non) f->Q f i):
 wpAny (model X.prog X.w) A (call (.builtin "dict.get") [.ref a,u]) Q E s:=by
 rcases g with ⟨kvs,k,e,d,l⟩|⟨kvs,k,b,e,d,n,l⟩
 ·subst d;obtain⟨z,hd,vs,c,dd⟩:=kQ I.hok e;refine Xj WA dd.typeIs W8 (Ye _ _) (meets_dict_get (aG X.prog X.w) a (kH j) hd) ⟨_,dd.mapOf,h _ _ (I.tok _) ?_⟩;rw[l];exact(c.val k).getD rfl
 ·subst d;cases(show u=Value.ref b from j);obtain⟨z,hd,xs,c,dd⟩:=mD I.hok e;refine Xj WA dd.typeIs W8 (Ye _ _) (meetsH_dict_get (tupleKind (aG X.prog X.w)) a b hd) ⟨WT m,k,xs,fZ I.hok n,dd,h _ _ (I.tok _) ?_⟩;rw[l];exact(c.val k).getD rfl
theorem Pf{Q:P4}(n:A.units+1<cLine)(I:Inv X G Z H s)(g:DGet H a y o)(m:RelV y u)(rd:RelV d r)(h:∀i j,Inv X G Z H j->RelV (o.getD d) i->Q i j):
 wpAny (model X.prog X.w) A (call (.builtin "dict.get") [.ref a,u,r]) Q E s:=by
 rcases g with ⟨kvs,k,e,f,l⟩|⟨kvs,k,b,e,f,p,l⟩
 ·subst f;obtain⟨z,hd,vs,c,dd⟩:=kQ I.hok e;refine Xj WA dd.typeIs W8 (Yg _ _ _) (meets_dict_get_default (aG X.prog X.w) a (kH m) hd r) ⟨_,dd.mapOf,h _ _ (I.tok _) ?_⟩;rw[l];exact(c.val k).getD rd
 ·subst f;cases(show u=Value.ref b from m);obtain⟨z,hd,xs,c,dd⟩:=mD I.hok e;refine Xj WA dd.typeIs W8 (Yg _ _ _) (meetsH_dict_get_default (tupleKind (aG X.prog X.w)) a b hd r) ⟨WT n,k,xs,fZ I.hok p,dd,h _ _ (I.tok _) ?_⟩;rw[l];exact(c.val k).getD rd
end
def Dm(c ty:TE):TE:=λZ H Q=>c Z H λx H1=>∃a,x=.ref a/\LV H1 a/\ty Z H1 λy b=>∃o,DGet b a y o/\Q (o.getD .non) b
def Dl(d ty c:TE):TE:=λZ H Q=>d Z H λx H1=>∃a,x=.ref a/\LV H1 a/\ty Z H1 λy e=>c Z e λz b=>∃o,DGet b a y o/\Q (o.getD z) b
def Di(d ty c:TE):TE:=λZ H Q=>d Z H λx H1=>∃a,x=.ref a/\LV H1 a/\ty Z H1 λy e=>c Z e λz b=>∃kvs k,b a=some (.dK kvs)/\y=kV k/\
 (∀v,cY kvs k=some v->Q v (upd b a (.dK (fo kvs k))))/\(cY kvs k=none->Q z b)
section
variable{X:Cx}{o e f:Expr}{apos cpos:Pos}{td ty tx:TE}
theorem uN(q:X.A.units+1<cLine)(r:PE X o td)(t:PE X e ty)(m:M1 X o "get" apos e cpos):PE X (.Call (.Attribute o "get" apos) [e] [] cpos) (Dm td ty):=by
 intro G s Z H Q I h;refine Xg m.base m.few m.line V1 WA Yy (bI (r G s Z H _ I h) λu j ⟨x,H1,c,l,a,ex,d,p⟩=>?_);subst ex;obtain rfl:u=Value.ref a:=l;obtain⟨i,f,_⟩:=lO c d;refine⟨i,f,?_⟩;rw[m.trees];refine Wo rfl (WF (Wh (bI (t G j Z H1 _ c p) λD s2 ⟨y,z,w,k,ov,g,n⟩=>WI ?_)));exact Pg q w g k λB C v b=>⟨_,z,v,b,n⟩
theorem EM(v:X.A.units+1<cLine)(w:PE X o td)(C:PE X e ty)(B:PE X f tx)(m:M2 X o "get" apos e f cpos):PE X (.Call (.Attribute o "get" apos) [e,f] [] cpos) (Dl td ty tx):=by
 intro G s Z H Q I h;refine Xg m.base m.few m.line V1 WA Yy (bI (w G s Z H _ I h) λu k ⟨x,H1,c,p,a,ex,d,t⟩=>?_);subst ex;obtain rfl:u=Value.ref a:=p;obtain⟨j,i,_⟩:=lO c d;refine⟨j,i,?_⟩;rw[m.trees]
 refine Wo rfl (WF (Wh (bI (C G k Z H1 _ c t) λO s2 ⟨y,K,F,n,r⟩=>
  Wh (bI (B G s2 Z K _ F r) λP N ⟨z,J,E,l,ov,g,q⟩=>WI ?_))))
 exact Pf v E g n l λL M D b=>⟨_,J,D,b,q⟩
theorem uM(F:PE X o td)(K:PE X e ty)(J:PE X f tx)(m:M2 X o "pop" apos e f cpos):PE X (.Call (.Attribute o "pop" apos) [e,f] [] cpos) (Di td ty tx):=by
 intro G s Z H Q I h;refine Xg m.base m.few m.line V1 WU XC (bI (F G s Z H _ I h) λu t ⟨x,H1,n,A,a,ex,d,E⟩=>?_);subst ex;obtain rfl:u=Value.ref a:=A;obtain⟨q,p,_⟩:=lO n d;refine⟨q,p,?_⟩;rw[m.trees]
 refine Wo rfl (WF (Wh (bI (K G t Z H1 _ n E) λT s2 ⟨y,P,N,g,D⟩=>
  Wh (bI (J G s2 Z P _ N D) λL S ⟨z,O,j,w,kvs,k,i,M,C,B⟩=>WI ?_))))
 subst M;cases l:cY kvs k with
 |some v=>exact Ts j i g l (.inr ⟨L,rfl⟩) λR r c b=>⟨v,_,c,b,C v l⟩
 |none=>exact Pe j i g l λr c=>⟨z,O,c,w,B l⟩
end
end L2
namespace HT
open PySem PyProof.Rows
def kF:List Int->List Int->Bool
 |[],[]=>false
 |[],_::_=>true
 |_::_,[]=>false
 |x::xs,y::a=>if x=y then kF xs a else decide (x<y)
theorem nZ(x y:Int)(xs a:List Int):kF (x::xs) (y::a)=if x=y then kF xs a else decide (x<y):=rfl
theorem Es(A:Around)(s:Shared)(a:Int)(t:Tok)(c:Int)(u:Tok)(prog:Program)(w:World)(E:P4)(Q:P4)(h:Q (.bool (decide (a<c))) s):
 wpAny (model prog w) A (richCompare .Lt (.int a t) (.int c u)) Q E s:=
 (PyProof.Rows.lt_int h:wpAny (model prog w) A (compareOp .Lt (.int a t) (.int c u)) Q E s)
section
variable{prog:Program}{w:World}{A:Around}{E:P4}{s:Shared}
def uG(n d:Nat):Option Int->Nat
 |none=>d
 |some v=>if v<0 then (v+(n:Int)).toNat else min v.toNat n
theorem D0(n d:Nat):uG n d none=d:=rfl
end
end HT
namespace L2
open PySem PySem.Spec PyProof.Rows
abbrev TO:=St->Hp->(Option Int->Hp->Prop)->Prop
def PO(X:Cx)(e:Option Expr)(t:TO):Prop:=
 ∀(G:P1) (s:Shared) (Z:St) (H:Hp) (Q:Option Int->Hp->Prop),Inv X G Z H s->t Z H Q->
  wpAny (model X.prog X.w) X.A (evalPart e X.env) (λu a=>∃o H',Inv X G Z H' a/\IsPart u o/\Q o H') X.xe s
def ze:TO:=λ_ H Q=>Q none H
def KG(t:TE):TO:=λZ H Q=>t Z H λx H1=>∃i,x=.int i/\Q (some i) H1
theorem yj{ns:List Int}:∀{us:List Value},Vals (ns.map V.int) us->IntsAre us ns:=by
 induction ns with
 |nil=>intro us r;rw[Wt]at r;cases r;exact .nil
 |cons n ns c=>
   intro us r;rw[Vr]at r;cases r with
   |cons b a=>
     obtain⟨t,e⟩:=b;subst e;exact .cons n t (c a)
section
variable{X:Cx}{e:Expr}{te:TE}{lo hi:Option Expr}{tl th:TO}{pos p2:Pos}
theorem Jd:PO X none ze:=by
 intro G s Z H Q I h;rw[evalPart_none];exact Vz ⟨none,H,I,.none,h⟩
theorem Jc(h:PE X e te):PO X (some e) (KG te):=by
 intro G s Z H Q I c;rw[evalPart_some];refine bI (h G s Z H _ I c) λu f ⟨x,H1,d,a,b⟩=>?_;obtain⟨i,rfl,q⟩:=b;obtain⟨t,rfl⟩:=a;exact⟨some i,H1,d,.int i t,q⟩
def Vj(X:Cx)(r:V->Option Int->Option Int->Hp->VK->Prop):Prop:=
 ∀(G:P1) (s:Shared) (Z:St) (H:Hp) (x:V) (v b a:Value) (lo hi:Option Int) (c:Addr) (Q:VK),Inv X G Z H s->RelV x v->s.heap.IsSliceOf c b a .none->IsPart b lo->IsPart a hi->r x lo hi H Q->
  ∃T id,typeLookup (.type T) "__getitem__" = pure (some (.builtin id))/\s.TypeIs v T/\wpAny (model X.prog X.w) X.A (getItem v (.ref c)) (EP X G Z Q) X.xe s
def tSl(r:V->Option Int->Option Int->Hp->VK->Prop)(te:TE)(tl th:TO):TE:=λZ H Q=>te Z H λx H1=>tl Z H1 λl b=>th Z b λu a=>r x l u a Q
theorem EI{r:V->Option Int->Option Int->Hp->VK->Prop}(t:Vj X r)(B:PE X e te)(y:PO X lo tl)(o:PO X hi th):PE X (.Subscript e (.Slice lo hi none p2) pos) (tSl r te tl th):=by
 intro G s Z H Q I h;refine Subscript_ (bI (B G s Z H _ I h) λv g ⟨x,H1,J,i,m⟩=>?_);refine wpAny_Slice (bI (y G g Z H1 _ J m) λd s2 ⟨l,K,F,pl,k⟩=>bI (o G s2 Z K _ F k) λc a ⟨u,f,E,n,j⟩=>?_);rw[evalPart_none];refine wpAny_pure ?_;have D:Inv X G Z f {a with heap:=a.heap.push {cls:=.type "slice",data:=.fields #[d,c,.none]}}:=E.kept (t':=a.toks) λb ob q=>Heap.get?_push_of_some _ q;obtain⟨T,id,C,p,z⟩:=t G {a with heap:=a.heap.push {cls:=.type "slice",data:=.fields #[d,c,.none]}} Z f x v d c l u a.heap.objs.size Q D i (Heap.IsSliceOf.new ..) pl n j;show wpAny (model X.prog X.w) X.A (subscriptTail e (.Slice lo hi none p2) v (.ref a.heap.objs.size)) (EP X G Z Q) X.xe {a with heap:=a.heap.push {cls:=.type "slice",data:=.fields #[d,c,.none]}};exact tail_any (ops:=[.ref a.heap.objs.size,v]) p C z (by with_unfolding_all rfl)
def CL(xs:List V)(lo hi:Option Int):List V:=(xs.drop (HT.uG xs.length 0 lo)).take (HT.uG xs.length xs.length hi-HT.uG xs.length 0 lo)
theorem vH(xs:List V)(lo hi:Option Int):(CL xs lo hi).length<=xs.length:=by
 unfold CL;rw[List.length_take,List.length_drop];omega
end
def oj(n:Nat)(i:Int):Option Nat:=if 0<=i then (if i<n then some i.toNat else none) else if -(n:Int)<=i then some (i+n).toNat else none
def li{W:Type}(xs:List W)(i:Int):Option W:=(oj xs.length i).bind λj=>xs[j]?
theorem sR{n:Nat}{i:Int}{j:Nat}(h:oj n i=some j):seqIndex? i n=some j/\j<n/\-(n:Int)<=i/\i<n:=by
 unfold oj at h;by_cases h0:0<=i
 · rw[Vq h0]at h;by_cases a:i<n
   ·rw[Vq a]at h;have e:i.toNat=j:=VO h;exact⟨by rw[seqIndex_of h0 a,e],by omega,by omega,a⟩
   ·rw[on a]at h;cases h
 · rw[on h0]at h;by_cases a:-(n:Int)<=i
   ·rw[Vq a]at h;have e:(i+n).toNat=j:=VO h;exact⟨by rw[seqIndex_neg (by omega) a,e],by omega,a,by omega⟩
   ·rw[on a]at h;cases h
theorem Bp{W:Type}{xs:List W}{i:Int}{v:W}(h:li xs i=some v):∃j,seqIndex? i xs.length=some j/\xs[j]?=some v/\j<xs.length/\-(xs.length:Int)<=i/\i<xs.length:=by
 unfold li at h;cases e:oj xs.length i with
 |none=>rw[e]at h;cases h
 |some j=>
   rw[e]at h;obtain⟨d,c,b,a⟩:=sR e;exact⟨j,d,h,c,b,a⟩
theorem wE{W:Type}(xs:List W)(v:W):li (xs++[v]) (-1)=some v:=by
 have a:(xs++[v]).length=xs.length+1:=by simp
 have e:oj (xs++[v]).length (-1)=some xs.length:=by
  unfold oj;rw[a,if_neg (by decide),if_pos (by omega)];congr 1;omega
 unfold li;rw[e];show(xs++[v])[xs.length]?=some v;simp
def Kg(b:Expr):Prop:=∀o i,subscripted b false o i=operate [o,i] (getItem o i)
def Uy(X:Cx)(r:R2):Prop:=
 ∀(b a:Expr) (G:P1) (s:Shared) (Z:St) (H:Hp) (x y:V) (v u:Value) (Q:VK),Inv X G Z H s->RelV x v->RelV y u->r x y H Q->
  subscripted a false v u=operate [v,u] (getItem v u)->wpAny (model X.prog X.w) X.A (subscriptTail b a v u) (EP X G Z Q) X.xe s
def MtR(X:Cx)(id:String)(r:V->List V->Hp->VK->Prop):Prop:=
 ∀(G:P1) (s:Shared) (Z:St) (H:Hp) (x:V) (xs:List V) (v:Value) (us:List Value) (Q:VK),Inv X G Z H s->RelV x v->Vals xs us->r x xs H Q->
  wpAny (model X.prog X.w) X.A (call (.builtin id) (v::us)) (EP X G Z Q) X.xe s
section
variable{X:Cx}{a b:Expr}{ta tb:TE}{pos:Pos}
theorem dC{r:R2}(f:Uy X r)(i:PE X a ta)(g:PE X b tb)(e:Kg b):PE X (.Subscript a b pos) (Ic r ta tb):=by
 intro G s Z H Q I h;exact Subscript_ (Qb i g I h λv u s2 x y k j d c q=>f a b G s2 Z k x y v u Q j d c q (e _ _))
def I8(K:F0):R2:=λx y H Q=>∃p xs i v,x=.ref p/\y=.int i/\SqL K H p xs/\li xs i=some v/\Q v H
def MU(K:F0):R2:=λx y H Q=>∃p xs i v,x=.ref p/\y=.int i/\SqT K H p xs/\li xs i=some v/\Q v H
theorem JH:Uy X (I8 X.K):=by
 intro c d G s Z H x y v u Q I n m h g;obtain⟨p,xs,i,z,rfl,rfl,o,B,q⟩:=h;cases n;obtain⟨t,rfl⟩:=m;obtain⟨its,r,pl,hz⟩:=I.list o;obtain⟨j,b,E,J,D,C⟩:=Bp B;obtain⟨w,k,e⟩:=r.get E;have A:=r.length;have F:=sM;have a:EP X G Z Q w s:=⟨z,H,I,e,q⟩;by_cases h0:0<=i
 · have f:i.toNat=j:=by
    rw[seqIndex_of h0 C]at b;exact VO b
   exact item_listR pl.isList h0 (by omega) (by rw[f];simpa using k) a g
 · have f:(i+(its.toArray.size:Int)).toNat=j:=by
    rw[seqIndex_neg (by omega) D]at b;rw[VF,<-A];exact VO b
   exact subscriptTail_builtinR (x:=w) pl.isList.typeIs slot_list_getitem.lookup
    (wpAny_getItem_list_neg (Q:=λr l=>r=w/\EP X G Z Q r l) pl.isList (by omega) (by rw[VF]<;>omega) (by omega) (by rw[f];simpa using k) ⟨rfl,a⟩) g
theorem O2:Uy X (MU X.K):=by
 intro a b G s Z H x y v u Q I g f h k;obtain⟨p,xs,i,z,rfl,rfl,l,n,q⟩:=h;cases g;obtain⟨t,rfl⟩:=f;obtain⟨its,r,pl,hz⟩:=I.tuple l;obtain⟨j,A,o,F,E,D⟩:=Bp n;obtain⟨w,B,c⟩:=r.get o;have m:=r.length;have C:=sM;have d:EP X G Z Q w s:=⟨z,H,I,c,q⟩
 exact subscriptTail_builtinR (x:=w) pl.typeIs slot_tuple_getitem.lookup
  (getItem_tuple (j:=j) (Q:=λr e=>r=w/\EP X G Z Q r e) pl (by omega) (by omega) (by rw[VF,<-m];exact A) (by simpa using B) ⟨rfl,d⟩) k
theorem ya(its:List Value)(n j:Nat)(u:Value):Obj.mapSeq (·.setIfInBounds j u) {cls:=.type "list",data:=.seq its.toArray n}={cls:=.type "list",data:=.seq (its.set j u).toArray n}:=by
 simp[Obj.mapSeq]
theorem Inv.lst{G:P1}{Z:St}{H:Hp}{s:Shared}{p:Addr}{xs:List V}(I:Inv X G Z H s)(h:H p=some (.lst xs)):
 ∃(its:List Value) (n:Nat),Vals xs its/\s.heap.get? p=some {cls:=.type "list",data:=.seq its.toArray n}/\xs.length<=sizeLine:=by
 obtain⟨z,its,n,r,e⟩:=I.hok p _ h;exact⟨its,n,r,e,z⟩
theorem Inv.lstUpd{G:P1}{Z:St}{H:Hp}{s:Shared}{p:Addr}{xs a:List V}{its its':List Value}{n c:Nat}{f:Obj->Obj}(I:Inv X G Z H s)(h:H p=some (.lst xs))
 (g:s.heap.get? p=some {cls:=.type "list",data:=.seq its.toArray n}) (d:f {cls:=.type "list",data:=.seq its.toArray n}={cls:=.type "list",data:=.seq its'.toArray c}) (r:Vals a its') (hz:a.length<=sizeLine) (t:Nat):
 Inv X G Z (upd H p (.lst a)) {s with heap:=s.heap.update p f,toks:=t}:=by
 have e:(s.heap.update p f).get? p=some {cls:=.type "list",data:=.seq its'.toArray c}:=by
  rw[V6 f g (by rw[d]<;>rfl),d]
 refine I.write (x:=p) (e:=p) (by rw[h];trivial) (.inl rfl) (λb u i q=>(V3 _ _ (W6 i)).trans q) ⟨_,e⟩ ?_;exact⟨hz,its',c,r,e⟩
def K7:V->V->V->Hp->(Hp->Prop)->Prop:=λo i v H Q=>∃p xs k j,o=.ref p/\i=.int k/\H p=some (.lst xs)/\oj xs.length k=some j/\Q (upd H p (.lst (xs.set j v)))
theorem uz:Uv X K7:=by
 intro G s Z H o i v ov y u Q I m w l h;obtain⟨p,xs,k,j,rfl,rfl,hp,x,q⟩:=h;cases m;obtain⟨t,rfl⟩:=w;obtain⟨its,n,r,b,hz⟩:=I.lst hp;obtain⟨a,A,f,e⟩:=sR x;have c:=r.length;have z:=sM
 have g:Inv X G Z (upd H p (.lst (xs.set j v))) {s with heap:=s.heap.update p (Obj.mapSeq (·.setIfInBounds j u))}:=
  I.lstUpd hp b (ya its n j u) (r.set l j) (by rw[VT];exact hz) s.toks
 by_cases h0:0<=k
 · have d:k.toNat=j:=by
    rw[seqIndex_of h0 e]at a;exact VO a
   exact PySem.W.ki_setAt b h0 (by omega) (by rw[VF,<-c];exact e) (by rw[d];exact⟨_,g,q⟩)
 · have d:(k+(its.toArray.size:Int)).toNat=j:=by
    rw[seqIndex_neg (by omega) f]at a;rw[VF,<-c];exact VO a
   exact PySem.W.ki_setBack b (by omega) (by rw[VF,<-c];exact f) (by omega) (by rw[d];exact⟨_,g,q⟩)
theorem rW(lo hi:Option Int)(n:Nat):(sliceBounds lo hi none n).1=((HT.uG n 0 lo:Nat):Int)/\(sliceBounds lo hi none n).2.1=((HT.uG n n hi:Nat):Int)/\(sliceBounds lo hi none n).2.2=1:=by
 refine⟨?_,?_,rfl⟩
 · cases lo with
   |none=>simp[sliceBounds,HT.uG]
   |some i=>
     simp only[sliceBounds,HT.uG,Option.getD_none,show(1:Int)>0 by decide,YO];by_cases h:i<0
     ·simp only[h,YO]<;>omega
     ·simp only[h,Yh]<;>omega
 · cases hi with
   |none=>simp[sliceBounds,HT.uG]
   |some i=>
     simp only[sliceBounds,HT.uG,Option.getD_none,show(1:Int)>0 by decide,YO];by_cases h:i<0
     ·simp only[h,YO]<;>omega
     ·simp only[h,Yh]<;>omega
theorem qr(its:List Value)(lo hi:Option Int):slicePick its.toArray lo hi none=((its.drop (HT.uG its.length 0 lo)).take (HT.uG its.length its.length hi-HT.uG its.length 0 lo)).toArray:=by
 obtain⟨c,b,a⟩:=rW lo hi its.toArray.size;unfold slicePick;rw[c,b,a];simp only[sliceRange_one,pick_run,List.size_toArray]<;>rfl
def MT(K:F0):V->Option Int->Option Int->Hp->VK->Prop:=λx lo hi H Q=>∃a xs,x=.ref a/\SqL K H a xs/\∀p,H p=none->Q (.ref p) (upd H p (.lst (CL xs lo hi)))
theorem IQ:Vj X (MT X.K):=by
 intro G s Z H x v k j lo hi l Q I e i pl f h;obtain⟨a,xs,rfl,g,q⟩:=h;cases e;obtain⟨its,r,d,hz⟩:=I.list g;have c:=r.length;refine⟨"list",_,slot_list_getitem.lookup,d.isList.typeIs,?_⟩;refine wpAny_getItem_list_slice d.isList i pl f .none (by simp) ?_ (by rw[VF]<;>omega);rw[qr,<-c];refine⟨.ref s.heap.objs.size,_,I.laid (t':=s.toks) (o:=.lst (CL xs lo hi)) (λb ob q=>Vv _ q) (VE _) ?_,rfl,q _ (I.hok.fresh (VE _))⟩;exact⟨VW (vH xs lo hi) hz,_,0,(r.drop (HT.uG xs.length 0 lo)).take (HT.uG xs.length xs.length hi-HT.uG xs.length 0 lo),VN _ rfl⟩
theorem uf:dR X (.builtin "len") (λxs H Q=>∃p b,xs=[.ref p]/\(SqL X.K H p b\/SqT X.K H p b)/\Q (.int b.length) H):=by
 intro G s Z H xs us Q I r h;obtain⟨p,b,rfl,c,q⟩:=h;obtain⟨u,rfl,e⟩:=zc r;cases e;have f:=sM;rcases c with c|c
 ·obtain⟨its,d,pl,hz⟩:=I.list c;have a:=d.length;exact Calls.call_len_list pl.isList (by simp only[VF]<;>omega) ⟨.int b.length,H,I.tok _,⟨s.toks+1,by rw[VF,a]⟩,q⟩
 ·obtain⟨its,d,pl,hz⟩:=I.tuple c;have a:=d.length;exact len_tuple pl (by simp only[VF]<;>omega) ⟨.int b.length,H,I.tok _,⟨s.toks+1,by rw[VF,a]⟩,q⟩
theorem ue:dR X (.type "list") (λxs H Q=>∃p a,xs=[.ref p]/\(SqL X.K H p a\/SqT X.K H p a)/\∀l,H l=none->Q (.ref l) (upd H l (.lst a))):=by
 intro G s Z H xs us Q I r h;obtain⟨p,a,rfl,f,q⟩:=h;obtain⟨u,rfl,m⟩:=zc r;cases m
 have i:∀(its:List Value),Vals a its->a.length<=sizeLine->∀(h':Heap) (d:Nat),(∀b o',s.heap.get? b=some o'->h'.get? b=some o')->
  h'.get? s.heap.objs.size=some {cls:=.type "list",dict:=none,data:=.seq its.toArray d,slots:=#[]}->EP X G Z Q (.ref s.heap.objs.size) {s with heap:=h'}:=λits c hz h' d kp e=>
  ⟨.ref s.heap.objs.size,_,I.laid (t':=s.toks) kp (VE _) (show ObjOk X.prog X.w _ h' _ (.lst a) from⟨hz,its,d,c,e⟩),rfl,q _ (I.hok.fresh (VE _))⟩
 rcases f with f|f
 ·obtain⟨its,c,pl,hz⟩:=I.list f;have g:=c.length;obtain⟨o,j,k,n,hd⟩:=pl.isList;exact call_list_seq p (.inl rfl) j k hd (λh' d kp e=>i its c hz h' d kp e) (by simp only[VF]<;>omega)
 ·obtain⟨its,c,pl,hz⟩:=I.tuple f;have g:=c.length;obtain⟨o,j,k,n,hd⟩:=pl;exact call_list_seq p (.inr rfl) j k hd (λh' d kp e=>i its c hz h' d kp e) (by simp only[VF]<;>omega)
theorem qv:dR X (.type "tuple") (λxs H Q=>∃p a,xs=[.ref p]/\((SqL X.K H p a/\∀l,H l=none->Q (.ref l) (upd H l (.tup a)))\/(SqT X.K H p a/\Q (.ref p) H))):=by
 intro G s Z H xs us Q I r h;obtain⟨p,a,rfl,h⟩:=h;obtain⟨u,rfl,i⟩:=zc r;cases i;rcases h with ⟨d,q⟩|⟨d,q⟩
 · obtain⟨its,c,pl,hz⟩:=I.list d;have f:=c.length;refine call_tuple_list pl.isList (λh' kp=>?_) (by simp only[VF]<;>omega);have g:Inv X G Z H {s with heap:=h'}:=I.kept (t':=s.toks) kp
   have j:Inv X G Z (upd H h'.objs.size (.tup a)) {s with heap:=h'.push {cls:=.type "tuple",data:=.seq its.toArray}}:=
    g.laid (t':=s.toks) (λb o e=>Vv _ e) (VE _) (show ObjOk X.prog X.w _ _ _ (.tup a) from⟨hz,its,c,IsTup.new _ _⟩)
   exact⟨.ref h'.objs.size,_,j,rfl,q _ (g.hok.fresh (VE _))⟩
 ·obtain⟨its,c,pl,hz⟩:=I.tuple d;exact call_tuple_same pl ⟨.ref p,H,I,rfl,q⟩
def tyV(K:F0)(T:String)(x:V)(H:Hp):Prop:=match x with
 |.str _=>T = "str"
 |.int _=>T = "int"
 | .ref p=>(T = "list" /\ ∃xs,SqL K H p xs)\/(T = "tuple" /\ ∃o,K.lookup p=some o/\o.cls=.type "tuple" /\ o.dict=none)\/
    (T = "dict" /\ ((∃kvs,H p=some (.dK kvs))\/∃kvs,H p=some (.dT kvs)))\/(T = "set" /\ ∃S n,H p=some (.set S n))
 |_=>False
theorem LY{G:P1}{Z:St}{H:Hp}{s:Shared}{T:String}{x:V}{v:Value}(I:Inv X G Z H s)(r:RelV x v)(ty:tyV X.K T x H):
 s.TypeIs v T/\∀a,v=.ref a->∃ob,s.heap.get? a=some ob/\ob.dict=none:=by
 cases x with
 |str z=>
   obtain⟨t,rfl⟩:=r;cases(show T = "str" from ty);exact⟨typeIs_str s z t,λ_ e=>nomatch e⟩
 |int i=>
   obtain⟨t,rfl⟩:=r;cases(show T = "int" from ty);exact⟨typeIs_int s i t,λ_ e=>nomatch e⟩
 |ref p=>
   cases r;rcases ty with ⟨rfl,xs,f⟩|⟨rfl,o,b,g,hd⟩|⟨rfl,b⟩|⟨rfl,S,n,b⟩
   ·obtain⟨its,_,pl,_⟩:=I.list f;refine⟨pl.isList.typeIs,λa e=>?_⟩;cases e;obtain⟨o,n,e,c,hd,_⟩:=pl;exact⟨o,e,hd⟩
   ·refine⟨⟨o,I.kIn p o b,g⟩,λa e=>?_⟩;cases e;exact⟨o,I.kIn _ o b,hd⟩
   · have z:∃o,s.heap.get? p=some o/\o.ExactDict:=by
      rcases b with ⟨kvs,b⟩|⟨kvs,b⟩
      ·obtain⟨_,_,_,_,o,_,_,e,ex,_⟩:=I.hok p _ b;exact⟨o,e,ex⟩
      ·obtain⟨_,_,_,_,o,_,_,e,ex,_⟩:=I.hok p _ b;exact⟨o,e,ex⟩
     obtain⟨o,e,ex⟩:=z;refine⟨⟨o,e,ex.1⟩,λa d=>?_⟩;cases d;exact⟨o,e,ex.2.1⟩
   ·obtain⟨o,_,_,_,e,ex,_⟩:=I.hok p _ b;refine⟨⟨o,e,ex.1⟩,λa d=>?_⟩;cases d;exact⟨o,e,ex.2.1⟩
 |_=>exact False.elim ty
def L3(K:F0)(T:String)(r:V->List V->Hp->VK->Prop)(to:TE)(t:TA):TE:=λZ H Q=>to Z H λx H1=>tyV K T x H1/\t Z H1 λxs a=>r x xs a Q
variable{o e:Expr}{es:List Expr}{to:TE}{t:TA}{name:Str}{apos cpos:Pos}{T id:String}{r:V->List V->Hp->VK->Prop}
theorem jv(p:PlainAttrs T)(slot:Slot T name id)(f:typeOf (.builtin id)=pure (.type "method_descriptor"))(w:MtR X id r)(u:PE X o to)(y:PA X (e::es) t)
 (c:attributeBase o name X.env (eval o X.env)=eval o X.env:=by rfl)
 (d:((backTo cpos (starEach (e::es) X.env)).all (λx=>!x.1)&&(backToKw cpos (keywordEach [] X.env)).all (λx=>x.1.isSome)
   && decide ((e::es).length+([]:List Keyword).length+(if ([]:List Keyword).isEmpty then 0 else 1)<30))=true:=by rfl)
 (b:(apos.endLine==cpos.line)=true:=by rfl) (q:starEach (e::es) X.env=(false,eval e X.env)::starEach es X.env:=by rfl) (a:(backTo cpos (starEach es X.env)).any (·.1)=false:=by rfl):
 PE X (.Call (.Attribute o name apos) (e::es) [] cpos) (L3 X.K T r to t):=by
 intro G s Z H Q I h;refine wpAny_Call_method_late c d b rfl (bI (u G s Z H _ I h) λv k ⟨x,H1,j,g,ty,n⟩=>?_);obtain⟨A,z⟩:=LY j g ty;refine⟨T,id,p,slot,f,A,z,?_⟩;have i:=y cpos G k Z H1 _ j n;rw[q]at i ⊢;refine Wo (by show(false||(backTo cpos (starEach es X.env)).any (·.1))=false;rw[a]<;>rfl) (WF ?_);exact bI i λus s2 ⟨vs,C,B,l,m⟩=>w G s2 Z C x vs v us Q B g l m
end
def Vk(X:Cx)(id:String)(r:V->List V->Hp->VK->Prop):Prop:=
 ∀(G:P1) (s:Shared) (Z:St) (H:Hp) (x:V) (xs:List V) (v:Value) (us:List Value) (Q:VK),Inv X G Z H s->RelV x v->Vals xs us->r x xs H Q->
  wpAny (model X.prog X.w) X.A (call (.builtin id) (v::us)) (EP X G Z Q) X.xe s
theorem Vals.one:∀{x:V} {us:List Value},Vals [x] us->∃u,us=[u]/\RelV x u
 |_,_,.cons r .nil=>⟨_,rfl,r⟩
theorem Vals.eraseIdx:∀{xs:List V} {us:List Value} (i:Nat),Vals xs us->Vals (xs.eraseIdx i) (us.eraseIdx i)
 |_,_,_,.nil=>.nil
 |_,_,0,.cons _ t=>t
 |_,_,i+1,.cons r t=>.cons r (Vals.eraseIdx i t)
theorem Vals.rep{xs:List V}{us:List Value}(h:Vals xs us):∀k:Nat,Vals (List.replicate k xs).flatten (List.replicate k us).flatten
 |0=>.nil
 | k+1=>by
   rw[Wb,Wb,Wr,Wr];exact Vals.append h (Vals.rep h k)
theorem lK{W:Type}:∀(l:List W) (i:Nat),(l.eraseIdx i).length<=l.length
 |[],_=>VE _
 |_::_,0=>Nat.le_succ _
 |_::r,i+1=>Nat.succ_le_succ (lK r i)
theorem rh(its:List Value):∀(k:Nat) (acc:List Value),
 List.foldl (λb a=>b++a) acc.toArray (List.replicate k its.toArray)=(acc++(List.replicate k its).flatten).toArray
 |0,acc=>by simp
 | k+1,acc=>by
   have e:acc.toArray++its.toArray=(acc++its).toArray:=by simp
   have c:(acc++its)++(List.replicate k its).flatten=acc++(List.replicate (k+1) its).flatten:=by
    rw[Wb,Wr,Ws]
   rw[<-c,<-rh its k (acc++its),<-e,Wb,XH]
section
variable{X:Cx}{G:P1}{Z:St}{H:Hp}{s:Shared}{l b:Addr}{xs ys zs:List V}
theorem Inv.lset{its its':List Value}{n:Nat}{f:Array Value->Array Value}{t':Nat}(I:Inv X G Z H s)(g:H l=some (.lst xs))
 (e:s.heap.get? l=some {cls:=.type "list",data:=.seq its.toArray n}) (c:f its.toArray=its'.toArray) (a:Vals ys its') (hz:ys.length<=sizeLine):
 Inv X G Z (upd H l (.lst ys)) {s with heap:=s.heap.update l (Obj.mapSeq f),toks:=t'}:=by
 have q:=PySem.IsL.update e f;rw[c]at q;refine I.write (x:=l) (e:=l) (by rw[g];exact trivial) (.inl rfl) (λh u d b=>(V3 s.heap (Obj.mapSeq f) (W6 d)).trans b) ⟨_,q⟩ ?_;exact⟨hz,its',_,a,q⟩
theorem Inv.lnew{its:List Value}{t':Nat}(I:Inv X G Z H s)(a:Vals ys its)(hz:ys.length<=sizeLine):
 Inv X G Z (upd H s.heap.objs.size (.lst ys)) {s with heap:=s.heap.push {cls:=.type "list",data:=.seq its.toArray},toks:=t'}:=
 I.laid (λ_ _ q=>Vv _ q) (VE _) ⟨hz,its,0,a,VN _ rfl⟩
theorem Inv.fresh(I:Inv X G Z H s):H s.heap.objs.size=none:=I.hok.fresh (VE _)
theorem Inv.lstM(I:Inv X G Z H s)(a:H l=some (.lst xs)):xs.length<=sizeLine/\∃(its:List Value) (n:Nat),Vals xs its/\xs.length=its.length/\s.heap.get? l=some {cls:=.type "list",data:=.seq its.toArray n}:=by
 obtain⟨z,its,n,r,e⟩:=I.hok l _ a;exact⟨z,its,n,r,r.length,e⟩
theorem E8{n:Nat}(h:n<=sizeLine):Builtin.List.listTooLong n=false:=by
 unfold Builtin.List.listTooLong;exact decide_eq_false (by omega)
end
section
variable{X:Cx}
def si:V->List V->Hp->VK->Prop:=λx vs H Q=>∃l xs y,x=.ref l/\vs=[y]/\H l=some (.lst xs)/\xs.length<sizeLine/\Q .non (upd H l (.lst (xs++[y])))
theorem gJ:Vk X "list.append" si:=by
 intro G s Z H x vs v us Q I b c h;obtain⟨l,xs,y,rfl,rfl,a,hz,q⟩:=h;cases b;obtain⟨u,rfl,d⟩:=c.one;obtain⟨z,its,n,r,f,e⟩:=I.lstM a;refine Yo F.slot_list_append ⟨_,e,rfl⟩ F.entry_list_append (F.args_list_append_2 _ _) (PySem.list_append l its.toArray n u (by rw[VF];omega)) ⟨e,?_⟩;refine⟨.non,_,I.lset (its':=its++[u]) a e (by simp) (r.append (.cons d .nil)) ?_,rfl,q⟩;rw[Vy,Xe];omega
def Et:V->List V->Hp->VK->Prop:=λx vs H Q=>∃l xs i k y,x=.ref l/\vs=[.int i]/\H l=some (.lst xs)/\-(2 ^ 63)<=i/\i<2 ^ 63/\seqIndex? i xs.length=some k/\xs[k]?=some y/\Q y (upd H l (.lst (xs.eraseIdx k)))
theorem Fi:Vk X "list.pop" Et:=by
 intro G s Z H x vs v us Q I c d h;obtain⟨l,xs,i,k,y,rfl,rfl,b,A,p,o,g,q⟩:=h;cases c;obtain⟨u,rfl,f⟩:=d.one;obtain⟨t,rfl⟩:=f;obtain⟨z,its,n,r,m,e⟩:=I.lstM b;obtain⟨w,j,a⟩:=r.get g
 refine Yo F.slot_list_pop ⟨_,e,rfl⟩ F.entry_list_pop (F.args_list_pop_2 _ _)
  (MeetsSeq.list_pop_at l its.toArray n i t k w (fitsIndex_both A p) (by rw[VF,<-m];exact o) (by rw[<-WV];exact j) (by rw[VF];omega)) ⟨e,?_⟩
 refine⟨y,_,I.lset (its':=its.eraseIdx k) b e ?_ (r.eraseIdx k) ?_,a,q⟩
 ·show its.toArray.eraseIdxIfInBounds k=(its.eraseIdx k).toArray;rw[Wz]
 · have:=lK xs k
   omega
def MV:R2:=λx y H Q=>∃l b xs a,x=.ref l/\y=.ref b/\H l=some (.lst xs)/\H b=some (.lst a)/\xs.length+a.length<=sizeLine/\∀p,H p=none->Q (.ref p) (upd H p (.lst (xs++a)))
theorem EV:lj X (binaryOp .Add) MV:=by
 intro G s Z H x y v u Q I d c h;obtain⟨l,b,xs,o,rfl,rfl,i,j,hz,q⟩:=h;cases d;cases c;obtain⟨z,its,n,r,w,e⟩:=I.lstM i;obtain⟨p,a,t,f,g,m⟩:=I.lstM j;refine PySem.P.add_list e m ?_ (by rw[VF,VF];omega);have k:its.toArray++a.toArray=(its++a).toArray:=by simp
 rw[k];exact⟨.ref _,_,I.lnew (t':=s.toks) (r.append f) (by rw[Vy];omega),rfl,q _ I.fresh⟩
def Rn:R2:=λx y H Q=>∃l k xs,x=.ref l/\y=.int k/\H l=some (.lst xs)/\-(2 ^ 63)<=k/\k<2 ^ 63/\xs.length*k.toNat<=sizeLine/\
 ∀p,H p=none->Q (.ref p) (upd H p (.lst (List.replicate k.toNat xs).flatten))
theorem JE{W:Type}(xs:List W)(k:Nat):(List.replicate k xs).flatten.length=k*xs.length:=by
 induction k with
 |zero=>simp
 |succ k a=>rw[Wb,Wr,Vy,a,Nat.succ_mul,Nat.add_comm]
theorem Ni:lj X (binaryOp .Mult) Rn:=by
 intro G s Z H x y v u Q I w p h;obtain⟨l,k,xs,rfl,rfl,B,D,C,hz,q⟩:=h;cases w;obtain⟨t,rfl⟩:=p;obtain⟨z,its,n,r,A,e⟩:=I.lstM B;have d:its.toArray.size*k.toNat<=sizeLine:=by rw[VF,<-A];exact hz
 have g:¬ its.toArray.size*k.toNat>(2 ^ 63-1) / 8:=by
  have:(sizeLine:Nat)<=(2 ^ 63-1) / 8:=by decide
  omega
 have f:¬ (!Builtin.List.listFitsIndex k)=true:=by
  rw[fitsIndex_both D C];exact VD
 have b:¬ Builtin.List.listTooLong (its.toArray.size*k.toNat)=true:=by
  rw[E8 d];exact VD
 have c:List.foldl (λj i=>j++i) #[] (List.replicate (if its.toArray.isEmpty=true then 0 else k.toNat) its.toArray)=(List.replicate k.toNat its).flatten.toArray:=by
  have E:∀m:Nat,List.foldl (λj i=>j++i) #[] (List.replicate m its.toArray)=(List.replicate m its).flatten.toArray:=λm=>by
   have:=rh its m []
   rw[List.nil_append]at this;exact this
  rw[E];cases its with
  |nil=>simp
  |cons a J=>rw[on (by simp)]
 refine wpAny_binaryOp_repeat_ref (T := "list") (U := "int") (by decide) ⟨_,e,rfl⟩ (λo=>typeIs_int o k t) noFill_list_mul F.fills_int_mul F.slot_int_rmul repeat_list F.slot_int_index.lookup
  (Yo F.slot_int_rmul (typeIs_int s k t) F.entry_int_rmul (F.args_int_rmul_2 _ _) (int___rmul___int_list k t l its.toArray n)
    ⟨e,rfl,⟨_,e,rfl⟩,Yo F.slot_list_mul ⟨_,e,rfl⟩ F.entry_list_mul (F.args_list_mul_2 _ _) (AutoListH.list___mul___list_int_3 l its.toArray n k t f g b) ⟨e,?_⟩⟩)
 rw[c];exact⟨.ref _,_,I.lnew (t':=s.toks) (r.rep k.toNat) (by rw[JE,Nat.mul_comm];exact hz),rfl,q _ I.fresh⟩
end
end L2
namespace Att
open PySem PySem.W PySem.Calls PyProof.Rows
theorem mR{P:Params}{h:Heap}:∀(ns:List Int) (vs:List Value),WellAll P h vs (ns.map WData.int)->IntsAre vs ns:=by
 intro ns
 induction ns with
 |nil=>
   intro vs w;rw[Wt]at w;cases w;exact .nil
 |cons n ns c=>
   intro vs w;rw[Vr]at w;cases w with
   |cons a b=>
     cases a;exact .cons _ _ (c _ b)
theorem BR{l:OpenLaw}{n:Nat}(u:l.most=some n){P:Params}{h:Heap}{args:List WData}{b:List Value}
 (c:l.row.toRowW.claim.pre args=true) (j:WellAll P h b args):
 ∃a vs ns,b=[Value.ref a]/\args=[WData.list (ns.map WData.int)]/\h.get? a=some {cls:=.type "list",data:=.seq vs.toArray}/\IntsAre vs ns/\ns.length<=n:=by
 have k:WShape.hasAll [] args [.list .int]=true:=(pre_splitW c).1;have m:l.pre.holds [] {args:=args}=true:=(pre_splitW c).2;obtain⟨d,r,rfl,x,w⟩:=hasAllW_cons k;obtain rfl:=hasAllW_nil w;obtain⟨xs,rfl,v⟩:=hasW_list x;obtain⟨ns,rfl⟩:=items_int v
 have e:ns.length<=n:=by
  unfold OpenLaw.pre at m
  have i:(WTm.not (.lt (.lit (.int (n:Int))) (.len (.arg 0)))).holds [] {args:=[.list (ns.map .int)]}=true:=by
   have i:=(holds_andW m).1;rw[u]at i;exact i
  have g:=condW_of i (w_not (w_lt w_lit (w_len_list (w_arg rfl))));rw[Vs]at g;refine Nat.le_of_not_lt λq=>?_;have s:(n:Int)<((ns.length:Nat):Int):=by omega
  first
   |(rw[WE s]at g;exact absurd g (by decide))
   |(simp at g;omega)
 cases j with
 |cons p o=>
   cases o;cases p with
   |list t f=>exact⟨_,_,ns,rfl,rfl,t,mR ns _ f,e⟩
theorem B7(l:OpenLaw)(args:List WData):l.row.toRowW.claim.post args (.bool true) args=true:=
 postW_of (r:=l.row.toRowW) (X:=(true==true))
  (show WShape.has [] (.bool true) .bool=true by first | rfl | decide | simp[WShape.has,WShape.arms,WShape.armsAll])
  (show(WTm.eq .res (.lit (.bool true))).value [] {args:=args,res:=some (.bool true),after:=args}=some (.bool (true==true)) from w_eq_bool (w_res rfl) w_lit) rfl
theorem wD{l:OpenLaw}{n:Nat}{q:Program}{loose:List Str}{XP:(Str->Option Value)->Heap->Prop}{A:World->Heap->Prop}{d:DefRec}
 (E:l.most=some n) (u:d.params.defaults=[])
 (call:∀(w:World) (s₀ b:Shared) (mg p:Str->Option Value) (j:Addr) (o:Obj) (pm m e:Value) (a:Addr) (vs:List Value) (ns:List Int),
   Ground q loose [] XP w s₀ mg p b.heap->A w b.heap->
   b.heap.get? j=some o->o.data=.func (docDef d.name d.params d.body d.scope pm m e)->b.heap.CodeRec m d.name->mg d.name=some (.ref j)->
   b.heap.get? a=some {cls:=.type "list",data:=.seq vs.toArray}->IntsAre vs ns->ns.length<=n->b.gens=#[]->
   codeAny (model l.prog w) callerA (.call (.ref j) ⟨[.ref a],[]⟩) (λr k=>r=.ok (.ret (.bool true))/\OldK b.heap k.heap/\k.os=b.os/\AllBare k.gens) b):
 WalkO q loose XP A l.row.toRowW d [] (λf vs=>PySem.call f vs):=by
 intro w s₀ b mg p G Y j o pm m e M kV D hd v z t I args x N g y B s H;obtain rfl:M=.none:=Dflts.none z u;obtain rfl:kV=.none:=Dflts.noKw z;obtain⟨a,vs,ns,rfl,rfl,h,c,i⟩:=BR E g s;refine enter_call (Yk (call w s₀ b mg p j o pm m e a vs ns G Y D (fd_plain hd) v t h c i I) λr k C=>?_);obtain⟨rfl,L,K,J⟩:=C;exact⟨.inl ⟨.bool true,.bool true,[],rfl,λ_=>rfl,.bool true,B7 l _,λ_=>⟨List.Pairwise.nil,λ_ F=>(nomatch F)⟩⟩,L,K,J⟩
end Att
namespace L2
open PySem PySem.Spec PyProof.Rows
theorem qz:∀{vs:List Value} {ns:List Int},IntsAre vs ns->Vals (ns.map V.int) vs
 |_,_,.nil=>.nil
 |_,_,.cons n t h=>.cons ⟨t,rfl⟩ (qz h)
abbrev Tbs:=List (Addr×Pos×Str)
def Tbs.at(T:Tbs)(b:Addr):List (Pos×Str):=(T.filter λp=>p.1==b).map (·.2)
def Tbs.ok(T:Tbs):Prop:=∀y∈T,∀z∈T,y.2.1.line=z.2.1.line->y.2.1.col=z.2.1.col->y.2.2=z.2.2
theorem Tbs.mem{T:Tbs}{b:Addr}{y:Pos×Str}:y∈T.at b↔(b,y)∈T:=by
 unfold Tbs.at;simp only[List.mem_map,List.mem_filter,beq_iff_eq];constructor
 ·rintro⟨⟨c,x⟩,⟨e,d⟩,a⟩;dsimp only at d a;subst d a;exact e
 ·intro h;exact⟨(b,y),⟨h,rfl⟩,rfl⟩
def HW(T:Tbs)(H:Hp):Prop:=(∀p∈T,H p.1=some (.tbl (T.at p.1)))/\∀b,H b=none\/(∃o xs,H b=some (.frz o (.lst xs)))\/H b=some (.tbl (T.at b))
theorem Gj{P:Program}{w:World}{K:F0}{mg mb:Str->Option Value}{CX:C3}{k:Nat}{fa a:Addr}{fd:FuncData}{x:Str}{sp:Sp}{f:Shared}{vs:List Value}{ns:List Int}{T:Tbs}
 (KX:K.In f.heap) (Z:f.heap.Ns mainGlobals mg) (i:f.heap.Ns builtinsNs mb) (hbb:∀x:Str,x ≠ "__name__" -> mb x=bootBuiltins x) (hlim:f.heap.NoLimit) (hg:f.gens=#[])
 (hbm:∃G ob,mg "__builtins__" = some (.ref G)/\G≠builtinsNs/\f.heap.get? G=some ob/\ob.cls=.type "module" /\ ob.dict=some builtinsNs/\ob.data=.plain)
 (hT:∀p∈T,∃c,PySem.W.CodeHd f.heap c p.1/\f.heap.get? p.1=some (PySem.W.tabObj #[])) (hTK:∀p∈T,K.lookup p.1=none) (hTo:T.ok)
 (O:f.heap.get? a=some {cls:=.type "list",data:=.seq vs.toArray}) (hi:IntsAre vs ns) (hl:ns.length<=sizeLine) (hr:Room k callerA)
 (F:∀base:Heap,K.In base->base.Ns mainGlobals mg->(∀c P,PySem.W.CodeHd f.heap c P->PySem.W.CodeHd base c P)->FnOk P w K mg base CX k fa fd [x] sp) (L:∀(s:Shared) (u:Value),BindsTo s fd ⟨[u],[]⟩ [(x,u)])
 (hsp:∀H:Hp,HW T H->SqL K H a (ns.map V.int)->sp [.ref a] H (λv _=>v=.bl true) λ_ _ _=>False)
 (hCX:∀H e A,CX [] H f (λ_ _ _=>False) e A->False):
 codeAny (model P w) callerA (.call (.ref fa) ⟨[.ref a],[]⟩) (λr A=>r=.ok (.ret (.bool true))/\OldK f.heap A.heap/\A.os=f.os/\AllBare A.gens) f:=by
 have rv:=qz hi;have Y:=hi.length
 -- from an Q heap in which X but the D and the tables may be R
 have core:∀H:Hp,HW T H->SqL K H a (ns.map V.int)->HOk P w H f.heap->(∀b,H b≠none->b=a\/∃p∈T,p.1=b)->(H a≠none->K.lookup a=none)->
  codeAny (model P w) callerA (.call (.ref fa) ⟨[.ref a],[]⟩) (λr A=>r=.ok (.ret (.bool true))/\OldK f.heap A.heap/\A.os=f.os/\AllBare A.gens) f:=by
  intro H hO hS hok hA hK;have g:∀{b:Addr} {o:Obj},f.heap.get? b=some o->H b=none->(oq f.heap H).get? b=some o:=λe n=>Gu e n
  have noB:∀{b:Addr} {o:Obj},f.heap.get? b=some o->o≠{cls:=.type "list",data:=.seq vs.toArray}->o≠PySem.W.tabObj #[]->H b=none:=λ{b o} e d1 d2=>by
   cases q:H b with
   |none=>rfl
   |some u=>
     rcases hA b (by rw[q];simp) with j | ⟨p,hp,j⟩
     ·subst j;rw[O]at e;exact absurd (VO e).symm d1
     ·subst j;obtain⟨_,_,e2⟩:=hT p hp;rw[e2]at e;exact absurd (VO e).symm d2
  have noA:∀{b:Addr} {o:Obj} {es:Array DictEntry} {ep:Nat},f.heap.get? b=some o->o.data=.dict es ep->H b=none:=λ{b o es ep} e d=>
   noB e (λz=>by rw[z]at d;cases d) (λz=>by rw[z]at d;cases d)
  have E:∀{b:Addr} {m:Str->Option Value},f.heap.Ns b m->(oq f.heap H).Ns b m:=λ{b m} ⟨o,es,ep,e,d,r⟩=>⟨o,es,ep,g e (noA e d),d,r⟩
  have hKb:K.In (oq f.heap H):=λb o e=>g (KX b o e) (by
   cases q:H b with
   |none=>rfl
   |some u=>
     rcases hA b (by rw[q];simp) with j | ⟨p,hp,j⟩
     ·subst j;rw[hK (by rw[q];simp)]at e;cases e
     · subst j
       rw[hTK p hp]at e;cases e)
  have hbm':∃G ob,mg "__builtins__" = some (.ref G)/\G≠builtinsNs/\(oq f.heap H).get? G=some ob/\ob.cls=.type "module" /\ ob.dict=some builtinsNs/\ob.data=.plain:=by
   obtain⟨G,ob,h1,h2,h3,h4,h5,h6⟩:=hbm;exact⟨G,ob,h1,h2,g h3 (noB h3 (λz=>by rw[z]at h6;cases h6) λz=>by rw[z]at h6;cases h6),h4,h5,h6⟩
  have hcd:∀c P,PySem.W.CodeHd f.heap c P->PySem.W.CodeHd (oq f.heap H) c P:=λc P h=>by
   obtain⟨o,vs',file,tf,M,tg,Ta,S,tt,e,B,r⟩:=h;exact⟨o,vs',file,tf,M,tg,Ta,S,tt,g e (noB e (λz=>by rw[z]at B;simp at B) λz=>by rw[z]at B;simp at B),B,r⟩
  have hM:Mod K mg (oq f.heap H):=⟨hKb,E Z,⟨mb,E i,hbb⟩,(let ⟨mc,h1,h2⟩:=hlim;⟨mc,E h1,h2⟩),hbm'⟩;have e0:Env0 P w K mg (oq f.heap H) callerA [] f H:=⟨rfl,hM,λb o e=>Jl e,Nat.le_of_eq (CA _ _),trivial,λb i=>absurd (show b∈([]:List Addr) from i) (by simp),hok,.of_eq hg⟩;refine Yk ((F _ hKb (E Z) hcd).run callerA [] f H ⟨[.ref a],[]⟩ [.ref a] [.ref a] _ _ hr e0 (L f (.ref a)) (.cons rfl .nil) (hsp H hO hS)) λr A h=>?_;cases r with
  |error e=>exact(hCX H e A h).elim
  |ok fl=>
    cases fl with
    |next=>exact False.elim h
    |brk=>exact False.elim h
    |cont=>exact False.elim h
    |ret u=>
      obtain⟨v,H',os,bare,un,I,r',q⟩:=h;have q':v=.bl true:=q;subst q';obtain rfl:u=Value.bool true:=r';refine⟨rfl,⟨λb o e=>?_,λb o e=>un.there b o e (by simp)⟩,os,bare⟩;cases q:H b with
      |none=>exact .inl (un.keep b o e q (by intro z;exact absurd (show b∈([]:List Addr) from z) (by simp)) (by simp))
      |some u=>
        rcases hO.2 b with z|⟨ob,xs,z⟩|z
        ·rw[q]at z;cases z
        ·have z2:=un.frzs b ob _ z;obtain⟨e1,_⟩:=hok b _ z;obtain⟨e2,_⟩:=I b _ z2;rw[e]at e1;cases e1;exact .inl e2
        · have z2:=(un.tbls b _ z).1;obtain⟨_,ps,e2,_⟩:=I b _ z2
          have hb':∃p∈T,p.1=b:=by
           rcases hA b (by rw[q];simp) with j | j
           ·subst j;obtain⟨_,ps',l,_⟩:=hok b _ z;rw[O]at l;cases l
           ·exact j
          obtain⟨p,hp,j⟩:=hb';obtain⟨c,B,l⟩:=hT p hp;rw[j]at l B;rw[e]at l;cases l;refine .inr (.inl ⟨(B.tab (ps:=#[]) e).isCodeTable,rfl,#[],ps,rfl,?_⟩);rw[e2];simp
 have t:∀(H:Hp) (b:Addr),(∃p∈T,p.1=b)->ObjOk P w H f.heap b (.tbl (T.at b)):=λH b ⟨p,hp,e⟩=>by
  obtain⟨c,B,l⟩:=hT p hp;rw[e]at l;exact⟨λy hy z hz h1 h2=>hTo _ (Tbs.mem.mp hy) _ (Tbs.mem.mp hz) h1 h2,#[],l,trivial,λy hy=>.inl rfl⟩
 have J:∀p∈T,p.1≠a:=λp hp z=>by
  obtain⟨c,B,l⟩:=hT p hp;rw[z,O]at l;cases l
 cases hk:K.lookup a with
 |some o=>
   -- the D is one of the N own U
   have e:=KX a o hk;rw[O]at e;cases e;have hTa:¬ ∃p∈T,p.1=a:=λ⟨p,hp,z⟩=>J p hp z;have dec:∀b,Decidable (∃p∈T,p.1=b):=λb=>Classical.propDecidable _;refine core (λb=>if ∃p∈T,p.1=b then some (.tbl (T.at b)) else none) ⟨λp hp=>Vq ⟨p,hp,rfl⟩,λb=>?_⟩ (.inr ⟨_,vs.toArray,_,hk,rfl,rfl,rfl,by rw[VF,Y];exact hl,by simpa using rv⟩) (λb u z=>?_) (λb z=>?_) λz=>absurd (on hTa) z
   · by_cases h:∃p∈T,p.1=b
     ·exact .inr (.inr (Vq h))
     ·exact .inl (on h)
   · by_cases h:∃p∈T,p.1=b
     ·have C:=(Vq h).symm.trans z;cases C;exact t _ b h
     ·have C:=(on h).symm.trans z;cases C
   · by_cases h:∃p∈T,p.1=b
     ·exact .inr h
     ·exact absurd (on h) z
 |none=>
   have dec:∀b,Decidable (∃p∈T,p.1=b):=λb=>Classical.propDecidable _;have hTa:∀{b},(∃p∈T,p.1=b)->b≠a:=λ⟨p,hp,z⟩ e=>J p hp (z.trans e);refine core (λb=>if b=a then some (.frz {cls:=.type "list",data:=.seq vs.toArray} (.lst (ns.map V.int))) else if ∃p∈T,p.1=b then some (.tbl (T.at b)) else none) ⟨λp hp=>(on (J p hp)).trans (Vq ⟨p,hp,rfl⟩),λb=>?_⟩ (.inl (.inr ⟨{cls:=.type "list",data:=.seq vs.toArray},Vq rfl⟩)) (λb u z=>?_) (λb z=>?_) λ_=>hk
   · by_cases i:b=a
     ·exact .inr (.inl ⟨_,_,Vq i⟩)
     · by_cases h:∃p∈T,p.1=b
       ·exact .inr (.inr ((on i).trans (Vq h)))
       ·exact .inl ((on i).trans (on h))
   · by_cases i:b=a
     ·have C:=(Vq i).symm.trans z;cases C;subst i;exact⟨O,by rw[Vs];exact hl,vs,_,rv,O⟩
     · by_cases h:∃p∈T,p.1=b
       ·have C:=((on i).trans (Vq h)).symm.trans z;cases C;exact t _ b h
       ·have C:=((on i).trans (on h)).symm.trans z;cases C
   · by_cases i:b=a
     ·exact .inl i
     · by_cases h:∃p∈T,p.1=b
       ·exact .inr h
       ·exact absurd ((on i).trans (on h)) z
abbrev Tns:=List (Str×Pos×Str)
structure TabsOf (mg:Str->Option Value) (h:Heap) (N:Tns) (T:Tbs):Prop where
 all:∀n∈N,∃P,(P,n.2)∈T/\∃a o fd c,mg n.1=some (.ref a)/\h.get? a=some o/\o.data=.func fd/\fd.code=.ref c/\PySem.W.CodeHd h c P
theorem qA{p:Program}{loose:List Str}{b:ExcName->Option Value}{mg s:Str->Option Value}{h:Heap}(l:PyProof.Rows.Top p loose b mg s h):∀(N:Tns),(∀n∈N,n.1∈(PyProof.Rows.recsOf p).map (·.name))->
 ∃T:Tbs,TabsOf mg h N T/\(∀q∈T,∃c,PySem.W.CodeHd h c q.1/\h.get? q.1=some (PySem.W.tabObj #[]))/\∀q∈T,∃n∈N,n.2=q.2
 |[],_=>⟨[],⟨λ_ h=>nomatch h⟩,λ_ h=>(nomatch h),λ_ h=>(nomatch h)⟩
 | n::N,j=>by
   obtain⟨T,w,v,u⟩:=qA l N λm f=>j m (Vw _ f);obtain⟨d,hd,e⟩:=VY.mp (j n Vu);obtain⟨a,o,fd,c,P,e1,B,A,y,x,k⟩:=l.tab d hd;have i:=PySem.W.CodeHd.of x k;refine⟨(P,n.2)::T,⟨λm f=>?_⟩,λq g=>?_,λq g=>?_⟩
   · rcases VA.mp f with z|z
     ·subst z;exact⟨P,Vu,a,o,fd,c,by rw[<-e];exact e1,B,A,y,i⟩
     ·obtain⟨C,t,r⟩:=w.all m z;exact⟨C,Vw _ t,r⟩
   · rcases VA.mp g with z|z
     ·subst z;exact⟨c,i,k.2⟩
     ·exact v q z
   · rcases VA.mp g with z|z
     ·subst z;exact⟨n,Vu,rfl⟩
     ·obtain⟨m,f,e⟩:=u q z;exact⟨m,Vw _ f,e⟩
def Tns.ok(N:Tns):Prop:=∀y∈N,∀z∈N,y.2.1.line=z.2.1.line->y.2.1.col=z.2.1.col->y.2.2=z.2.2
def Fc(K:F0):Bool:=K.all λp=>match p.2.cls,p.2.data with
 |.none,.fields vs=>!vs.isEmpty
 |_,_=>true
theorem nP{W:Type}:∀{K:List (Nat×W)} {b:Nat} {o:W},K.lookup b=some o->(b,o)∈K
 | (c,x)::r,b,o,h=>by
   rw[V4]at h;by_cases z:b=c
   ·subst z;rw[WR]at h;cases h;exact Vu
   ·rw[beq_false_of_ne z]at h;exact Vw _ (nP h)
theorem qt{K:F0}{h:Heap}{b:Addr}(X:K.In h)(c:Fc K=true)(e:h.get? b=some (PySem.W.tabObj #[])):K.lookup b=none:=by
 cases q:K.lookup b with
 |none=>rfl
 |some o=>
   have a:=X b o q;rw[e]at a;cases a
   have:=WB.mp c (b,PySem.W.tabObj #[]) (nP q)
   cases this
theorem Il{l:PySem.W.OpenLaw}{n k:Nat}{q:Program}{loose:List Str}{XP:(Str->Option Value)->Heap->Prop}{YP:World->Heap->Prop}{d:DefRec}{K:Params->F0}{CX:World->C3}{sp:World->Tbs->Sp}{x:Str}(N:Tns)
 (hn:l.most=some n) (I:n<=sizeLine) (O:d.params.defaults=[]) (hr:Room k callerA)
 (hY:∀(w:World) (h:Heap),YP w h->(K w.params).In h) (hK:∀w:World,N≠[]->Fc (K w.params)=true) (hN:∀n∈N,n.1∈(PyProof.Rows.recsOf q).map (·.name)) (R:Tns.ok N)
 (F:∀(w:World) (mg:Str->Option Value) (C:Addr) (h:Heap) (T:Tbs),(K w.params).In h->h.Ns mainGlobals mg->mg d.name=some (.ref C)->TabsOf mg h N T->
   ∃fd:FuncData,(∀(s:Shared) (u:Value),BindsTo s fd ⟨[u],[]⟩ [(x,u)])/\
    ∀base:Heap,(K w.params).In base->base.Ns mainGlobals mg->(∀c P,PySem.W.CodeHd h c P->PySem.W.CodeHd base c P)->FnOk l.prog w (K w.params) mg base (CX w) k C fd [x] (sp w T))
 (E:∀(w:World) (T:Tbs) (H:Hp) (a:Addr) (ns:List Int),ns.length<=n->HW T H->SqL (K w.params) H a (ns.map V.int)->sp w T [.ref a] H (λv _=>v=.bl true) λ_ _ _=>False)
 (S:∀(w:World) (H:Hp) (s:Shared) (e:Value) (D:Shared),CX w [] H s (λ_ _ _=>False) e D->False):
 PySem.W.WalkO q loose XP YP l.row.toRowW d [] (λf vs=>PySem.call f vs):=by
 refine Att.wD hn O λw s₀ t mg mb C o pm cd doc a vs ns G Y ho hd hcd J A j i hg=>?_;have X:=hY w _ Y;obtain⟨T,Q,B,r⟩:=qA G.T N hN;obtain⟨fd,hb,hF⟩:=F w mg C _ T X G.T.g J Q;refine Gj (T:=T) X G.T.g G.T.b G.T.builtins G.T.nolimit hg G.T.bmain B (λp hp=>?_) (λy hy z hz h1 h2=>?_) A j (VW i I) hr hF hb (λH hO hS=>E w T H a ns i hO hS) λH e D=>S w H t e D
 ·obtain⟨c,_,e⟩:=B p hp;obtain⟨m,Z,_⟩:=r p hp;exact qt X (hK w (λz=>by rw[z]at Z;cases Z)) e
 ·obtain⟨m1,M,e1⟩:=r y hy;obtain⟨m2,L,U⟩:=r z hz;rw[<-e1,<-U];exact R m1 M m2 L (by rw[e1];exact h1 |>.trans (by rw[U])) (by rw[e1];exact h2 |>.trans (by rw[U]))
def bb(s:Stmt)(j:Nat):Stmt:=match s with
 |.ClassDef _ _ _ body _ _ _ _ _ _ _=>body.getD j (.Pass ⟨0,0,0,0⟩)
 |_=> .Pass ⟨0,0,0,0⟩
def kS(s:Stmt):Arguments:=match s with
 |.FunctionDef _ a _ _ _ _ _ _ _ _=>a
 |_=>{posonlyargs:=[],args:=[],vararg:=none,kwonlyargs:=[],kw_defaults:=[],kwarg:=none,defaults:=[]}
def cV(s:Stmt):List Stmt:=match s with
 |.FunctionDef _ _ b _ _ _ _ _ _ _=>b
 |_=>[]
def ai(s:Stmt):Scope:=match s with
 |.FunctionDef _ _ _ _ _ _ sc _ _ _=>sc
 |_=>{kind:=.function,names:=[],isGenerator:=false,isCoroutine:=false}
abbrev d5:C3:=λ_ _ _ _ _ _=>False
abbrev E0:XK:=λ_ _ _=>False
theorem aC{X:Cx}:j8 d5 X E0:=λ_ _ _ _ _ _ _ h=>h.elim
structure Fun (K:F0) (x qual:Str) (st:Stmt) (f:Addr) (fd:FuncData):Prop where
 ex:∃(oc:Value) (od:Option Addr) (kV doc pm:Value) (an:Option Addr) (cdv ct:Value) (osl:Array (Option Value)),
  fd=PySem.W.fnOf x qual (kS st) (cV st) (ai st) .none kV doc pm an cdv ct/\K.lookup f=some ⟨oc,od,.func fd,osl⟩/\PySem.W.codeIn K cdv qual=true
 kp:PySem.W.keepIn K (.ref f)=true
section
variable{P:Program}{w:World}{K:F0}{mg:Str->Option Value}{base:Heap}
theorem Fun.ok{x qual:Str}{st:Stmt}{f:Addr}{fd:FuncData}{N ps:List Str}{k:Nat}{sp:Sp}(F:Fun K x qual st f fd)(S:FnScope N ps (ai st))(len:∀vs H Q E,sp vs H Q E->vs.length=ps.length)
 (b:∀(a:Value) (A:Around) (outer:List Env) (s:Shared) (H:Hp) (vs:List V) (Q:VK) (E:XK),Room k (A.deeper (envOfC qual (ai st) s.heap.objs.size f a))->sp vs H Q E->
   ∃t,PSs (vF d5 P w K mg base N qual (ai st) f a A outer s H E).nox (cV st) t/\t {nx:=λ_ H'=>Q .non H',rt:=Q} (iu N vs) H):FnOk P w K mg base d5 (k+1) f fd ps sp:=by
 obtain⟨oc,l,kV,j,pm,an,a,ct,e,rfl,g,d⟩:=F.ex;refine fn_of g d S len λA outer s H vs Q E i c=>?_;obtain⟨t,h,q⟩:=b a A outer s H vs Q E i c;exact⟨t,h.nox,q⟩
theorem Fun.binds{x qual:Str}{st:Stmt}{f:Addr}{fd:FuncData}{ps:List Str}(F:Fun K x qual st f fd)
 (h:∀(kV a pm:Value) (an:Option Addr) (b ct:Value) (us:List Value),us.length=ps.length->bindArgs (PySem.W.fnOf x qual (kS st) (cV st) (ai st) .none kV a pm an b ct) ⟨us,[]⟩=pure (ps.zip us)):Binds K fd ps []:=by
 obtain⟨oc,e,kV,a,pm,an,b,ct,c,rfl,g,d⟩:=F.ex;exact .all (h kV a pm an b ct)
theorem O7{x qual:Str}{st:Stmt}{f:Addr}{oc:Value}{e an:Option Addr}{d:Array (Option Value)}{kV b pm a ct:Value}(l:K.lookup f=some ⟨oc,e,.func (PySem.W.fnOf x qual (kS st) (cV st) (ai st) .none kV b pm an a ct),d⟩)
 (c:PySem.W.codeIn K a qual=true) (k:PySem.W.keepIn K (.ref f)=true):Fun K x qual st f (PySem.W.fnOf x qual (kS st) (cV st) (ai st) .none kV b pm an a ct):=⟨⟨oc,e,kV,b,pm,an,a,ct,d,rfl,l,c⟩,k⟩
end
theorem cj{A:Around}{k:Nat}(a:Room k A):A.units+1<cLine:=W9 (Nat.add_le_add_left (by decide:1<=64) _) a.units
section
variable{X:Cx}
theorem pv(i:Nat){x:Str}{pos:Pos}(c:X.N[i]?=some x:=by rfl)(b:UR X.env.scope x:=by first | exact Or.inl rfl | exact Or.inr (Or.inl rfl) | exact Or.inr (Or.inr rfl))(hd:(x == ("__debug__" : Str))=false:=by decide)
 (a:(x==("__classdict__" : Str))=false:=by decide):PE X (.Name x pos) (dD i):=M4 c b hd a
end
def Same(H H':Hp):Prop:=∀b o,H b=some o->H' b=some o
theorem Same.refl(H:Hp):Same H H:=λ_ _ h=>h
theorem Same.trans{H H1 d:Hp}(a:Same H H1)(b:Same H1 d):Same H d:=λc o h=>b c o (a c o h)
theorem Same.free{H H':Hp}(e:Same H H'){l:Addr}(h:H' l=Option.none):H l=Option.none:=by
 cases q:H l with
 |none=>rfl
 |some o=>
   rw[e l o q]at h;cases h
def cA(env:Env):List (Str×NameKind)->List (Str×Addr)->List (Str×Addr)
 |[],acc=>acc
 |(n,k)::r,acc=>if (k==NameKind.free)=true then cA env r ((n,(env.cells.lookup n).getD 0)::acc) else cA env r acc
theorem il{env:Env}{y:Str}{c:Addr}:∀{l:List (Str×NameKind)} {acc:List (Str×Addr)},(∀z∈l,z.2=.free->∃c,env.cells.lookup z.1=some c)->(cA env l acc).lookup y=some c->
 acc.lookup y=some c\/env.cells.lookup y=some c
 |[],acc,_,h=>.inl h
 | (n,k)::r,acc,a,h=>by
   unfold cA at h;split at h
   · rename_i d;rcases il (λz hz=>a z (Vw _ hz)) h with e|e
     · by_cases q:(y==n)=true
       · have f:y=n:=by simpa using q
         subst f;obtain⟨g,b⟩:=a (y,k) List.mem_cons_self (by simpa using d);dsimp only at b;rw[List.lookup_cons,beq_self_eq_true,b]at e;exact .inr (b.trans e)
       ·rw[Bool.not_eq_true]at q;rw[V4,q]at e;exact .inl e
     ·exact .inr e
   ·exact il (λz hz=>a z (Vw _ hz)) h
theorem im{env:Env}{y:Str}:∀{l:List (Str×NameKind)} {acc:List (Str×Addr)},((y,NameKind.free)∈l\/∃c,acc.lookup y=some c)->∃c,(cA env l acc).lookup y=some c
 | [],acc,h=>by
   rcases h with h|h
   ·cases h
   ·exact h
 | (n,k)::r,acc,h=>by
   unfold cA;split
   · rename_i a;refine im ?_;by_cases q:(y==n)=true
     ·exact .inr ⟨_,by rw[V4,q]⟩
     · rw[Bool.not_eq_true]at q;rcases h with h|⟨c,h⟩
       · rcases VA.mp h with e|e
         ·cases e;rw[WR]at q;cases q
         ·exact .inl e
       ·exact .inr ⟨c,by rw[V4,q];exact h⟩
   · rename_i a;refine im ?_;rcases h with h|h
     · rcases VA.mp h with e|e
       ·cases e;exact absurd (by rfl) a
       ·exact .inl e
     ·exact .inr h
theorem iP{scope:Scope}{env:Env}{y:Str}{k:NameKind}(h:(relabel scope env).names.lookup y=some k):∃k',(y,k')∈scope.names/\(k'=k\/(k'= .free/\k=.cell)):=by
 obtain⟨⟨n,c⟩,a,e⟩:=List.mem_map.mp (PySem.mem_of_lookup h);dsimp only at e;split at e
 ·rename_i b;simp only[Xk,XS]at b;cases e;exact⟨c,a,.inr ⟨b.1.1,rfl⟩⟩
 ·cases e;exact⟨_,a,.inl rfl⟩
structure CompSc (osc sc:Scope) (x:Str) (cs:List Str):Prop where
 kind:sc.kind=.function
 cell:∀y∈sc.names,y.2≠ .cell
 loc:∀y∈sc.names,y.2=.local->sc.names.lookup y.1=some .local
 var:sc.names.lookup x=some .local
 cap:∀y∈cs,(osc.names.lookup y=some .cell\/osc.names.lookup y=some .free)/\sc.names.lookup y=some .free
 free:∀y∈sc.names,y.2=.free->osc.names.lookup y.1=some .cell\/osc.names.lookup y.1=some .free
 nd:(x::cs).Nodup
def ja(X:Cx)(scope:Scope)(b:List (Str×Addr))(C:Addr)(N:List Str)(a:List Addr)(s₀:Shared)(H₀:Hp):Cx where
 prog:=X.prog
 w:=X.w
 K:=X.K
 mg:=X.mg
 base:=X.base
 A:=X.A
 N:=N
 s₀:=s₀
 H₀:=H₀
 env:=compEnvC scope b C X.env
 outer:=X.stack
 stack:=X.stack
 ex:=a
 fn:=λ_=>false
 calm:=X.calm
 pn:=[]
 xe:=λ_ _=>False
def iH(Z:St)(ix:List Nat):St:=ix.map λj=>(Z[j]?).join
section
variable{X:Cx}{G:P1}{Z:St}{H:Hp}{s:Shared}{scope:Scope}{x:Str}{cs:List Str}{ix:List Nat}{fp:List Addr}
theorem wv(I:Inv X G Z H s)(a:CompSc X.env.scope scope x cs):∀y∈scope.names,y.2=.free->∃c,X.env.cells.lookup y.1=some c:=λy b d=>I.ok.has _ (a.free y b d)
theorem Gr{g:Heap}{t₁:Nat}{V:Str->Option Value}(I:Inv X G Z H s)(n:CompSc X.env.scope scope x cs)(D:ix.map (λi=>X.N[i]?)=cs.map some)(L:∀b∈fp,qi X G H b)
 (Q:∀b∈fp,b<s.heap.objs.size) (hn:g.Ns s.heap.objs.size V) (K:∀b o,s.heap.get? b=some o->g.get? b=some o):
 Inv (ja X scope (cA X.env scope.names []) s.heap.objs.size (x::cs) fp s H) [] (none::iH Z ix) H {s with heap:=g,toks:=t₁}:=by
 have U:=wv I n
 have d:∀y c,(cA X.env scope.names []).lookup y=some c->X.env.cells.lookup y=some c:=λy c e=>by
  rcases il U e with z|z
  ·cases z
  ·exact z
 have t:ix.length=cs.length:=by
  have:=congrArg List.length D
  rwa [Vs,Vs]at this
 refine⟨⟨I.ok.mod,n.kind,I.ok.glob,I.ok.blt,VE _,λy z c S E=>I.ok.inj y z c (d y c S) (d z c E),λy hy=>?_,λy c h=>(nomatch h),I.ok.hd,I.ok.frames,.inl rfl,λb A=>⟨VX (Q b A),λy c e=>(L b A).2.2.2.2.1 y c (d y c e)⟩,
  I.bs,VW I.ok.bsz I.sz,λb o e A=>?_,λb A R=>?_,I.stack,I.stkFree⟩,rfl,I.bare,Un.kept K,⟨V,hn,λi y v S E h3=>?_⟩,λy c e=>?_,I.hok.fresh (VE _),λy c e=>I.freeC y c (d y c e),λp hp=>absurd (show p∈([]:P1) from hp) (by simp),I.hok.kept K,?_⟩
 · have O:(relabel scope X.env).names.lookup y=some .cell\/(relabel scope X.env).names.lookup y=some .free:=hy
   have:(y,NameKind.free)∈scope.names:=by
    rcases O with q|q
    · obtain⟨k',B,e|⟨e,_⟩⟩:=iP q
      ·subst e;exact absurd rfl (n.cell _ B)
      ·subst e;exact B
    · obtain⟨k',B,e|⟨_,e⟩⟩:=iP q
      ·subst e;exact B
      ·cases e
   exact im (.inl this)
 · rcases(L b A).2.2.2.1 with z|z
   ·exact I.ok.noex b o e z
   ·exact absurd (VV (VB e) (VW I.ok.bsz z)) (Wm _)
 · rcases VA.mp (I.stkSub b R) with z|z
   ·exact(L b A).2.1 z
   ·exact(L b A).2.2.1 z
 · -- a C name
   cases i with
   |zero=>
     have:(none::iH Z ix:St)[0]?=some none:=rfl
     rw[this]at E;cases E
   |succ j=>
     have F:cs[j]?=some y:=S;have f:(iH Z ix)[j]?=some (some v):=E;unfold iH at f;rw[List.getElem?_map]at f;cases T:ix[j]? with
     |none=>rw[T]at f;cases f
     |some k=>
       rw[T]at f;have M:(Z[k]?).join=some v:=VO f
       have h5:Z[k]?=some (some v):=by
        cases e:Z[k]? with
        |none=>rw[e]at M;cases M
        |some w=>rw[e]at M;exact congrArg some M
       have h6:X.N[k]?=some y:=by
        have q:=congrArg (λl=>l[j]?) D;simp only[VR,T,F,Xc]at q;exact VO q
       obtain⟨c1,c2⟩:=n.cap y (Wu F);obtain⟨m,hn',hl⟩:=I.loc;obtain⟨u,r,l⟩:=hl k y v h6 h5 (c1.elim (λz=>.inr (.inl z)) λz=>.inr (.inr z));refine⟨u,r,?_⟩;rcases l with ⟨l,_⟩|⟨_,c,ec,hc⟩
       ·have W:X.env.scope.names.lookup y=some .local:=l;rcases c1 with z|z<;>(rw[z]at W;cases W)
       · obtain⟨c',J⟩:=im (env:=X.env) (y:=y) (l:=scope.names) (acc:=[]) (.inl (WL c2));have Y:=d y c' J;rw[ec]at Y;cases Y;refine .inr ⟨?_,c,J,?_⟩
         · rcases h3 with z|z|z
           · have z':(relabel scope X.env).names.lookup y=some .local:=z;obtain ⟨k',B,e | ⟨_,e⟩⟩:=iP z'
             · subst e
               have:=n.loc _ B rfl
               dsimp only at this;rw[c2]at this;cases this
             ·cases e
           ·exact .inl z
           ·exact .inr z
         ·obtain⟨o,P,hd⟩:=hc;exact⟨o,K c o P,hd⟩
 ·obtain⟨v,o,P,hd⟩:=I.cell y c (d y c e);exact⟨v,o,K c o P,hd⟩
 ·show(none::iH Z ix:St).length=(x::cs).length;rw[Vx,Vx,iH,Vs,t]
end
def Qx(X:Cx)(a:List Expr)(t:TT):Prop:=
 ∀(G:P1) (s:Shared) (Z:St) (H:Hp) (Q:Bool->Hp->Prop),Inv X G Z H s->t Z H Q->
  wpAny (model X.prog X.w) X.A (forIn a true λc r=>if r=true then do let ok <-isTrue c X.env (eval c X.env);pure (ForInStep.yield ok) else pure (ForInStep.yield r)) (TP X G Z Q) X.xe s
def QF:TT:=λ_ H Q=>Q true H
theorem mX{X:Cx}:Qx X [] QF:=λ_ _ _ H _ I h=>wpAny_tests_nil ⟨H,I,h⟩
theorem zS{X:Cx}{c:Expr}{t:TT}(h:PT X c t):Qx X [c] t:=λG s Z H Q I a=>wpAny_tests_one (h G s Z H Q I a)
section
variable{prog:Program}{w:World}{A:Around}{R:Result->Shared->Prop}{s:Shared}
theorem wu{o a iter:Expr}{k:List Expr}{scope:Scope}{pos:Pos}{B acc:Value}{env:Env}(I:Nat->Shared->Prop)
 (p:∀n s,I n s->wpAny (model prog w) A (pyNext B) (λr b=>match r with
   |none=>R (.ok .next) b
   |some v=>wpAny (model prog w) A (letOwnedTupleGo a B v) (λ_ b=>wpAny (model prog w) A (assign a env v) (λ_ g=>
      wpAny (model prog w) A (forIn k true λc r=>if r=true then do let ok <-isTrue c env (eval c env);pure (ForInStep.yield ok) else pure (ForInStep.yield r)) (λok d=>
       if ok=true then wpAny (model prog w) A (eval o env) (λx f=>
        wpAny (model prog w) A (call (.builtin "list.append") [acc,x]) (λ_ e=>∃m,m<n/\I m e) (λ_ _=>False) f) (λ_ _=>False) d
       else ∃m,m<n/\I m d) (λ_ _=>False) g) (λ_ _=>False) b) (λ_ _=>False) b) (λ_ _=>False) s)
 (n:Nat) (h:I n s):codeAny (model prog w) A (.compLoop (.ListComp o [⟨a,iter,k,0⟩] scope pos) 0 B acc env) R s:=by
 refine codeAny_loop rfl I (λn s D=>?_) n h;have up:∀{W:Type} {t:Sem W} {Q:W->Shared->Prop} {E:P4} {s:Shared},wpAny (model prog w) A t Q (λ_ _=>False) s->wpAny (model prog w) A t Q E s:=λh=>XE h (λ_ _ z=>z) λ_ _ z=>z.elim;show wpAny _ A ((compTurn (.ListComp o [⟨a,iter,k,0⟩] scope pos) 0 B acc env).onRaise _) _ _ s;refine wpAny_noted (up ?_);rw[compTurn_list];refine Vp (X7 (Vp (bI (p n s D) λr b j=>?_)));cases r with
 |none=>exact Vz j
 |some v=>
   refine Vp (bI j λ_ C l=>Vp (bI l λ_ g y=>Vp (bI y λok d i=>?_)));cases ok with
   |false=>exact Vz ⟨rfl,i⟩
   |true=>exact Vp (Vp (bI i λx f u=>Vp (bI u λ_ e q=>Vz (Vz ⟨rfl,q⟩))))
end
def HX(J:It)(τ:V->St)(h:TT)(te:TE)(p:Addr)(H1:Hp)(Q:VK):Prop:=
 ∃W:Nat->Nat->List V->Hp->Prop,(∃m,W 0 m [] (upd H1 p (.lst [])))/\∀i m a c,W i m a c->c p=some (.lst a)/\a.length<sizeLine/\
  ((J.stop i c/\Q (.ref p) c)\/(J.go i c/\∀v g,J.yld i c v g->h (τ v) g λb f=>if b=true then te (τ v) f λy e=>e p=some (.lst a)/\∃d,d<m/\W (i+1) d (a++[y]) (upd e p (.lst (a++[y])))
    else ∃d,d<m/\W (i+1) d a f))
def lZ(a:TI)(ix:List Nat)(b:TT)(te:TE):TE:=λZ H Q=>a Z H λJ H1=>∀p,H1 p=none->HX J (λv=>some v::iH Z ix) b te p H1 Q
section
variable{X:Cx}{G:P1}{Z:St}{H:Hp}{s:Shared}{scope:Scope}{x:Str}{px pos:Pos}{cs:List Str}{ix:List Nat}{fp:List Addr}{elt iter:Expr}{ifs:List Expr}{ti:TT}{te:TE}
theorem pV{J:It}{it:Addr}{S:Nat->Heap->Prop}{Qe:VK}{RR:Value->Addr->Result->Shared->Prop}{E:P4}(Q:X.calm=true)(I2:Inv X G Z H s)(g:CompSc X.env.scope scope x cs)(hix:ix.map (λi=>X.N[i]?)=cs.map some)
 (T:Turn X.prog X.w X.K (.Name x px) J fp it S) (st0:S 0 s.heap) (B:∀b∈fp,qi X G H b)
 (hti:∀C fp s₀ H₀,Qx (ja X scope (cA X.env scope.names []) C (x::cs) fp s₀ H₀) ifs ti) (hte:∀C fp s₀ H₀,PE (ja X scope (cA X.env scope.names []) C (x::cs) fp s₀ H₀) elt te)
 (hW:∀p,H p=none->HX J (λv=>some v::iH Z ix) ti te p H Qe)
 (hRR:∀p C H' f,Inv X G Z H' f->qi X G H' C->(∃m,f.heap.Ns C m)->Qe (.ref p) H'->RR (.ref p) C (.ok .next) f):
 wpAny (model X.prog X.w) X.A (newList []) (λacc s₃=>wpAny (model X.prog X.w) X.A (newFunctionEnv scope X.env.globals (cA X.env scope.names []) [] X.env.qual none .none (some X.env)) (λL s₄=>
  codeAny (model X.prog X.w) X.A (.compStart (.ListComp elt [⟨.Name x px,iter,ifs,0⟩] scope pos) 0 (.ref it) acc { L with scope:=relabel scope X.env }) (RR acc L.locals) s₄) E s₃) E s:=by
 refine wpAny_newObj_type (wpAny_newFunctionEnv g.cell (by intro y hy;simp at hy) (λh k j=>?_) g.kind);dsimp only at k j ⊢;have hD:H s.heap.objs.size=none:=I2.hok.fresh (Nat.le_refl _)
 have I3:Inv X G Z (upd H s.heap.objs.size (.lst [])) {s with heap:=s.heap.push {cls:=.type "list",dict:=none,data:=.seq ([]:List Value).toArray}}:=
  I2.laid (t':=s.toks) (λb u e=>Vv _ e) (VE _) ⟨WD _,[],0,.nil,VN _ rfl⟩
 obtain⟨W,⟨m0,w0⟩,R⟩:=hW _ hD
 have I:∀b∈fp,b<s.heap.objs.size:=λb a=>by
  obtain⟨o,e,_⟩:=T.obj 0 _ st0 b a;exact VB e
 have hlt:∀b∈fp,b<(s.heap.push {cls:=.type "list",dict:=none,data:=.seq ([]:List Value).toArray}).objs.size:=λb a=>by
  rw[Xh];exact X3 (I b a)
 have hf3:∀b∈fp,qi X G (upd H s.heap.objs.size (.lst [])) b:=λb a=>⟨by rw[aE (VX (I b a))];exact(B b a).1,(B b a).2⟩
 have kept:∀b o,(s.heap.push {cls:=.type "list",dict:=none,data:=.seq ([]:List Value).toArray}).get? b=some o->h.get? b=some o:=λb o e=>
  j.extBut b o (VX (VB e)) (Vv _ e)
 have P:∀b o,s.heap.get? b=some o->h.get? b=some o:=λb o e=>kept b o (Vv _ e);have I4:=Gr (t₁:=s.toks+([]:List (Str×Value)).length) I3 g hix hf3 hlt k kept;have st4:S 0 h:=T.keep 0 _ _ st0 λb _ o e=>P b o e
 have F:codeAny (model X.prog X.w) X.A (.compLoop (.ListComp elt [⟨.Name x px,iter,ifs,0⟩] scope pos) 0 (.ref it) (.ref s.heap.objs.size) (compEnvC scope (cA X.env scope.names []) (s.heap.push {cls:=.type "list",dict:=none,data:=.seq ([]:List Value).toArray}).objs.size X.env))
  (RR (.ref s.heap.objs.size) (s.heap.push {cls:=.type "list",dict:=none,data:=.seq ([]:List Value).toArray}).objs.size) {s with heap:=h,toks:=s.toks+([]:List (Str×Value)).length}:=by
  generalize l:ja X scope (cA X.env scope.names []) (s.heap.push {cls:=.type "list",dict:=none,data:=.seq ([]:List Value).toArray}).objs.size (x::cs) fp {s with heap:=s.heap.push {cls:=.type "list",dict:=none,data:=.seq ([]:List Value).toArray}} (upd H s.heap.objs.size (.lst []))=Y at I4;have hti':Qx Y ifs ti:=by rw[<-l];exact hti _ _ _ _
  have hte':PE Y elt te:=by rw[<-l];exact hte _ _ _ _
  have hcY:Y.calm=true:=by rw[<-l];exact Q
  have hg:PG Y (.Name x px) (fE 0):=by
   rw [<-l];exact cc g.nd rfl (.inl (lookup_relabel_local g.var)) (.inr (lookup_relabel_local g.var))
  have f4:∀{H':Hp},(∀b∈fp,H' b=none)->∀b∈fp,qi Y [] H' b:=λ{H'} hn b a=>by
   rw[<-l];refine⟨hn b a,VX (hlt b a),λz=>?_,.inl a,λy c e z=>?_,λp hp=>absurd (show p∈([]:P1) from hp) (by simp)⟩
   · rcases VA.mp (I3.stkSub b z) with q|q
     ·exact(B b a).2.1 q
     ·exact(B b a).2.2.1 q
   · rcases il (wv I2 g) e with q|q
     ·cases q
     ·exact(B b a).2.2.2.2.1 y c q z
  have fin:∀{D:Option V} {H':Hp} {f:Shared},Inv Y [] (D::iH Z ix) H' f->Qe (.ref s.heap.objs.size) H'->RR (.ref s.heap.objs.size) (s.heap.push {cls:=.type "list",dict:=none,data:=.seq ([]:List Value).toArray}).objs.size (.ok .next) f:=λ{D H' f} J q=>by
   rw[<-l]at J;have Ix:Inv X G Z H' f:=I3.call' (ch:=fp) J.os J.base J.hok J.bare λb a=>⟨(B b a).2.2.2.1,(B b a).2.1,(B b a).2.2.2.2.1,(B b a).2.2.2.2.2⟩;refine hRR _ _ H' f Ix (I3.fpOk (VE _) J.free) ?_ q;obtain⟨m,hm,_⟩:=J.loc;exact⟨m,hm⟩
  have eY:compEnvC scope (cA X.env scope.names []) (s.heap.push {cls:=.type "list",dict:=none,data:=.seq ([]:List Value).toArray}).objs.size X.env=Y.env:=by rw[<-l];rfl
  have eP:X.prog=Y.prog:=by rw[<-l];rfl
  have eW:X.w=Y.w:=by rw[<-l];rfl
  have eK:X.K=Y.K:=by rw[<-l];rfl
  have eA:X.A=Y.A:=by rw[<-l];rfl
  have eX:Y.xe=λ_ _=>False:=by rw[<-l];rfl
  rw[eP,eW,eK]at T;rw[eY,eP,eW,eA];refine wu (λn f=>∃i M D H',Inv Y [] (D::iH Z ix) H' f/\S i f.heap/\(∀b∈fp,H' b=none)/\W i n M H') ?_ m0 ⟨0,[],none,_,I4,st4,λb a=>(hf3 b a).1,w0⟩;rintro n f ⟨i,M,D,H',I',st',fr',w'⟩;obtain⟨hp,hlen,U⟩:=R i n M H' w';rcases U with ⟨stop,q⟩|⟨go,step⟩
  ·refine bI (T.done Y rfl rfl rfl hcY i [] f (D::iH Z ix) H' (λ_ _=>False) I' (f4 fr') st' stop) λr s1 ⟨hr,I1⟩=>?_;subst hr;exact fin I1 q
  · refine bI (T.item Y rfl rfl rfl hcY i [] f (D::iH Z ix) H' (λ_ _=>False) I' (f4 fr') st' go) λr s1 ⟨u,hr,h4⟩=>?_;subst hr;refine bI h4 λ_ s2 ⟨v,H2,J2,r2,y2,O,fr2⟩=>?_;have J2p:=J2.pinned (f4 fr2) (T.obj _ _ O)
    have again:∀{t:St} {H7:Hp} {s7:Shared},Inv Y ([]++nA fp s2.heap) t H7 s7->S (i+1) s7.heap/\∀b∈fp,H7 b=none:=λ{t H7 s7} I7=>by
     refine⟨T.keep _ _ _ O λb a o e=>(I7.pin (b,o) (Vt _ (Vt _ (g9 a e)))).1,λb a=>?_⟩;obtain⟨o,e,d⟩:=T.obj _ _ O b a;exact(I7.pin (b,o) (Vt _ (Vt _ (g9 a e)))).2.1
    have hga:=hg _ s2 (D::iH Z ix) H2 v u (λt H'=>t=some v::iH Z ix/\H'=H2) J2p r2 ⟨rfl,rfl⟩;rw[eX]at hga;refine bI hga λ_ s3 ⟨σ3,H3,J3,e3,e3'⟩=>?_;subst e3 e3';have htt:=hti' _ s3 _ H3 _ J3 (step v H3 y2);rw[eX]at htt;refine bI htt λb s4 ⟨H4,J4,q4⟩=>?_;cases b with
    |false=>
      rw[on VD]at q4 ⊢;obtain⟨m',hm,w4⟩:=q4;exact⟨m',hm,i+1,M,some v,H4,J4.unpinned,(again J4).1,(again J4).2,w4⟩
    |true=>
      rw[Vq rfl]at q4 ⊢;have hee:=hte' _ s4 _ H4 _ J4 q4;rw[eX]at hee;refine bI hee λy s5 ⟨yv,H5,J5,r5,hp5,m',hm,w5⟩=>?_;have hap:=gJ (X:=Y) _ s5 _ H5 (.ref s.heap.objs.size) [yv] (.ref s.heap.objs.size) [y] (λ_ H6=>H6=upd H5 s.heap.objs.size (.lst (M++[yv]))) J5 rfl (.cons r5 .nil) ⟨_,M,yv,rfl,rfl,hp5,hlen,rfl⟩;rw[eX]at hap;refine bI hap λ_ s6 ⟨_,H6,J6,_,e6⟩=>?_;subst e6;exact⟨m',hm,i+1,M++[yv],some v,_,J6.unpinned,(again J6).1,(again J6).2,w5⟩
 exact codeAny_compStart_list F (T.self _ 0 _ _ _ st4 F)
theorem kj{n:TI}(c:X.calm=true)(hi:PI X (.Name x px) iter n)(a:CompSc X.env.scope scope x cs)(k:ix.map (λi=>X.N[i]?)=cs.map some)
 (f:∀C fp s₀ H₀,Qx (ja X scope (cA X.env scope.names []) C (x::cs) fp s₀ H₀) ifs ti) (g:∀C fp s₀ H₀,PE (ja X scope (cA X.env scope.names []) C (x::cs) fp s₀ H₀) elt te)
 (l:closureFor scope X.env=pure (cA X.env scope.names []):=by rfl) (u:∀x,foldedSetIterable iter X.env x=pure x:=by intro _;rfl):
 PE X (.ListComp elt [⟨.Name x px,iter,ifs,0⟩] scope pos) (lZ n ix ti te):=by
 intro G s Z H Q I h;rw[eval_ListComp];refine wpAny_comprehension_free (use:=none) rfl u l a.kind a.loc (bI (hi G s Z H _ I h) λv V E=>bI E λt s2 D=>?_);obtain⟨W,fp,U,J,Y,e,R,T,d,M,B⟩:=D;subst e;refine pV (RR:=λacc C=>compPost (model X.prog X.w) X.A X.xe none (EP X G Z Q) acc C) c R a k T d M f g B ?_;rintro p C H' r S ⟨P,O,_,L,K,F⟩ ⟨m,y⟩ q;exact⟨m,y,λh' j=>⟨.ref p,H',S.turned (t':=r.toks) (λb o z e=>j.extBut b o z e) P O L K F,rfl,q⟩⟩
theorem xl{O:TI}{y:Str}{py a:Pos}{i:Nat}(g:X.calm=true)(hN:X.N.Nodup)(K:X.N[i]?=some y)(hy:Qy X.env.scope y)(hi:PI X (.Name x px) iter O)(f:CompSc X.env.scope scope x cs)(F:ix.map (λi=>X.N[i]?)=cs.map some)
 (r:∀C fp s₀ H₀,Qx (ja X scope (cA X.env scope.names []) C (x::cs) fp s₀ H₀) ifs ti) (t:∀C fp s₀ H₀,PE (ja X scope (cA X.env scope.names []) C (x::cs) fp s₀ H₀) elt te)
 (u:swapsWith (.ListComp elt [⟨.Name x px,iter,ifs,0⟩] scope pos) (some (.Name y py)) a.line X.env=pure true:=by rfl)
 (L:closureFor scope X.env=pure (cA X.env scope.names []):=by rfl) (hs:∀x,foldedSetIterable iter X.env x=pure x:=by intro _;rfl)
 (hf:X.fn y=true\/X.env.scope.names.lookup y=some .local:=by first | exact .inl rfl | exact .inr rfl | assumption):
 PS X (.Assign [.Name y py] (.ListComp elt [⟨.Name x px,iter,ifs,0⟩] scope pos) a) (wU (lZ O ix ti te) (fE i)):=by
 intro G s Z H D I h;rw[exec_Assign_Name_used _ _ _ _ u];refine Vp (X7 (Vp ?_));show wpAny _ X.A (do let _ <-comprehension (.ListComp elt [⟨.Name x px,iter,ifs,0⟩] scope pos) scope X.env _ (newList []) false (eval iter X.env) (some (assign (.Name y py) X.env))) _ _ s;refine Vp (bI (wpAny_comprehension_free (Q:=λ_ d=>SP X G D .next d) rfl hs L f.kind f.loc (bI (hi G s Z H _ I h) λv s1 h1=>bI h1 λY s2 h2=>?_)) λ_ d hq=>Vz (Vz hq));obtain⟨it,fp,tn,J,H2,e,I2,T,n,f2,hW⟩:=h2;subst e;refine pV (RR:=λacc C=>compPost (model X.prog X.w) X.A X.xe (some (assign (.Name y py) X.env)) (λ_ d=>SP X G D .next d) acc C) g I2 f F T n f2 r t hW ?_;rintro p C H' d S ⟨f0,P,M,f3,f4,f5⟩ ⟨m,hm⟩ q;obtain⟨k,es,ep,E,j,V⟩:=hm
 have Ip:Inv X (G++[(C,k)]) Z H' d:=S.pins_of λp hp=>(VH.mp hp).elim (λz=>S.pin p (Vt _ z)) λz=>by
  have e:p=(C,k):=by simpa using z
  subst e;exact⟨E,f0,P,M,λv z=>by rw[j]at z;cases z⟩
 have hg:PG X (.Name y py) (fE i):=cc hN K hy hf;refine bI (hg _ d Z H' (.ref p) (.ref p) D.nx Ip rfl q) λ_ U ⟨l,H3,R,W⟩=>?_;have c:=R.pin (C,k) (Vt _ (Vt _ (by simp)));refine⟨m,⟨k,es,ep,c.1,j,V⟩,λh' B=>?_⟩;exact⟨l,H3,(R.unpinned).turned (t':=U.toks) (λb o hb e=>B.extBut b o hb e) c.2.1 P f3 f4 f5,W⟩
end
mutual
def Den(K:F0)(H:Hp):PyData->V->Prop
 |.none,v=>v=.non
 |.bool b,v=>v=.bl b
 |.int i,v=>v=.int i
 |.str x,v=>v=.str x
 |.list ds,v=>∃a xs,v=.ref a/\SqL K H a xs/\Dens K H ds xs
 |.tuple ds,v=>∃a xs,v=.ref a/\SqT K H a xs/\Dens K H ds xs
 |.dict _,_=>False
def Dens(K:F0)(H:Hp):List PyData->List V->Prop
 |[],xs=>xs=[]
 |d::ds,xs=>∃x r,xs=x::r/\Den K H d x/\Dens K H ds r
end
section
variable{X:Cx}{G:P1}{Z:St}{H:Hp}{s:Shared}
mutual
theorem den_reads(I:Inv X G Z H s):∀(d:PyData) {v:V} {u:Value},Den X.K H d v->RelV v u->∃m,Reads s.heap u d m
 | .none,v,u,h,r=>by
   rw[Den]at h;subst h;have c:u=Value.none:=r;subst c;exact⟨_,.none⟩
 | .bool b,v,u,h,r=>by
   rw[Den]at h;subst h;have c:u=Value.bool b:=r;subst c;exact⟨_,.bool b⟩
 | .int i,v,u,h,r=>by
   rw[Den]at h;subst h;obtain⟨t,c⟩:=(show ∃t,u=Value.int i t from r);subst c;exact⟨_,.int i t⟩
 | .str x,v,u,h,r=>by
   rw[Den]at h;subst h;obtain⟨t,c⟩:=(show ∃t,u=Value.str x t from r);subst c;exact⟨_,.str x t⟩
 | .list ds,v,u,h,r=>by
   rw[Den]at h;obtain⟨a,xs,rfl,j,hd⟩:=h;have c:u=Value.ref a:=r;subst c;obtain⟨its,f,p,hz⟩:=I.list j;obtain⟨m,g⟩:=dens_reads I ds hd f;obtain⟨o,k,l,n,e⟩:=p.isList;exact⟨_,.list k l e (by simpa using g)⟩
 | .tuple ds,v,u,h,r=>by
   rw[Den]at h;obtain⟨a,xs,rfl,j,hd⟩:=h;have c:u=Value.ref a:=r;subst c;obtain⟨its,f,p,hz⟩:=I.tuple j;obtain⟨m,g⟩:=dens_reads I ds hd f;obtain⟨o,k,l,n,e⟩:=p;exact⟨_,.tuple k l e (by simpa using g)⟩
 | .dict _,v,u,h,r=>by
   rw[Den]at h;exact h.elim
theorem dens_reads(I:Inv X G Z H s):∀(ds:List PyData) {xs:List V} {us:List Value},Dens X.K H ds xs->Vals xs us->∃a,ReadsAll s.heap us ds a
 | [],xs,us,h,r=>by
   rw[Dens]at h;subst h;cases r;exact⟨_,.nil⟩
 | d::ds,xs,us,h,r=>by
   rw[Dens]at h;obtain⟨x,t,rfl,g,i⟩:=h;cases r with
   |cons f e=>
     obtain⟨a,c⟩:=den_reads I d g f;obtain⟨bs,b⟩:=dens_reads I ds i e;exact⟨_,.cons c b⟩
end
end
theorem rB{K:F0}{H:Hp}:∀ns:List Int,Dens K H (ns.map PyData.int) (ns.map V.int)
 |[]=>by rw[Wt,Wt,Dens]
 | n::r=>by
   rw[Vr,Vr,Dens];exact⟨_,_,rfl,by rw[Den],rB r⟩
theorem vE{K:F0}{H:Hp}{a:Addr}{ns:List Int}(h:SqL K H a (ns.map V.int)):Den K H (.list (ns.map PyData.int)) (.ref a):=by
 rw[Den];exact⟨a,_,rfl,h,rB ns⟩
theorem GF(ns T:List Int):PyData.eqv (.list (ns.map PyData.int)) (.list (T.map PyData.int))=decide (ns=T):=by
 rw[<-SeqAt.same_eq_eqv _ _ (by simp only[SeqAt.noMix];exact PySem.W.noMix_ints ns T)];simp only[same];exact PySem.W.same_ints ns T
section
variable{X:Cx}
def Ev(K:F0)(neg:Bool):R2:=λx y H Q=>∃d e,Den K H d x/\Den K H e y/\SeqAt.shaped d=true/\SeqAt.shaped e=true/\Q (.bl (if neg then !PyData.eqv d e else PyData.eqv d e)) H
theorem Nl(j:X.A.units+64<cLine):lj X (compareOp .Eq) (Ev X.K false):=by
 intro G s Z H x y v u Q I f c h;obtain⟨d,e,hd,k,b,a,q⟩:=h;obtain⟨l,i⟩:=den_reads I d hd f;obtain⟨bs,g⟩:=den_reads I e k c;exact eq_dataH i g b a j ⟨.bl _,H,I,rfl,q⟩
theorem Nj(j:X.A.units+64<cLine):lj X (compareOp .NotEq) (Ev X.K true):=by
 intro G s Z H x y v u Q I f c h;obtain⟨d,e,hd,k,b,a,q⟩:=h;obtain⟨l,i⟩:=den_reads I d hd f;obtain⟨bs,g⟩:=den_reads I e k c;exact ne_dataH i g b a j ⟨.bl _,H,I,rfl,q⟩
theorem Nk(j:X.A.units+65<cLine):lj X (compareOp .In) (λx y H Q=>∃d xs,Den X.K H d x/\Den X.K H (.list xs) y/\SeqAt.shaped d=true/\SeqAt.shaped (.list xs)=true/\(∀z∈xs,SeqAt.noMix z d=true)/\Q (.bl (decide (countIn d xs≠0))) H):=by
 intro G s Z H x y v u Q I e c h;obtain⟨d,xs,hd,k,b,a,i,q⟩:=h;obtain⟨l,g⟩:=den_reads I d hd e;obtain⟨bs,f⟩:=den_reads I _ k c;exact in_list_dataH f g a b j i ⟨.bl _,H,I,rfl,q⟩
end
section
variable{X:Cx}
theorem HG:dR X (.builtin "isinstance") (λxs H Q=>∃x c t b,xs=[x,.ty c]/\TyOf X.K H x t/\PySem.W.kitOne X.K t (.type c)=some b/\Q (.bl b) H):=by
 intro G s Z H xs us Q I r h;obtain⟨x,c,t,b,rfl,ty,e,q⟩:=h;obtain⟨u,a,rfl,i,g⟩:=C8 r;have f:a=Value.type c:=g;subst f;exact Cw I i ty e λd=>⟨.bl b,H,I.tok d,rfl,q⟩
end
def S3(g:Bool):String:=cond g "max.loop" "min.loop"
def Qr(g:Bool):String:=cond g "max" "min"
def UU(g:Bool):CmpOp:=cond g .Gt .Lt
theorem OU:∀g,plainId (S3 g)=true|false=>PySem.F.plain_min_loop|true=>PySem.F.plain_max_loop
theorem U9:∀g,entryFor table (S3 g)=some (cond g Builtin.«max.loop» Builtin.«min.loop»)|false=>PySem.F.entry_min_loop|true=>PySem.F.entry_max_loop
theorem xmE:∀g,entryFor table (Qr g)=some (cond g Builtin.«max» Builtin.«min»)|false=>PySem.F.entry_min|true=>PySem.F.entry_max
theorem xmP:∀g,builtinKind (Qr g)=none/\plainId (Qr g)=true|false=>⟨PySem.F.kind_min,PySem.F.plain_min⟩|true=>⟨PySem.F.kind_max,PySem.F.plain_max⟩
theorem J9(a d:Value):∀g,argsOk (Qr g) ⟨[a],[(Str.ofString "default",d)]⟩|false=>by unfold argsOk;kernel_rfl|true=>by unfold argsOk;kernel_rfl
theorem UI:(toString "min" ++ toString ".loop" : String)=S3 false:=by decide
theorem UH:(toString "max" ++ toString ".loop" : String)=S3 true:=by decide
section
variable{prog:Program}{w:World}{A:Around}{R:Result->Shared->Prop}{I:Addr}{fp wr:List Addr}{n:Nat}{P:Nat->Value->Prop}{St:Nat->Heap->Prop}
theorem GV(g:Bool)(W:Walks prog w A.in1 I fp wr n P St)(T:List (Str×Value))(x:Nat->Nat->Bool)(S:Addr)(L:S∉fp)(G:Shared->Prop)
 (N:∀(s:Shared) h' l,G s->(∀b o,b∉wr->b≠S->s.heap.get? b=some o->h'.get? b=some o)->G {s with heap:=h',toks:=l})
 (F:∀i j J H (s:Shared) (Q:P4) (E:P4),G s->P i J->P j H->Q (.bool (x i j)) s->wpAny (model prog w) A.in1 (richCompare (UU g) J H) Q E s):∀(k j:Nat) (s:Shared) (h:Value) (c:Nat),
 n-(j+1)=k->j+1<=n->G s->St (j+1) s.heap->P (argBest x j) h->s.heap.get? S=some {cls:=.type "list",dict:=none,data:=.seq #[h,h] c,slots:=#[]}->
 (∀v h' l,P (argBest x (n-1)) v->(∀b o,b∉wr->b≠S->s.heap.get? b=some o->h'.get? b=some o)->R (.ok (.ret v)) {s with heap:=h',toks:=l})->
 codeAny (model prog w) A (.builtin (S3 g) ⟨[.ref I,.none,.ref S],T⟩) R s:=by
 have K:S∉wr:=λz=>L (W.sub _ z);cases g
 all_goals
  intro k
  induction k with
  |zero=>
    intro j s h c e1 V g st C B p;refine WY (U9 _) ?_;rw[Ww (OU _) _];refine Vp (m:=seqItems? (.ref S)) (wpAny_seqItems B rfl ?_);refine Vp (m:=tryCatch (pyNext (.ref I)) _) (Xz (W.done s _ _ ((show j+1=n by omega)▸st) λh' l kp=>?_));refine Vp (m:=updateSeq S (λ_=>#[])) ?_;refine Yt (kp S _ K B) rfl (Vp (Xv (Vz ?_)));exact p h _ l (by rw[show n-1=j by omega];exact C) λb o f q e=>(V3 _ _ (W6 q)).trans (kp b o f e)
  |succ k M=>
    intro j s h c e1 V g st C B p;have lt:j+1<n:=by omega
    refine WY (U9 _) ?_;rw[Ww (OU _) _];refine Vp (m:=seqItems? (.ref S)) (wpAny_seqItems B rfl ?_);refine Vp (m:=tryCatch (pyNext (.ref I)) _) (Xz (W.item (j+1) s _ _ lt st λv h' l pv y kp=>?_));have t:=kp S _ K B;have g':G {s with heap:=h',toks:=l}:=N s h' l g λb o f _ e=>kp b o f e;refine Vp (m:=tryCatch (holding [v,v] (richCompare _ v h >>= _)) _) (Xz (WQ (Vp (F (j+1) (argBest x j) v h _ _ _ g' pv C ?_))));refine Vp (WQ (WH (Vp (Xv (Vz ?_)))));cases O:x (j+1) (argBest x j) with
    |true=>
      rw[Vq rfl];refine Vp ?_;refine Yt t rfl (Vp (Xv ?_))
      first | rw[UI] | rw[UH]
      refine Vz ⟨W1 (OU _) _,M (j+1) _ v _ (by omega) lt (N _ _ l g' λb o f q e=>(V3 _ _ (W6 q)).trans e) (W.frame _ _ _ y λb U o e=>?_) (by simp only[argBest,O,YO];exact pv) (V6 _ t rfl) λD u a r d=>?_⟩
      ·exact(V3 _ _ (λz:S=b=>L (by rw[z];exact U))).trans e
      ·exact p D u a r λb o f q e=>d b o f q ((V3 _ _ (W6 q)).trans (kp b o f e))
    |false=>
      rw[on VD];refine Vp (Xv ?_)
      first | rw[UI] | rw[UH]
      exact Vz ⟨W1 (OU _) _,M (j+1) _ h c (by omega) lt g' y (by simp only[argBest,O,Xa,Yh];exact C) t λD u a r d=>p D u a r λb o f q e=>d b o f q (kp b o f e)⟩
end
section
variable{prog:Program}{w:World}{A:Around}{E:P4}{s:Shared}
theorem wC(g:Bool){x d:Value}{Q:P4}
 (h:wpAny (model prog w) A.in1 (pyIter x) (λN a=>∃I u f n P St y,∃G:Shared->Prop,N=.ref I/\Walks prog w A.in1 I u f n P St/\St 0 a.heap/\(∀b∈u,b<a.heap.objs.size)/\
   G a/\(∀(s:Shared) h' c,G s->(∀b o,b∉f->b≠a.heap.objs.size->s.heap.get? b=some o->h'.get? b=some o)->G {s with heap:=h',toks:=c})/\
   (∀i j L K (s:Shared) (Q:P4) (E:P4),G s->P i L->P j K->Q (.bool (y i j)) s->wpAny (model prog w) A.in1 (richCompare (UU g) L K) Q E s)/\
   (n=0->∀h' c,(∀b o,b∉f->a.heap.get? b=some o->h'.get? b=some o)->Q d {a with heap:=h',toks:=c})/\
   (0<n->∀v h' c,P (argBest y (n-1)) v->(∀b o,b∉f->a.heap.get? b=some o->h'.get? b=some o)->Q v {a with heap:=h',toks:=c})) E s):
 wpAny (model prog w) A (call (.builtin (Qr g)) [x] [(Str.ofString "default",d)]) Q E s:=by
 cases g
 all_goals
  refine kmk_tree (xmP _).1 (xmP _).2 (xmE _) (J9 _ _ _) ?_;refine Vp (m:=Builtin.Builtins.bindParams _ ["key","default"] 0 ⟨[],[(Str.ofString "default",d)]⟩) (wpAny_of_eq (show _=pure [none,some d] from rfl) ?_);refine Vp (Vz (Vp (XE h (λN a t=>?_) λ_ _ e=>e)));obtain⟨I,u,f,n,P,St,y,G,rfl,W,st,lts,Y,O,J,T,S⟩:=t;refine Vp (X4 ?_);have D:a.heap.objs.size∉u:=λz=>Wm _ (lts _ z);have U:a.heap.objs.size∉f:=λz=>D (W.sub _ z)
  first | rw[UI] | rw[UH]
  have p:=W.frame _ _ (a.heap.push {cls:=.type "list",dict:=none,data:=.seq ([]:List Value).toArray}) st λb _ o e=>Vv _ e;have M:(a.heap.push {cls:=.type "list",dict:=none,data:=.seq ([]:List Value).toArray}).get? a.heap.objs.size=some {cls:=.type "list",dict:=none,data:=.seq ([]:List Value).toArray}:=VN _ rfl;refine Vz ⟨W1 (OU _) _,WY (U9 _) ?_⟩;rw[Ww (OU _) _];refine Vp (m:=seqItems? (.ref a.heap.objs.size)) (wpAny_seqItems M rfl ?_);by_cases F:n=0
  ·refine Vp (m:=tryCatch (pyNext (.ref I)) _) (Xz (W.done _ _ _ (F▸p) λh' c kp=>?_));refine Vp (m:=rule _) (wpAny_rule (Vz ?_));exact T F h' c λb o k e=>kp b o k (Vv _ e)
  · have lt:0<n:=Nat.pos_of_ne_zero F;refine Vp (m:=tryCatch (pyNext (.ref I)) _) (Xz (W.item 0 _ _ _ lt p λv h' c pv B kp=>?_));have q:=kp _ _ U M;refine Vp (m:=updateSeq a.heap.objs.size (λ_=>#[v,v])) ?_;refine Yt q rfl ?_
    first | rw[UI] | rw[UH]
    refine Vz ⟨W1 (OU _) _,GV _ W _ y _ D G O J _ 0 _ v _ rfl lt (O a _ _ Y λb o k X e=>(V3 _ _ (W6 X)).trans (kp b o k (Vv _ e))) (W.frame _ _ _ B λb V o e=>?_) pv (V6 _ q rfl) λR H l C r=>?_⟩
    ·exact(V3 _ _ (λz:a.heap.objs.size=b=>D (by rw[z];exact V))).trans e
    ·exact S lt R H l C λb o k e=>r b o k (VX (VB e)) ((V3 _ _ (Nat.ne_of_gt (VB e))).trans (kp b o k (Vv _ e)))
end
def ji(X:Cx)(f:Value)(c:List Str)(r:List V->List V->Hp->VK->Prop):Prop:=
 ∀(G:P1) (s:Shared) (Z:St) (H:Hp) (xs a:List V) (us b:List Value) (Q:VK),Inv X G Z H s->Vals xs us->Vals a b->r xs a H Q->
  wpAny (model X.prog X.w) X.A (call f us (c.zip b)) (EP X G Z Q) X.xe s
def Do(r:List V->List V->Hp->VK->Prop)(t b:TA):TE:=λZ H Q=>t Z H λvs H1=>b Z H1 λa c=>r vs a c Q
section
variable{X:Cx}{x:Str}{p pos:Pos}{e:Expr}{es:List Expr}{kws:List Keyword}{t tk:TA}{id:String}{ks:List Str}{r:List V->List V->Hp->VK->Prop}
theorem lD(z:ji X (.builtin id) ks r)(w:Gl X x)(u:X.mg x=none)(o:bootBuiltins x=some (.builtin id))(A:PA X (e::es) t)(v:PK X kws tk)
 (c:(backToKw pos (keywordEach kws X.env)).filterMap (·.1)=ks:=by rfl) (q:x ≠ "__name__" := by decide) (f:(x==("__debug__" : Str))=false:=by decide)
 (y:backTo pos (starEach (e::es) X.env)=(false,eval e X.env)::backTo pos (starEach es X.env):=by rfl) (b:(backTo pos (starEach (e::es) X.env)).any (·.1)=false:=by rfl)
 (a:(backToKw pos (keywordEach kws X.env)).all (·.1.isSome)=true:=by rfl) (d:(backToKw pos (keywordEach kws X.env)).any (·.1.isNone)=false:=by rfl):
 PE X (.Call (.Name x p) (e::es) kws pos) (Do r t tk):=by
 intro G s Z H Q I h;refine WS (jP I w u o ?_ q f);refine PyProof.Rows.callWith_kw (bI (A pos G s Z H _ I h) λus j ⟨vs,H1,C,l,n⟩=>bI (v pos G j Z H1 _ C n) λi s2 ⟨g,D,B,k,m⟩=>?_) y b a d;rw[c];exact z G s2 Z D vs g us i Q B l k m
end
theorem eZ:∀{ns:List Int} {us:List Value} {i:Nat} {u:Value},Vals (ns.map V.int) us->us[i]?=some u->∃t,u=.int (ns.getD i 0) t
 | [],us,i,u,r,e=>by
   cases r;cases e
 | n::ns,us,i,u,r,e=>by
   rw[Vr]at r;cases r with
   |cons b a=>
     cases i with
     |zero=>
       cases e;exact b
     |succ i=>
       show ∃t,u=.int (ns.getD i 0) t;exact eZ (ns:=ns) (i:=i) a (by simpa using e)
theorem PH{P:Program}{w:World}{A:Around}{R:Nat->Value->Prop}(v:Nat->Int)(h:∀i u,R i u->∃t,u=.int (v i) t):∀g,CmpOf P w A (UU g) R (cond g (λi j=>decide (v i>v j)) λi j=>decide (v i<v j))|false=>CmpOf.ints_lt v h|true=>CmpOf.ints_gt v h
theorem JY(v:Nat->Int)(k:Nat):∀g,argBest (cond g (λi j=>decide (v i>v j)) λi j=>decide (v i<v j)) k<=k/\∀j,j<=k->cond g (v j<=v (argBest (cond g (λi j=>decide (v i>v j)) λi j=>decide (v i<v j)) k)) (v (argBest (cond g (λi j=>decide (v i>v j)) λi j=>decide (v i<v j)) k)<=v j)|false=>argBest_lt v k|true=>argBest_gt v k
theorem wA(g:Bool){X:Cx}(U:X.calm=true):ji X (.builtin (Qr g)) ["default"] (λxs y H Q=>∃p ns d,xs=[.ref p]/\y=[d]/\SqL X.K H p (ns.map V.int)/\(ns=[]->Q d H)/\∀m∈ns,(∀x∈ns,cond g (x<=m) (m<=x))->Q (.int m) H):=by
 intro G s Z H xs y us ws Q I r J h;obtain⟨p,ns,d,rfl,rfl,S,N,M⟩:=h;obtain⟨u,rfl,L⟩:=Vals.one r;have l:u=Value.ref p:=L;subst l;obtain⟨dv,rfl,rd⟩:=Vals.one J;obtain⟨its,k,pl,hz⟩:=I.list S;have B:ns.length=its.length:=by rw[<-k.length,Vs]
 obtain⟨O,c,w,n⟩:=id pl.isList;have f:p<s.heap.objs.size:=VB c;refine wC g (Xy pl.isList ⟨s.heap.objs.size,_,_,_,_,_,_,λ_=>True,rfl,Walks.list (A:=X.A.in1) (I.ok.hd U) _ p (VX f) its.toArray,⟨⟨_,VN _ rfl,rfl,rfl⟩,⟨O,Vv _ c,w,n⟩⟩,λb W=>?_,trivial,λ_ _ _ _ _=>trivial,λi j D C s Q E _=>PH (R:=λi v=>its.toArray[i]?=some v) (λi=>ns.getD i 0) (λi v e=>eZ k (by simpa using e)) g i j D C s Q E,λe h' F kp=>?_,λe v h' F pv kp=>?_⟩)
 · rw[Xh];rcases VA.mp W with z|z
   ·rw[z];exact Xi _
   · have a:b=p:=by simpa using z
     rw[a];exact X3 f
 · have Y:ns=[]:=V2.mp (by rw[B];simpa using e);refine⟨d,H,I.kept λb o q=>kp b o (λz=>?_) (Vv _ q),rd,N Y⟩;have a:b=s.heap.objs.size:=by simpa using z
   exact absurd (VB q) (by rw[a];exact Wm _)
 · have e':0<its.length:=by simpa using e
   have e1:its.toArray.size-1=ns.length-1:=by rw[VF,B]
   rw[e1]at pv;obtain⟨b1,b2⟩:=JY (λi=>ns.getD i 0) (ns.length-1) g;rw[Yz]at pv;obtain⟨t,rfl⟩:=eZ k pv
   have up:∀i,i<ns.length->ns.getD i 0∈ns:=λi hi=>by
    rw[VL,VI hi];exact Yi hi
   refine⟨.int _,H,I.kept λb o q=>kp b o (λz=>?_) (Vv _ q),⟨t,rfl⟩,M _ (up _ (by omega)) λx P=>?_⟩
   · have a:b=s.heap.objs.size:=by simpa using z
     exact absurd (VB q) (by rw[a];exact Wm _)
   · obtain⟨j,T,rfl⟩:=XJ P
     have:=b2 j (by omega)
     rwa [show ns.getD j 0=ns[j] by rw[VL,VI T];rfl]at this
theorem CV{X:Cx}(b:X.calm=true):ji X (.builtin "min") ["default"] (λxs a H Q=>∃p ns d,xs=[.ref p]/\a=[d]/\SqL X.K H p (ns.map V.int)/\(ns=[]->Q d H)/\∀m∈ns,(∀x∈ns,m<=x)->Q (.int m) H):=wA false b
theorem CW{X:Cx}(b:X.calm=true):ji X (.builtin "max") ["default"] (λxs a H Q=>∃p ns d,xs=[.ref p]/\a=[d]/\SqL X.K H p (ns.map V.int)/\(ns=[]->Q d H)/\∀m∈ns,(∀x∈ns,x<=m)->Q (.int m) H):=wA true b
def dd(ns:List Int):List Int:=ns.foldl step_dedup []
theorem xi(ns:List Int):(List.range ns.length).map (λi=>ns.getD i 0)=ns:=by
 apply X5;intro i;rw[VR];by_cases h:i<ns.length
 ·rw[Xn h,VI h,Xc,VL,VI h];rfl
 ·rw[VP (by rw[XA];omega),VP (by omega)];rfl
theorem vt(ns:List Int):firstMet (λi=>ns.getD i 0) ns.length=dd ns:=by
 unfold firstMet dd;rw[xi]
theorem LI:∀(ns acc:List Int),ns.Nodup->(∀x∈ns,x∉acc)->ns.foldl step_dedup acc=acc++ns
 |[],acc,_,_=>by rw[List.foldl_nil,Wc]
 | n::r,acc,h,hd=>by
   have c:=VQ.mp h
   have e:step_dedup acc n=acc++[n]:=by
    unfold step_dedup;rw[if_neg];intro z;obtain⟨y,d,e⟩:=List.any_eq_true.mp z;have a:y=n:=by simpa using e
    subst a;exact hd y Vu d
   rw[XH,e,LI r (acc++[n]) c.2 λx b z=>?_,Ws]
   ·rfl
   · rcases VH.mp z with z|z
     ·exact hd x (Vw _ b) z
     · have a:x=n:=by simpa using z
       subst a;exact c.1 b
theorem GY{ns:List Int}(h:ns.Nodup):dd ns=ns:=by
 unfold dd;rw[LI ns [] h λ_ _ z=>nomatch z];rfl
section
variable{X:Cx}
theorem CP(j:X.calm=true):dR X (.type "set") (λxs H Q=>∃p ns,xs=[.ref p]/\SqL X.K H p (ns.map V.int)/\ns.length<4000/\∀q,H q=none->Q (.ref q) (upd H q (.set (λk=>(dd ns).any (·==k)) (dd ns).length))):=by
 intro G s Z H xs us Q I r h;obtain⟨p,ns,rfl,i,n,q⟩:=h;obtain⟨u,rfl,g⟩:=Vals.one r;have a:u=Value.ref p:=g;subst a;obtain⟨its,c,pl,hz⟩:=I.list i;have d:its.length=ns.length:=by rw[<-c.length,Vs]
 refine PySem.call_set_list (ns:=ns) (I.ok.hd j) pl.isList (by simpa using yj c) (by rw[List.size_toArray,d];unfold scanBound;omega) λh' m f kp=>?_;have l:its.toArray.size=ns.length:=by rw[List.size_toArray,d]
 rw[l,vt]at f;exact⟨.ref s.heap.objs.size,_,I.laid (o:=.set _ _) (λb o e=>kp b o (VB e) e) (VE _) f,rfl,q _ (I.hok.fresh (VE _))⟩
theorem CS:dR X (.builtin "len") (λxs H Q=>∃a S n,xs=[.ref a]/\H a=some (.set S n)/\Q (.int n) H):=by
 intro G s Z H xs us Q I r h;obtain⟨a,S,n,rfl,i,q⟩:=h;obtain⟨u,rfl,c⟩:=Vals.one r;have b:u=Value.ref a:=c;subst b;obtain⟨o,j,ep,t,d,hex,hd,_,_,g,f,e⟩:=(show s.heap.SetOf (intKind X.prog X.w) a S n from I.hok a _ i);refine call_len_set d hex hd f (Int.lt_of_lt_of_le (Int.ofNat_lt.mpr g) (by unfold scanBound;decide)) ?_;rw[e];exact⟨.int n,H,I.tok _,⟨_,rfl⟩,q⟩
end
def RawD(h:Heap)(d:Addr)(a:Array DictEntry)(ep:Nat):Prop:=∃o,h.get? d=some o/\o.ExactDict/\o.data=.dict a ep
section
variable{prog:Program}{w:World}{A:Around}{E:P4}{s:Shared}{d it:Addr}{es:Array DictEntry}{ep i:Nat}
theorem RawD.typeIs(x:RawD s.heap d es ep):s.TypeIs (.ref d) "dict" := by
 obtain⟨o,b,a,_⟩:=x;exact⟨o,b,a.1⟩
theorem nv{Q:P4}(c:(d==sysModules)=false)(x:RawD s.heap d es ep)
 (e:Q (.ref s.heap.objs.size) {s with heap:=s.heap.push {cls:=.type "dict_keyiterator",data:=.fields #[.ref d,.int 0 0,.int es.size 0,.int ep 0]}}):wpAny (model prog w) A (pyIter (.ref d)) Q E s:=by
 have a:=x.typeIs;obtain⟨o,b,f,hd⟩:=x;refine wpAny_pyIter_slot a PySem.F.slot_dict_iter (wpAny_call_entry PySem.F.slot_dict_iter a PySem.F.entry_dict_iter ?_ (PySem.F.args_dict_iter_1 _));unfold Builtin.«dict.__iter__» Builtin.Dict.dictSlotNone;refine wpAny_bind (wpAny_bind (wpAny_notOrdered_dict a (wpAny_pure ?_)));refine wpAny_bind (m:=Builtin.Dict.showsAll d) ?_;unfold Builtin.Dict.showsAll;rw[if_neg (by rw[c];exact Bool.false_ne_true)];refine wpAny_pure (wpAny_bind (wpAny_dictEntries b hd (wpAny_bind (wpAny_dictEpoch b hd ?_))));exact wpAny_bind (wpAny_newObj_type (wpAny_pure ⟨_,rfl, "dict_keyiterator",_,⟨_,Heap.get?_push_size _ rfl,rfl⟩,PySem.F.slot_dict_keyiterator_next.lookup,e⟩))
theorem nw{Q:Option Value->Shared->Prop}(a:s.heap.IsKeyIter it d i es.size ep)(x:RawD s.heap d es ep)(g:i<es.size)
 (j:∀h',h'.IsKeyIter it d (i+1) es.size ep->Heap.SameBut it s.heap h'->Q (some es[i].key) {s with heap:=h'}):wpAny (model prog w) A (pyNext (.ref it)) Q E s:=by
 obtain⟨o,f,h,hd⟩:=id a;obtain⟨k,c,_,e⟩:=id x;unfold pyNext;refine wpAny_bind (wpAny_attempt (wpAny_callSpecial?_slot (name:=Str.ofString "__next__") a.typeIs PySem.F.slot_dict_keyiterator_next (wpAny_call_entry PySem.F.slot_dict_keyiterator_next a.typeIs PySem.F.entry_dict_keyiterator_next ?_ (PySem.F.args_dict_keyiterator_next_1 _))));refine wpAny_bind (wpAny_pure (wpAny_bind (wpAny_bind ?_)))
 first | refine Vp (WG a.typeIs (Vz ?_)) | refine Vp (W3 a.typeIs (Vz ?_))
 refine Vp (wpAny_fieldsOf f hd ?_);simp only[show Builtin.Dict_items.ownsTuple "dict_keyiterator" = false from by decide,Xa,Yh];show wpAny _ _ (if (Value.ref d==Value.none)=true then _ else _) _ _ s;rw[on (show ¬ ((Value.ref d==Value.none)=true) from VD)];refine Vp (Vz (Vp (WZ c e ?_)));rw[on (by simp)];refine Vp (Vz (Vp (Yu c e ?_)));rw[on (by simp)];refine Vz ?_;simp only[show ¬ ((i:Int)<0) from by omega,Yh,Int.toNat_natCast,Wp g];refine Vp ?_
 first | refine Vp (WG a.typeIs (Vz ?_)) | refine Vp (W3 a.typeIs (Vz ?_))
 refine Vp (wpAny_isOneOf_keyiter a.typeIs ?_);refine Vp (m:=setField (.ref it) 1 (rawInt ((i:Int)+1))) (wpAny_setField f hd (by simp) ?_)
 have b:(s.heap.update it (Obj.mapFields (·.setIfInBounds 1 (rawInt ((i:Int)+1))))).IsKeyIter it d (i+1) es.size ep:=
  ⟨_,V6 _ f (Obj.isFreed_of_fields (Obj.data_mapFields hd _)),(Obj.cls_mapFields ..).trans h,by rw[Obj.data_mapFields hd];simp[rawInt]⟩
 refine Vp (WQ ?_);refine Vp (wpAny_isOneOf_keyiter (s:={s with heap:=s.heap.update it (Obj.mapFields (·.setIfInBounds 1 (rawInt ((i:Int)+1))))}) b.typeIs ?_);exact Vz (Vz ⟨_,rfl,Vz (j _ b (Xo ..))⟩)
theorem sf{Q:Option Value->Shared->Prop}(h:A.handled=none)(c:s.heap.IsKeyIter it d es.size es.size ep)(x:RawD s.heap d es ep)
 (i:∀h',Heap.ExtBut it s.heap h'->Q none {s with heap:=h'}):wpAny (model prog w) A (pyNext (.ref it)) Q E s:=by
 obtain⟨o,g,k,hd⟩:=id c;obtain⟨j,e,_,f⟩:=id x;unfold pyNext;refine wpAny_bind (wpAny_attempt (wpAny_callSpecial?_slot (name:=Str.ofString "__next__") c.typeIs PySem.F.slot_dict_keyiterator_next (wpAny_call_entry PySem.F.slot_dict_keyiterator_next c.typeIs PySem.F.entry_dict_keyiterator_next ?_ (PySem.F.args_dict_keyiterator_next_1 _))));refine wpAny_bind (wpAny_pure (wpAny_bind (wpAny_bind ?_)))
 first | refine Vp (WG c.typeIs (Vz ?_)) | refine Vp (W3 c.typeIs (Vz ?_))
 refine Vp (wpAny_fieldsOf g hd ?_);simp only[show Builtin.Dict_items.ownsTuple "dict_keyiterator" = false from by decide,Xa,Yh];show wpAny _ _ (if (Value.ref d==Value.none)=true then _ else _) _ _ s;rw[on (show ¬ ((Value.ref d==Value.none)=true) from VD)];refine Vp (Vz (Vp (WZ e f ?_)));rw[on (by simp)];refine Vp (Vz (Vp (Yu e f ?_)));rw[on (by simp)];refine Vz ?_;simp only[show ¬ ((es.size:Int)<0) from by omega,Yh,Int.toNat_natCast,Array.getElem?_eq_none (VE _)];refine Vp ?_
 first | refine Vp (WG c.typeIs (Vz ?_)) | refine Vp (W3 c.typeIs (Vz ?_))
 refine Vp (m:=setField (.ref it) 0 .none) (wpAny_setField g hd (by simp) ?_);refine Vp (m:=newExc (.type "StopIteration") []) ?_;simp only[newExc,newTuple];refine Vp (X4 ?_ (by size_fits));refine Vp (m:=firstArgMember _ _) (wpAny_of_eq (a:=Value.none) (by first | rfl | (simp only[firstArgMember];rfl)) ?_);refine X4 ?_ (by size_fits);simp only[raiseNew];refine Vp (wpAny_handled ?_);rw[show A.in1.handled=none from h];refine Vp (Vz (wpAny_throw ?_));refine Vp (wpAny_isInstance (T := "StopIteration") (b:=true) ⟨_,VN _ rfl,rfl⟩ isSubtype_stop ?_);exact Vz (i _ (((Xo ..).extBut.push _).push _))
theorem BX(n:A.handled=none)(I d:Addr)(k:d≠I)(es:Array DictEntry)(ep:Nat):
 Walks prog w A I [I,d] [I] es.size (λi v=>∃e,es[i]?=some e/\v=e.key) (λi h=>h.IsKeyIter I d i es.size ep/\RawD h d es ep) where
 sub:=λb f=>by
  have e:b=I:=by simpa using f
  rw[e];exact Vu
 frame:=λ_ _ _ st m=>⟨st.1.at λo e=>m I (by simp) o e,let ⟨o,j,r⟩:=st.2;⟨o,m d (by simp) o j,r⟩⟩
 item:=λi s Q E hi st g=>nw st.1 st.2 hi λh' c a=>by
  obtain⟨o,j,r⟩:=st.2;exact g _ h' s.toks ⟨es[i],Wp hi,rfl⟩ ⟨c,o,a.extBut d o k j,r⟩ λb o f e=>a.extBut b o (λz=>f (by simp[z])) e
 done:=λs Q E st g=>sf n st.1 st.2 λh' l=>g h' s.toks λb o f e=>l b o (λz=>f (by simp[z])) e
 self:=λ_ _ _ _ st g=>wpAny_pyIter_keyiter st.1 g
theorem I0(lo:(d==sysModules)=false):PySem.W.KdlSrc prog w "dict" d d es.size (λi v=>∃e,es[i]?=some e/\v=e.key) (λh=>RawD h d es ep) where
 type:=λ_ x=>x.typeIs
 there:=λ_ x=>let ⟨_,a,_⟩:=x;⟨VB a,VB a⟩
 keep:=λ_ _ x c=>let ⟨o,a,r⟩:=x;⟨o,c d (.inl rfl) o a,r⟩
 notList:=by decide
 notTuple:=by decide
 hint:=λ_ _ _ _ x b=>PySem.W.kdl_hint_dict x.typeIs b
 iter:=λ_ _ f x=>⟨_,_,(λ_ _ b=>nv lo x b),BX f _ d (let ⟨_,a,_⟩:=x;VX (VB a)) es ep,⟨⟨_,VN _ rfl,rfl,rfl⟩,let ⟨o,a,r⟩:=x;⟨o,Vv _ a,r⟩⟩⟩
end
theorem lM{P:Program}{w:World}{x:List aP×Addr×Value}:(entryOfKey (tupleKind (aG P w)) x).key=.ref x.2.1:=rfl
theorem p7{X:Cx}(hc:X.calm=true):dR X (.type "list") (λxs H Q=>∃a kvs,xs=[.ref a]/\Rd H a (.dT kvs)/\
 ∀(K:List Addr) (l:Addr),K.length=kvs.length->(∀(i:Nat) k v b,kvs[i]?=some (k,v)->K[i]?=some b->H b=some (.tup (k.map kV)))->H l=none->Q (.ref l) (upd H l (.lst (K.map V.ref)))):=by
 intro G s Z H xs us Q I r h;obtain⟨a,kvs,rfl,ha,q⟩:=h;obtain⟨u,rfl,O⟩:=Vals.one r;have F:u=Value.ref a:=O;subst F;obtain⟨z,hd,g,A,o,M,ep,T,R,E,C,U⟩:=(show ObjOk X.prog X.w H s.heap a (.dT kvs) from ha.ok I.hok);have d:kvs.length=g.length:=WC A
 have j:M.size=g.length:=by
  have e:=congrArg List.length C
  rwa [Vs,V8]at e
 refine PySem.W.kdl_call (I0 hd) (I.ok.hd hc) ⟨o,T,R,E⟩ (by rw[j,<-d];exact z) λh' tk c c' kp hD f=>?_
 have keys:c.toList=(g.map λy=>y.2.1).map Value.ref:=by
  apply X5;intro i;rw[VR,VR];cases n:g[i]? with
  |none=>
    have hi:g.length<=i:=WW.mp n;rw[VP (by rw[V8,f.1];omega)];rfl
  |some y=>
    have hi:i<g.length:=(VM.mp n).1;have B:i<c.size:=by rw[f.1,j];exact hi
    obtain⟨e,Y,S⟩:=f.2 i c[i] (Wp B);have D:M.toList[i]?=some e:=by rw[WV];exact Y
    rw[C,VR,n]at D;have ee:entryOfKey (tupleKind (aG X.prog X.w)) y=e:=VO D;rw[WV,Wp B,S,<-ee,lM];rfl
 have N:∀l:List Addr,Vals (l.map V.ref) (l.map Value.ref):=λl=>by
  induction l with
  |nil=>exact .nil
  |cons x t L=>exact .cons rfl L
 refine⟨.ref s.heap.objs.size,_,I.laid kp (VE _) ?_,rfl,q (g.map λy=>y.2.1) _ (by rw[Vs];exact d.symm) (λi k v b e1 m=>?_) (I.hok.fresh (VE _))⟩
 ·refine⟨by rw[Vs,Vs,<-d];exact z,c.toList,c',by rw[keys];exact N _,?_⟩;rw[Array.toArray_toList];exact hD
 · rw[VR]at m;cases n:g[i]? with
   |none=>rw[n]at m;cases m
   |some y=>
     rw[n]at m;have eb:y.2.1=b:=VO m
     have P:∀{J:List (List aP×V)} {l2:List (List aP×Addr×Value)},Paired (λ(p:List aP×V) (q:List aP×Addr×Value)=>p.1=q.1/\H q.2.1=some (.tup (p.1.map kV))/\RelV p.2 q.2.2) J l2->
      ∀{i:Nat} {p q},J[i]?=some p->l2[i]?=some q->H q.2.1=some (.tup (p.1.map kV)):=by
      intro J l2 hp
      induction hp with
      |nil=>intro i p q e;cases e
      |cons h1 _ L=>
        intro i p q e1 m;cases i with
        |zero=>cases e1;cases m;exact h1.2.1
        |succ i=>exact L e1 m
     rw[<-eb];exact P A e1 n
end L2
namespace HT
open PySem PyProof.Rows
open PySem.SeqAt
open PySem.AutoSeq1 (wpAny_loadPart')
open PySem.MeetsSeq PySem.MeetsSeq2 PySem.MeetsSeq3 PySem.SeqRoads2
def LtAt(A:Around)(s:Shared)(y x:Value)(b:Bool):Prop:=
 ∀(prog:Program) (w:World) (E:P4) (Q:P4),Q (.bool b) s->wpAny (model prog w) A (richCompare .Lt y x) Q E s
def hE(p:Nat->Bool×Bool)(t:Bool):Nat->Nat->Bool
 |0,_=>t
 |k+1,i=>if (p i).1=true then hE p t k (i+1) else (p i).2
theorem yg(l b:Addr)(items items2:Array Value)(n n2:Nat)(dd dd2:Option Addr)(sl sl2:Array (Option Value))(p:Nat->Bool×Bool)(k:Nat):
 ∀i:Nat,min items.size items2.size-i=k->i<=min items.size items2.size->Meets (Builtin.«list.__eq__.loop» ⟨[.ref l,.ref b,rawInt i,rawInt 0],[]⟩)
  (λA R s=>s.heap.get? l=some {cls:=.type "list",dict:=dd,data:=.seq items n,slots:=sl}/\s.heap.get? b=some {cls:=.type "list",dict:=dd2,data:=.seq items2 n2,slots:=sl2}/\
    (∀j (h1:j<items.size) (h2:j<items2.size),EqAt A.in1 s items[j] items2[j] (p j).1/\((p j).1=false->LtAt A.in1 s items[j] items2[j] (p j).2))/\
    R (.ok (.ret (.bool (hE p (decide (items.size<items2.size)) k i)))) s):=by
 induction k with
 |zero=>
   intro i hk hi prog w A R s h;obtain⟨hp,g,d,tk,os⟩:=s;obtain⟨hl,hb,he,h⟩:=h
   wp_walk using wpAny_loadPart' hl,wpAny_loadPart' hb
   by_cases hlt:i<items.size
   · have hi1:items[((i:Nat):Int).toNat]?=some items[i]:=by simp[hlt]
     have hi2:items2[((i:Nat):Int).toNat]?=none:=by simp;omega
     rw[hi1,hi2]
     wp_walk using wpAny_loadPart' hl,wpAny_loadPart' hb
     exact h
   · have hi1:items[((i:Nat):Int).toNat]?=none:=by simp;omega
     rw[hi1]
     wp_walk using wpAny_loadPart' hl,wpAny_loadPart' hb
     exact h
 |succ k ih=>
   intro i hk hi prog w A R s h;obtain⟨hp,g,d,tk,os⟩:=s;obtain⟨hl,hb,he,h⟩:=h
   wp_walk using wpAny_loadPart' hl,wpAny_loadPart' hb
   have hlt:i<items.size:=by omega
   have hlt2:i<items2.size:=by omega
   have hi1:items[((i:Nat):Int).toNat]?=some items[i]:=by simp[hlt]
   have hi2:items2[((i:Nat):Int).toNat]?=some items2[i]:=by simp[hlt2]
   have hc:((i:Int)+1)=((i+1:Nat):Int):=by push_cast;rfl
   rw[hi1,hi2];obtain⟨e1,e2⟩:=he i hlt hlt2;refine Vp (e1 prog w _ _ ?_);cases hb':(p i).1 with
   |true=>
     rw[hE,hb',Vq rfl]at h
     wp_walk
     rw[hc]
     exact⟨W1 plain_eq_loop _,WY entry_eq_loop (by
      rw[Ww plain_eq_loop _]
      exact ih (i+1) (by omega) (by omega) prog w A R _ ⟨hl,hb,he,h⟩)⟩
   |false=>
     rw[hE,hb',on VD]at h
     wp_walk using wpAny_loadPart' hl,wpAny_loadPart' hb
     rw[hi1,hi2];have e3:=e2 hb' prog w
     wp_walk using e3
     exact h
theorem Cq(l b:Addr)(items items2:Array Value)(n n2:Nat)(dd dd2:Option Addr)(sl sl2:Array (Option Value))(p:Nat->Bool×Bool):
 Meets (Builtin.«list.__lt__» ⟨[.ref l,.ref b],[]⟩)
  (λA R s=>s.heap.get? l=some {cls:=.type "list",dict:=dd,data:=.seq items n,slots:=sl}/\s.heap.get? b=some {cls:=.type "list",dict:=dd2,data:=.seq items2 n2,slots:=sl2}/\
    (∀j (h1:j<items.size) (h2:j<items2.size),EqAt A.in1 s items[j] items2[j] (p j).1/\((p j).1=false->LtAt A.in1 s items[j] items2[j] (p j).2))/\
    R (.ok (.ret (.bool (hE p (decide (items.size<items2.size)) (min items.size items2.size) 0)))) s):=by
 intro prog w A R s h;obtain⟨hp,g,d,tk,os⟩:=s;obtain⟨hl,hb,he,h⟩:=h;have f3:=AutoSeq1.sub_list_list
 wp_walk using wpAny_loadPart' hl,wpAny_loadPart' hb
 exact⟨W1 plain_eq_loop _,WY entry_eq_loop (by
  rw[Ww plain_eq_loop _]
  exact yg l b items items2 n n2 dd dd2 sl sl2 p _ 0 rfl (WD _) prog w A R _ ⟨hl,hb,he,h⟩)⟩
theorem LtAt.int_int{A:Around}{s:Shared}(a:Int)(t:Tok)(c:Int)(u:Tok):LtAt A s (.int a t) (.int c u) (decide (a<c)):=λprog w E Q h=>Es A s a t c u prog w E Q h
theorem LtAt.lists{A:Around}{s:Shared}{l b:Addr}{c a:Array Value}{p:Nat->Bool×Bool}(u:s.heap.IsList l c)(y:s.heap.IsList b a)(t:A.units<cLine)
 (v:∀j (B:j<c.size) (z:j<a.size),EqAt A.in1 s c[j] a[j] (p j).1/\((p j).1=false->LtAt A.in1 s c[j] a[j] (p j).2)):
 LtAt A s (.ref l) (.ref b) (hE p (decide (c.size<a.size)) (min c.size a.size) 0):=λprog w E Q h=>by
 obtain⟨⟨cls,dd,data,q⟩,k,m,n,hd⟩:=id u;obtain⟨⟨o,i,data2,g⟩,d,f,r,e⟩:=id y;simp only at m hd f e;subst m hd f e
 exact richCompare_meets_room (op:= .Lt) ⟨_,k,rfl⟩ ⟨_,d,rfl⟩ PySem.F.slot_list_lt PySem.F.entry_list_lt (PySem.F.args_list_lt_2 _ _) (Cq l b c a n r dd i q g p)
  ⟨k,d,v,show Value.bool (hE p (decide (c.size<a.size)) (min c.size a.size) 0)≠Value.notImplemented/\Q (.bool (hE p (decide (c.size<a.size)) (min c.size a.size) 0)) s from⟨(λx=>nomatch x),h⟩⟩ t
theorem qT:∀(ns T:List Int) (i:Nat) (f:Nat->Bool×Bool) (t:Bool),(∀j,j<min ns.length T.length->f (i+j)=(decide (ns.getD j 0=T.getD j 0),decide (ns.getD j 0<T.getD j 0)))->t=decide (ns.length<T.length)->
 hE f t (min ns.length T.length) i=kF ns T
 |[],[],i,f,t,h,e=>by rw[e];rfl
 | [],m::T,i,f,t,h,e=>by
   rw[e];show decide (0<(m::T).length)=true;simp
 | n::ns,[],i,f,t,h,e=>by
   rw[e];show decide ((n::ns).length<0)=false;simp
 | n::ns,m::T,i,f,t,h,e=>by
   have e1:min (n::ns).length (m::T).length=min ns.length T.length+1:=by
    rw[Vx,Vx];omega
   rw[e1,hE,nZ];have h0:=h 0 (by rw[e1];omega);rw[Nat.add_zero]at h0;have a:f i=(decide (n=m),decide (n<m)):=h0;rw[a];by_cases q:n=m
   · rw[Vq (by simpa using q),Vq q]
     exact qT ns T (i+1) f t (λj b=>by
      have:=h (j+1) (by rw[e1];omega)
      rw[show i+1+j=i+(j+1) by omega,this]
      rfl) (by rw[e];simp)
   ·rw[on (by simpa using q),on q]
def An(a b:Int)(xs:List Int)(c d:Int)(e:List Int):Bool:=if a=c then (if b=d then kF xs e else decide (b<d)) else decide (a<c)
theorem wS(l b:Addr)(items items2:Array Value)(n n2:Nat)(dd dd2:Option Addr)(sl sl2:Array (Option Value))(p:Nat->Bool×Bool):
 Meets (Builtin.«tuple.__lt__» ⟨[.ref l,.ref b],[]⟩)
  (λA R s=>s.heap.get? l=some {cls:=.type "tuple",dict:=dd,data:=.seq items n,slots:=sl}/\s.heap.get? b=some {cls:=.type "tuple",dict:=dd2,data:=.seq items2 n2,slots:=sl2}/\
    (∀j (h1:j<items.size) (h2:j<items2.size),EqAt A.in1 s items[j] items2[j] (p j).1/\((p j).1=false->LtAt A.in1 s items[j] items2[j] (p j).2))/\
    R (.ok (.ret (.bool (hE p (decide (items.size<items2.size)) (min items.size items2.size) 0)))) s):=
 .of_wp λprog w A R s h=>by
  obtain⟨hp,g,d,tk,os⟩:=s;obtain⟨hl,hb,he,h⟩:=h;have f2:=AutoSeq1.sub_tuple_tuple;have zl:(items.toList.zip items2.toList).length=min items.size items2.size:=by rw[List.length_zip,V8,V8]
  wp_walk using wpAny_loadPart' hl,wpAny_loadPart' hb,wpAny_forIn_list _ (λbJ b s'=>b.1=none/\s'=⟨hp,g,d,tk,os⟩/\∃i,i<=min items.size items2.size/\bJ=(items.toList.zip items2.toList).drop i/\
   R (.ok (.ret (.bool (hE p (decide (items.size<items2.size)) (min items.size items2.size-i) i)))) ⟨hp,g,d,tk,os⟩) _
  case turn=>
   rintro⟨y,x⟩ bJ b s' ⟨hb',rfl,i,hi,hz,hR⟩
   have hlt:i<min items.size items2.size:=by
    rcases Nat.lt_or_ge i (min items.size items2.size) with q|q
    ·exact q
    ·rw[Yq (by rw[zl];exact q)]at hz;cases hz
   have h1:i<items.size:=by omega
   have h2:i<items2.size:=by omega
   rw[Xm (by rw[zl];exact hlt)]at hz;injection hz with hyx hrest
   rw[List.getElem_zip,YJ,YJ]at hyx;injection hyx with hy hx
   subst hy hx;obtain⟨e1,e2⟩:=he i h1 h2;rw[show min items.size items2.size-i=(min items.size items2.size-(i+1))+1 by omega,hE]at hR;refine Vp (e1 prog w _ _ ?_);cases eb:(p i).1 with
   |true=>
     rw[eb,Vq rfl]at hR
     wp_walk
     exact⟨rfl,rfl,i+1,by omega,hrest,hR⟩
   |false=>
     rw[eb,on VD]at hR;have e3:=e2 eb prog w
     wp_walk using e3
     exact⟨_,rfl,by simpa using hR⟩
  case fin=>
   rintro⟨b1,b2⟩ s' ⟨hb',rfl,i,hi,hz,hR⟩;simp only at hb';subst hb'
   have hge:min items.size items2.size<=i:=by
    rcases Nat.lt_or_ge i (min items.size items2.size) with q|q
    ·rw[Xm (by rw[zl];exact q)]at hz;cases hz
    ·exact q
   rw[show min items.size items2.size-i=0 by omega,hE]at hR
   wp_walk
   exact⟨_,rfl,by simpa [Builtin.Tuple.tupleCompareSizes] using hR⟩
  case h=>
   exact⟨rfl,rfl,0,WD _,rfl,h⟩
theorem LtAt.tuples{A:Around}{s:Shared}{l b:Addr}{c a:Array Value}{p:Nat->Bool×Bool}(u:s.heap.IsTuple l c)(y:s.heap.IsTuple b a)(t:A.units<cLine)
 (v:∀j (B:j<c.size) (z:j<a.size),EqAt A.in1 s c[j] a[j] (p j).1/\((p j).1=false->LtAt A.in1 s c[j] a[j] (p j).2)):
 LtAt A s (.ref l) (.ref b) (hE p (decide (c.size<a.size)) (min c.size a.size) 0):=λprog w E Q h=>by
 obtain⟨⟨cls,dd,data,q⟩,k,m,n,hd⟩:=id u;obtain⟨⟨o,i,data2,g⟩,d,f,r,e⟩:=id y;simp only at m hd f e;subst m hd f e
 exact richCompare_meets_room (op:= .Lt) ⟨_,k,rfl⟩ ⟨_,d,rfl⟩ PySem.F.slot_tuple_lt PySem.F.entry_tuple_lt (PySem.F.args_tuple_lt_2 _ _) (wS l b c a n r dd i q g p)
  ⟨k,d,v,show Value.bool (hE p (decide (c.size<a.size)) (min c.size a.size) 0)≠Value.notImplemented/\Q (.bool (hE p (decide (c.size<a.size)) (min c.size a.size) 0)) s from⟨(λx=>nomatch x),h⟩⟩ t
end HT
namespace L2
open PySem PySem.Spec PyProof.Rows
theorem nY:∀xs:List Int,HT.kF xs xs=false
 |[]=>rfl
 |x::xs=>by rw[HT.nZ,Vq rfl,nY xs]
section
variable{X:Cx}{G:P1}{Z:St}{H:Hp}{s:Shared}
theorem Cz{A:Around}{a b:Addr}{ns T:List Int}(I:Inv X G Z H s)(k:SqL X.K H a (ns.map V.int))(h:SqL X.K H b (T.map V.int))(r:A.units+64<cLine):
 SeqAt.EqAt A s (.ref a) (.ref b) (decide (ns=T))/\HT.LtAt A s (.ref a) (.ref b) (HT.kF ns T):=by
 constructor
 ·obtain⟨w,o⟩:=den_reads I _ (vE k) (show RelV (.ref a) (.ref a) from rfl);obtain⟨bs,n⟩:=den_reads I _ (vE h) (show RelV (.ref b) (.ref b) from rfl);rw[<-GF];exact SeqAt.eqAt_reads _ _ A s _ _ w bs o n (Xb (XM ns)) (Xb (XM T)) (SeqAt.room_of_shaped (XM ns) r)
 · obtain⟨its,g,pl,_⟩:=I.list k;obtain⟨c,d,f,_⟩:=I.list h;have q:its.toArray.size=ns.length:=by rw[VF,<-g.length,Vs]
   have l2:c.toArray.size=T.length:=by rw[VF,<-d.length,Vs]
   have e:=HT.LtAt.lists (A:=A) (p:=λj=>(decide (ns.getD j 0=T.getD j 0),decide (ns.getD j 0<T.getD j 0))) pl.isList f.isList (by omega) (λj m l=>?_)
   ·rw[q,l2,HT.qT ns T 0 _ _ (λj _=>by rw[Nat.zero_add]) rfl]at e;exact e
   · obtain⟨t,e1⟩:=eZ g (i:=j) (u:=its.toArray[j]) (by simp at m;simp[m]);obtain⟨u,v⟩:=eZ d (i:=j) (u:=c.toArray[j]) (by simp at l;simp[l]);rw[e1,v];refine⟨?_,λ_=>HT.LtAt.int_int _ _ _ _⟩
     have:=SeqAt.EqAt.int_int (A:=A.in1) (s:=s) (ns.getD j 0) t (T.getD j 0) u
     rwa [show(ns.getD j 0==T.getD j 0)=decide (ns.getD j 0=T.getD j 0) from XD _ _]at this
theorem OS{A:Around}{p q:Addr}{a b c d:Int}{l m:Addr}{xs g:List Int}(R:A.units+100<cLine)(I:Inv X G Z H s)(hp:SqT X.K H p [.int a,.int b,.ref l])(O:SqT X.K H q [.int c,.int d,.ref m])(Q:SqL X.K H l (xs.map V.int))(P:SqL X.K H m (g.map V.int)):
 HT.LtAt A s (.ref p) (.ref q) (HT.An a b xs c d g):=by
 obtain⟨its,h,E,_⟩:=I.tuple hp;obtain⟨z,f,D,_⟩:=I.tuple O;cases h with|cons M h=>cases h with|cons L h=>cases h with|cons J h=>
 cases h;cases f with|cons rc f=>cases f with|cons rd f=>cases f with|cons F f=>
 cases f;obtain⟨y,rfl⟩:=M;obtain⟨tb,rfl⟩:=L;obtain⟨x,rfl⟩:=rc;obtain⟨w,rfl⟩:=rd;obtain rfl:_=Value.ref l:=J;obtain rfl:_=Value.ref m:=F;have r:A.in1.units+64<cLine:=by show A.units+1+64<cLine;omega
 obtain⟨el,N⟩:=Cz (A:=A.in1) I Q P r
 have C:∀(i j:Int) (t u:Tok),SeqAt.EqAt A.in1 s (.int i t) (.int j u) (decide (i=j)):=λi j t u=>by
  have:=SeqAt.EqAt.int_int (A:=A.in1) (s:=s) i t j u
  rwa [show(i==j)=decide (i=j) from XD _ _]at this
 have o:=HT.LtAt.tuples (A:=A) (s:=s) (p:=λj=>if j=0 then (decide (a=c),decide (a<c)) else if j=1 then (decide (b=d),decide (b<d)) else (decide (xs=g),HT.kF xs g)) E D (by omega) (λj k n=>by
  have v:j<3:=k
  match j,v with
  |0,_=>exact⟨C a c y x,λ_=>HT.LtAt.int_int a y c x⟩
  |1,_=>exact⟨C b d tb w,λ_=>HT.LtAt.int_int b tb d w⟩
  |2,_=>exact⟨el,λ_=>N⟩)
 have e:HT.hE (λj=>if j=0 then (decide (a=c),decide (a<c)) else if j=1 then (decide (b=d),decide (b<d)) else (decide (xs=g),HT.kF xs g)) (decide (3<3)) 3 0=HT.An a b xs c d g:=by
  simp only[HT.hE,HT.An];by_cases k:a=c
  · by_cases n:b=d
    · by_cases B:xs=g
      ·subst B;simp[k,n,nY]
      ·simp[k,n,B]
    ·simp[k,n]
  ·simp[k]
 exact e▸o
end
end L2
namespace Gd
open PySem L2
theorem gC:bootBuiltins "len" = some (.builtin "len"):=by decide +kernel
theorem lU:bootBuiltins "min" = some (.builtin "min"):=by decide +kernel
theorem p9:bootBuiltins "max" = some (.builtin "max"):=by decide +kernel
theorem jC:bootBuiltins "isinstance" = some (.builtin "isinstance"):=by decide +kernel
theorem P8:bootBuiltins "set" = some (.type "set"):=by decide +kernel
theorem iq:bootBuiltins "list" = some (.type "list"):=by decide +kernel
theorem p8:bootBuiltins "tuple" = some (.type "tuple"):=by decide +kernel
theorem JX:bootBuiltins "bool" = some (.type "bool"):=by decide +kernel
theorem P9:bootBuiltins "int" = some (.type "int"):=by decide +kernel
theorem uA{H H':Hp}{q:Addr}{o:HO}(h:H q=none)(e:Same H H'):Same H (upd H' q o):=λb u z=>by
 rw[aE (br z h)];exact e b u z
theorem cP{H:Hp}{q:Addr}{o:HO}(h:H q=none):Same H (upd H q o):=uA h (Same.refl H)
def kG(e:PySem.Expr):Scope:=match e with
 |.ListComp _ _ sc _=>sc
 |_=>{kind:=.function,names:=[],isGenerator:=false,isCoroutine:=false,more:=[]}
def uv(s:Stmt):PySem.Expr:=match s with
 |.Assign _ v _=>v
 |.Return (some v) _=>v
 |.Expr v _=>v
 |.For _ a _ _ _=>a
 |.If t _ _ _=>t
 |_=> .Constant .none 0 ⟨0,0,0,0⟩
def nth(l:List Stmt)(i:Nat):Stmt:=l.getD i (.Pass ⟨0,0,0,0⟩)
abbrev AL:=List (List Int×Int)
abbrev kI(k:List Int):List aP:=k.map Sum.inl
def bB(D:AL):List (List aP×V):=D.map λp=>(kI p.1,V.int p.2)
def look(D:AL)(k:List Int):Option Int:=(D.find? λp=>decide (p.1=k)).map (·.2)
end Gd
namespace HR
open PySem MeetsSeq
theorem r9(l:Addr)(items:Array Value)(n:Nat)(x:Value)(e:Nat->Bool)(j:Nat)(hj:j<items.size)(hit:e j=true)(hs1:items.size<=sizeLine)(k:Nat):
 ∀i:Nat,j-i=k->i<=j->(∀m,i<=m->m<j->e m=false)->Meets (Builtin.«list.remove.loop» ⟨[.ref l,x,rawInt i],[]⟩)
  (λA R s=>s.heap.get? l=some {cls:=.type "list",dict:=none,data:=.seq items n,slots:=#[]}/\(∀m (h:m<items.size),m<=j->SeqAt.EqAt A.in1 s items[m] x (e m))/\
    R (.ok (.ret .none)) {s with heap:=s.heap.update l (Obj.mapSeq λxs=>xs.eraseIdxIfInBounds j)}):=by
 induction k with
 |zero=>
   intro i hk hij hno prog w A R s h;obtain⟨hp,g,d,tk,os⟩:=s;obtain⟨hl,he,h⟩:=h;have hij':i=j:=by omega
   subst hij'
   wp_walk using wpAny_loadPart' hl
   have hi:items[((i:Nat):Int).toNat]?=some items[i]:=by simp[hj]
   rw[hi];refine Vp (he i hj (VE _) prog w _ _ ?_);rw[hit];have hz':(items.eraseIdxIfInBounds i).size<=sizeLine+1:=VW (size_erased items _) (X6 hs1)
   wp_walk using(wpAny_updateSeq hl rfl (hz:=hs1) (_hz':=hz')),wpAny_loadPart' hl
   simpa using h
 |succ k ih=>
   intro i hk hij hno prog w A R s h;obtain⟨hp,g,d,tk,os⟩:=s;obtain⟨hl,he,h⟩:=h;have hlt:i<items.size:=by omega
   wp_walk using wpAny_loadPart' hl
   have hi:items[((i:Nat):Int).toNat]?=some items[i]:=by simp[hlt]
   have hc:((i:Int)+1)=((i+1:Nat):Int):=by push_cast;rfl
   rw[hi];refine Vp (he i hlt hij prog w _ _ ?_);rw[hno i (VE _) (by omega)]
   wp_walk
   rw[hc]
   exact⟨W1 plain_remove_loop _,WY entry_remove_loop (by
    rw[Ww plain_remove_loop _]
    exact ih (i+1) (by omega) (by omega) (λm h1 h2=>hno m (by omega) h2) prog w A R _ ⟨hl,he,h⟩)⟩
theorem sL(l:Addr)(items:Array Value)(n:Nat)(x:Value)(e:Nat->Bool)(j:Nat)(hj:j<items.size)
 (hit:e j=true) (hno:∀m,m<j->e m=false) (hs1:items.size<=sizeLine):
 Meets (Builtin.«list.remove» ⟨[.ref l,x],[]⟩)
  (λA R s=>s.heap.get? l=some {cls:=.type "list",dict:=none,data:=.seq items n,slots:=#[]}/\(∀m (h:m<items.size),m<=j->SeqAt.EqAt A.in1 s items[m] x (e m))/\
    R (.ok (.ret .none)) {s with heap:=s.heap.update l (Obj.mapSeq λxs=>xs.eraseIdxIfInBounds j)}):=by
 intro prog w A R s h;obtain⟨hp,g,d,tk,os⟩:=s;obtain⟨hl,he,h⟩:=h
 wp_walk using wpAny_loadPart' hl
 exact⟨W1 plain_remove_loop _,WY entry_remove_loop (by
  rw[Ww plain_remove_loop _]
  exact r9 l items n x e j hj hit hs1 _ 0 rfl (WD _) (λm _ h2=>hno m h2) prog w A R _ ⟨hl,he,h⟩)⟩
end HR
namespace L2
open PySem PySem.Spec PyProof.Rows
theorem mB{W X:Type}[DecidableEq W]{k:W}:∀{xs:List (W×X)},k∉xs.map (·.1)->(xs.filter λx=>decide (x.1≠k))=xs
 |[],_=>rfl
 | x::r,h=>by
   rw[Vr,VA,not_or]at h;rw[Wv,Vq (by simpa using W6 h.1),mB h.2]
theorem ia{W X:Type}[DecidableEq W]{k:W}:∀{xs:List (W×X)} {j:Nat} {p:X},(xs.map (·.1)).Nodup->xs[j]?=some (k,p)->xs.eraseIdx j=xs.filter λx=>decide (x.1≠k)
 |[],j,p,_,h=>by simp at h
 | x::r,0,p,a,h=>by
   simp at h;subst h;rw[Vr,VQ]at a;rw[Wv,on (by simp),mB a.1];rfl
 | x::r,j+1,p,a,h=>by
   rw[Vr,VQ]at a;have h':r[j]?=some (k,p):=by simpa using h
   have:x.1≠k:=λz=>a.1 (by rw[z];exact VY.mpr ⟨(k,p),Wu h',rfl⟩)
   rw[Wv,Vq (by simpa using this),We,ia a.2 h']
theorem lJ{W X:Type}{f:W->X}:∀{l:List W} {j:Nat},(l.map f).eraseIdx j=(l.eraseIdx j).map f
 |[],_=>rfl
 |_::_,0=>rfl
 |x::r,j+1=>by rw[Vr,We,We,Vr,lJ]
theorem KT.drop{H:Hp}{kvs:List (List aP×V)}{xs:List (List aP×Addr×Value)}(r:KT H kvs xs)(k:List aP):KT H (fo kvs k) (xs.filter λx=>decide (x.1≠k)):=by
 induction r with
 |nil=>exact .nil
 |@cons p q ps b h t a=>
   unfold fo at a ⊢;rw[List.filter_cons,List.filter_cons];by_cases e:p.1=k
   ·rw[on (by simp[e]),on (by simp[h.1.symm.trans e])];exact a
   ·rw[Vq (by simpa using e),Vq (by simpa using λz=>e (h.1.trans z))];exact .cons h a
section
variable{X:Cx}{G:P1}{Z:St}{H:Hp}{s:Shared}{a b:Addr}{kvs:List (List aP×V)}{k:List aP}{v:V}{A:Around}{E:P4}
theorem Pd{Q:P4}(P:A.units+1<cLine)(I:Inv X G Z H s)(e:H a=some (.dT kvs))(U:H b=some (.tup (k.map kV)))(l:cY kvs k=some v)
 (h:∀r M,Inv X G Z (upd H a (.dT (fo kvs k))) M->RelV v r->Q r M):wpAny (model X.prog X.w) A (call (.builtin "dict.pop") [.ref a,.ref b]) Q E s:=by
 obtain⟨z,hd,xs,i,dd⟩:=GN I.hok e;have hz:xs.length<=sizeLine:=by rw[<-WC i];exact z
 have g:=fZ I.hok U;have f:=tupleKind_room_in1 (knd:=aG X.prog X.w) P;have N:=dd.typeIs;obtain⟨o,m,ep,n,T,d,x,K,u⟩:=dd;obtain⟨r,t,y⟩:=RelO.some_of (v:=v) (o:=(atKey xs k).map (·.2)) (by rw[<-l];exact i.val k);have S:m.size=xs.length:=size_of_entries x;refine wpAny_call_entry PySem.F.slot_dict_pop N PySem.F.entry_dict_pop ?_ (PySem.F.args_dict_pop_2 _ _);unfold Builtin.«dict.pop»;refine wpAny_bind ?_;unfold Builtin.Dict.keyAndDefault;refine wpAny_bind (wpAny_notOrdered_dict N ?_);show wpAny _ _ (pure (a,Value.ref b,none)) _ _ s;refine wpAny_pure ?_;dsimp only;rw[if_neg (by simp[keyPart])];refine wpAny_bind (wpAny_dictEntries n d ?_);refine wpAny_bind (wpAny_pure ?_)
 have D:m.isEmpty=false:=by
  cases q:m.isEmpty with
  |false=>rfl
  |true=>
    have:xs=[]:=by
     have e1:m.size=0:=by simpa using q
     exact V2.mp (by omega)
    subst this;cases t
 rw[D,if_neg Bool.false_ne_true];refine wpAny_bind ?_;unfold Builtin.Dict.takeOut
 try with_reducible refine WQ ?_
 refine Vp ((tupleKind (aG X.prog X.w)).pyHash f g ?_);refine Vp (wpAny_dictFind_heap (knd:=tupleKind (aG X.prog X.w)) (s:={s with toks:=s.toks+(tupleKind (aG X.prog X.w)).draws k}) f g n d x K u ?_ ?_)
 ·intro C;rw[atKey_none_of_get C]at t;cases t
 · intro j p J;have hp:atKey xs k=some p:=atKey_of_get u J;rw[hp]at t;have B:p.2=r:=VO t;refine Vp (WZ (s:={s with toks:=s.toks+(tupleKind (aG X.prog X.w)).draws k}) n d ?_);rw[entry_at x j,J];refine Vp (wpAny_updateDictKeys (hz:=by omega) (s:={s with toks:=s.toks+(tupleKind (aG X.prog X.w)).draws k}) n d (Vz ?_));rw[on (by simp)];refine Vp (Xv (Vz ⟨_,rfl,?_⟩));show Q p.2 _;rw[B];refine h r _ ?_ y;have R:=Xo s.heap a (Obj.mapDictKeys λm=>m.eraseIdxIfInBounds j);refine kT (s:=s) (t':=s.toks+(tupleKind (aG X.prog X.w)).draws k) I (by rw[e];exact True.intro) R ⟨_,V6 _ n (WM (Wg d _))⟩ ⟨VW (oJ kvs k) z,hd,_,(i.drop k).keeps λc V O=>?_,_,_,ep+1,V6 _ n (WM (Wg d _)),T.mapDictKeys _,Wg d _,?_,?_⟩
   ·rw[aE (Fg O e (λz=>nomatch z))];exact O
   ·rw[<-ia u J];obtain⟨el⟩:=m;have L:el=xs.map (entryOfKey (tupleKind (aG X.prog X.w))):=x;rw[Wz];show el.eraseIdx j=_;rw[L];exact lJ
   ·exact(u.sublist ((List.filter_sublist).map _))
end
theorem vD{K:F0}{H:Hp}:∀{ds:List PyData} {xs:List V} {m:Nat} {x:V},Dens K H ds xs->xs[m]?=some x->∃d,ds[m]?=some d/\Den K H d x
 | [],xs,m,x,h,e=>by
   rw[Dens]at h;subst h;cases e
 | d::ds,xs,m,x,h,e=>by
   rw[Dens]at h;obtain⟨y,r,rfl,b,a⟩:=h;cases m with
   |zero=>
     cases e;exact⟨d,rfl,b⟩
   |succ m=>exact vD (m:=m) a e
theorem vB{K:F0}{H:Hp}:∀{ds:List PyData} {xs:List V},Dens K H ds xs->ds.length=xs.length
 |[],xs,h=>by rw[Dens]at h;subst h;rfl
 | d::ds,xs,h=>by
   rw[Dens]at h;obtain⟨y,r,rfl,b,a⟩:=h;rw[Vx,Vx,vB a]
def zQ(K:F0):V->List V->Hp->VK->Prop:=λx vs H Q=>∃l xs y d ds j,x=.ref l/\vs=[y]/\H l=some (.lst xs)/\Den K H d y/\Dens K H ds xs/\SeqAt.shaped d=true/\(∀z∈ds,SeqAt.shaped z=true)/\j<ds.length/\
 (∀m e,ds[m]?=some e->m<=j->PyData.eqv e d=decide (m=j))/\Q .non (upd H l (.lst (xs.eraseIdx j)))
theorem Ce{X:Cx}(S:X.A.units+66<cLine):Vk X "list.remove" (zQ X.K):=by
 intro G s Z H x vs v us Q I C D h;obtain⟨l,xs,y,d,ds,j,rfl,rfl,p,hd,b,B,a,U,k,q⟩:=h;cases C;obtain⟨u,rfl,E⟩:=D.one;obtain⟨z,its,n,r,T,e⟩:=I.lstM p;have R:=vB b
 refine Yo X9 ⟨_,e,rfl⟩ PySem.F.entry_list_remove (PySem.F.args_list_remove_2 _ _)
  (HR.sL l its.toArray n u (λm=>decide (m=j)) j (by rw[VF];omega) (by simp) (λm i=>by simpa using VX i) (by rw[VF];omega)) ⟨e,λm i f=>?_,?_⟩
 · have g:m<its.length:=by simpa using i
   have o:xs[m]?=some xs[m]:=VI (by omega);obtain⟨c,e1,O⟩:=vD b o;obtain⟨w,t,J⟩:=r.get o
   have N:its.toArray[m]=w:=by
    rw[VI g]at t;simpa using t
   rw[N,<-k m c e1 f];obtain⟨P,M⟩:=den_reads I c O J;obtain⟨bs,L⟩:=den_reads I d hd E;exact SeqAt.eqAt_reads _ _ X.A.in1 s _ _ P bs M L (Xb (a c (Wu e1))) (Xb B) (SeqAt.room_of_shaped (a c (Wu e1)) (by show X.A.units+1+64<cLine;omega))
 · refine⟨.non,_,I.lset (its':=its.eraseIdx j) p e ?_ (r.eraseIdx j) ?_,rfl,q⟩
   ·show its.toArray.eraseIdxIfInBounds j=(its.eraseIdx j).toArray;rw[Wz]
   · have:=lK xs j
     omega
def Dh(d ty:TE):TE:=λZ H Q=>d Z H λx H1=>∃a,x=.ref a/\LV H1 a/\ty Z H1 λy c=>∃kvs k b v,c a=some (.dT kvs)/\y=.ref b/\c b=some (.tup (k.map kV))/\cY kvs k=some v/\Q v (upd c a (.dT (fo kvs k)))
theorem nB{X:Cx}{o e:Expr}{f c:Pos}{i ty:TE}(C:X.A.units+1<cLine)(D:PE X o i)(E:PE X e ty)(m:M1 X o "pop" f e c):PE X (.Call (.Attribute o "pop" f) [e] [] c) (Dh i ty):=by
 intro G s Z H Q I h;refine Xg m.base m.few m.line V1 WU XC (bI (D G s Z H _ I h) λu q ⟨x,H1,j,t,a,ex,d,z⟩=>?_);subst ex;obtain rfl:u=Value.ref a:=t;obtain⟨p,n,_⟩:=lO j d;refine⟨p,n,?_⟩;rw[m.trees];refine Wo rfl (WF (Wh (bI (E G q Z H1 _ j z) λB s2 ⟨y,P,M,r,kvs,k,b,v,K,F,J,l,w⟩=>WI ?_)));subst F;obtain rfl:B=Value.ref b:=r;exact Pd C M K J l λN O L g=>⟨v,_,L,g,w⟩
theorem nh:∀{bs:List Bool} {us:List Value} {i:Nat} {u:Value},Vals (bs.map V.bl) us->us[i]?=some u->u=.bool (bs.getD i false)
 | [],us,i,u,r,e=>by
   cases r;cases e
 | b::bs,us,i,u,r,e=>by
   rw[Vr]at r;cases r with
   |cons c a=>
     cases i with
     |zero=>
       cases e;exact c
     |succ i=>
       show u=.bool (bs.getD i false);exact nh (bs:=bs) (i:=i) a (by simpa using e)
theorem ny(bs:List Bool):((List.range bs.length).any λi=>bs.getD i false)=bs.any id:=by
 induction bs with
 |nil=>rfl
 |cons b bs a=>
   rw[Vx,List.range_succ_eq_map,Xd,List.any_map,Xd,<-a];rfl
theorem CU{X:Cx}(w:X.calm=true):dR X (.builtin "any") (λxs H Q=>∃p,∃bs:List Bool,xs=[.ref p]/\SqL X.K H p (bs.map V.bl)/\Q (.bl (bs.any id)) H):=by
 intro G s Z H xs us Q I r h;obtain⟨p,bs,rfl,t,q⟩:=h;obtain⟨u,rfl,l⟩:=Vals.one r;have c:u=Value.ref p:=l;subst c;obtain⟨its,j,pl,hz⟩:=I.list t;have n:bs.length=its.length:=by rw[<-j.length,Vs]
 obtain⟨m,a,g,f⟩:=id pl.isList;have d:p<s.heap.objs.size:=VB a;refine call_any_walk (Xy pl.isList ⟨s.heap.objs.size,_,_,_,_,_,λi=>bs.getD i false,rfl,Walks.list (A:=X.A.in1) (I.ok.hd w) _ p (VX d) its.toArray,⟨⟨_,VN _ rfl,rfl,rfl⟩,⟨m,Vv _ a,g,f⟩⟩,λi v C D E y x=>?_,λh' B kp=>?_⟩)
 ·have e:=nh j (i:=i) (u:=v) (by simpa using y);rw[e];exact WH x
 · have e:((List.range its.toArray.size).any λi=>bs.getD i false)=bs.any id:=by
    rw[VF,<-n];exact ny bs
   rw[e];refine⟨.bl _,H,I.kept λb o q=>kp b o (λz=>?_) (Vv _ q),rfl,q⟩;have k:b=s.heap.objs.size:=by simpa using z
   exact absurd (VB q) (by rw[k];exact Wm _)
def Qp(K:F0)(H:Hp)(v:V)(k:Int×Int×List Int):Prop:=∃p l,v=.ref p/\SqT K H p [.int k.1,.int k.2.1,.ref l]/\SqL K H l (k.2.2.map V.int)
def fj(a b:Int×Int×List Int):Bool:=HT.An a.1 a.2.1 a.2.2 b.1 b.2.1 b.2.2
theorem mT:∀{vs:List V} {us:List Value} {i:Nat} {u:Value},Vals vs us->us[i]?=some u->∃v,vs[i]?=some v/\RelV v u
 |[],us,i,u,r,e=>by cases r;cases e
 | v::vs,us,i,u,r,e=>by
   cases r with
   |cons b a=>
     cases i with
     |zero=>cases e;exact⟨v,rfl,b⟩
     |succ i=>exact mT (i:=i) a (by simpa using e)
theorem j6(a:Nat->Nat->Bool):∀k,argBest a k<=k
 |0=>VE _
 | k+1=>by
   unfold argBest;split
   ·exact VE _
   ·exact X6 (j6 a k)
theorem yV{X:Cx}(hc:X.calm=true)(hu:X.A.units+101<cLine):ji X (.builtin "min") ["default"] (λxs E H Q=>∃p vs d,∃c:List (Int×Int×List Int),xs=[.ref p]/\E=[d]/\SqL X.K H p vs/\vs.length=c.length/\(∀i v,vs[i]?=some v->Qp X.K H v (c.getD i (0,0,[])))/\
 (vs=[]->Q d H)/\∀v,vs[argBest (λi j=>fj (c.getD i (0,0,[])) (c.getD j (0,0,[]))) (vs.length-1)]?=some v->Q v H):=by
 intro G s Z H xs E us ws Q I r S h;obtain⟨p,vs,d,c,rfl,rfl,hq,N,O,W,V⟩:=h;obtain⟨u,rfl,T⟩:=Vals.one r;have t:u=Value.ref p:=T;subst t;obtain⟨dv,rfl,rd⟩:=Vals.one S;obtain⟨its,l,pl,hz⟩:=I.list hq;have M:vs.length=its.length:=l.length;obtain⟨ol,g,D,C⟩:=id pl.isList;have k:p<s.heap.objs.size:=VB g;refine wC false (Xy pl.isList ⟨s.heap.objs.size,_,_,_,_,_,λi j=>fj (c.getD i (0,0,[])) (c.getD j (0,0,[])),λn=>∃h' f,n={s with heap:=h',toks:=f}/\∀b o,s.heap.get? b=some o->h'.get? b=some o,rfl,Walks.list (A:=X.A.in1) (I.ok.hd hc) _ p (VX k) its.toArray,⟨⟨_,VN _ rfl,rfl,rfl⟩,⟨ol,Vv _ g,D,C⟩⟩,λb hb=>?_,?_,?_,?_,λe h' f kp=>?_,λe v h' f pv kp=>?_⟩)
 · rw[Xh];rcases VA.mp hb with z|z
   ·rw[z];exact Xi _
   · have a:b=p:=by simpa using z
     rw[a];exact X3 k
 ·exact⟨_,_,rfl,λb o e=>Vv _ e⟩
 · rintro n h' f ⟨P,L,rfl,y⟩ kp;refine⟨h',f,rfl,λb o e=>kp b o (λz=>?_) (λz=>?_) (y b o e)⟩
   · have a:b=s.heap.objs.size:=by simpa using z
     exact absurd (VB e) (by rw[a];exact Wm _)
   · have a:b=s.heap.objs.size+1:=by rw[z,Xh]
     exact absurd (VB e) (by rw[a];exact Nat.not_lt.mpr (Nat.le_succ _))
 ·rintro i j J F n Q' E' ⟨P,L,rfl,y⟩ pi Y B;have I1:Inv X G Z H {s with heap:=P,toks:=L}:=I.kept y;obtain⟨m,e1,x⟩:=mT l (i:=i) (u:=J) (by simpa using pi);obtain⟨R,e2,U⟩:=mT l (i:=j) (u:=F) (by simpa using Y);obtain⟨p1,l1,rfl,a1,b1⟩:=O i m e1;obtain⟨p2,l2,rfl,a2,b2⟩:=O j R e2;obtain rfl:J=Value.ref p1:=x;obtain rfl:F=Value.ref p2:=U;exact OS (A:=X.A.in1) (by show X.A.units+1+100<cLine;omega) I1 a1 a2 b1 b2 X.prog X.w E' Q' B
 · have en:vs=[]:=V2.mp (by rw[M];simpa using e);refine⟨d,H,I.kept λb o q=>kp b o (λz=>?_) (Vv _ q),rd,W en⟩;have a:b=s.heap.objs.size:=by simpa using z
   exact absurd (VB q) (by rw[a];exact Wm _)
 · rw[show its.toArray.size-1=vs.length-1 by rw[VF,M],Yz]at pv;obtain⟨m,e1,x⟩:=mT l pv;refine⟨m,H,I.kept λb o q=>kp b o (λz=>?_) (Vv _ q),x,V _ e1⟩;have a:b=s.heap.objs.size:=by simpa using z
   exact absurd (VB q) (by rw[a];exact Wm _)
end L2
namespace Mi
open PySem L2
inductive D where
 |non|bl (b:Bool)|int (i:Int)|str (x:Str)|ty (n:String)
 |lst (xs:List D)|tup (xs:List D)|scr (xs:List D)
 |dK (ks:List aP) (vs:List D)|dT (ks:List (List aP)) (vs:List D)
 |obj (c:Nat) (ns:List Str) (vs:List D)
abbrev Tp:=List (Option D)
inductive Res (W:Type) where
 |ok (a:W)|exc (c:Nat)|bad
inductive Out (W:Type) where
 |ok (a:W) (M:Tp)|exc (c:Nat) (M:Tp)|bad
inductive SO where
 |nx (M:Tp)|rt (d:D) (M:Tp)|bk (M:Tp)|ct (M:Tp)|exc (c:Nat) (M:Tp)|bad
@[simp] def Res.bind{W X:Type}:Res W->(W->Res X)->Res X
 |.ok a,f=>f a
 |.exc c,_=>.exc c
 |.bad,_=>.bad
@[simp] def Res.calm{W:Type}:Res W->Res W
 |.ok a=>.ok a
 |_=>.bad
@[simp] def Out.bind{W X:Type}:Out W->(W->Tp->Out X)->Out X
 |.ok a M,f=>f a M
 |.exc c M,_=>.exc c M
 |.bad,_=>.bad
@[simp] def Res.up{W:Type}(M:Tp):Res W->Out W
 |.ok a=>.ok a M
 |.exc c=>.exc c M
 |.bad=>.bad
def rg{W:Type}(l:List (Option W))(i:Nat):Option W:=(l[i]?).join
@[simp] def vr(i:Nat):Tp->Res D:=λM=>match rg M i with|some d=>.ok d|none=>.bad
def aV(d:D):Tp->Res D:=λ_=>.ok d
def un(f:D->Res D)(a:Tp->Res D):Tp->Res D:=λM=>(a M).bind f
def bn(f:D->D->Res D)(a b:Tp->Res D):Tp->Res D:=λM=>(a M).bind λx=>(b M).bind λy=>f x y
def aq:Nat:=1000000
def iI(g:Int->Int->Int):D->D->Res D | .int i,.int j=>.ok (.int (g i j))|_,_=>.bad
def iB(g:Int->Int->Bool):D->D->Res D | .int i,.int j=>.ok (.bl (g i j))|_,_=>.bad
def iC(C:Int->Int->Bool)(g:Int->Int->Int):D->D->Res D | .int i,.int j=>if C i j=true then .ok (.int (g i j)) else .bad|_,_=>.bad
def j7:=iI λi j=>i+j
def uu:=iI λi j=>i-j
def sJ:=iC (λi j=>decide ((-(2 ^ 64)<i/\i<2 ^ 64)\/(-(2 ^ 64)<j/\j<2 ^ 64))) λi j=>i*j
def dN:=iC (λ_ j=>decide (0<j/\j<1073741824)) λi j=>i / j
def cZ:=iC (λ_ j=>decide (0<j)) λi j=>i%j
def Dy:=iC (λ_ j=>decide (0<=j)) λi j=>i / 2 ^ j.toNat
def xB:=iI λi j=>if j<i then j else i
def x9:=iI λi j=>if j>i then j else i
def Ck:=iB λi j=>decide (i<j)
def Gx:=iB λi j=>decide (j<i)
def UP:=iB λi j=>decide (j<=i)
@[simp] theorem Uo(i j:Int):j7 (.int i) (.int j)=.ok (.int (i+j)):=rfl
@[simp] theorem QP(i j:Int):uu (.int i) (.int j)=.ok (.int (i-j)):=rfl
@[simp] theorem Fh(i j:Int):sJ (.int i) (.int j)=if (-(2 ^ 64)<i/\i<2 ^ 64)\/(-(2 ^ 64)<j/\j<2 ^ 64) then .ok (.int (i*j)) else .bad:=by simp[sJ,iC]
@[simp] theorem CF(i j:Int):dN (.int i) (.int j)=if 0<j/\j<1073741824 then .ok (.int (i / j)) else .bad:=by simp[dN,iC]
@[simp] theorem Fj(i j:Int):cZ (.int i) (.int j)=if 0<j then .ok (.int (i%j)) else .bad:=by simp[cZ,iC]
@[simp] theorem Dx(i j:Int):Dy (.int i) (.int j)=if 0<=j then .ok (.int (i / 2 ^ j.toNat)) else .bad:=by simp[Dy,iC]
@[simp] theorem SY(i j:Int):xB (.int i) (.int j)=.ok (.int (if j<i then j else i)):=rfl
@[simp] theorem SZ(i j:Int):x9 (.int i) (.int j)=.ok (.int (if j>i then j else i)):=rfl
@[simp] theorem UK(i j:Int):Ck (.int i) (.int j)=.ok (.bl (decide (i<j))):=rfl
@[simp] theorem UN(i j:Int):Gx (.int i) (.int j)=.ok (.bl (decide (j<i))):=rfl
@[simp] theorem UO(i j:Int):UP (.int i) (.int j)=.ok (.bl (decide (j<=i))):=rfl
def Jr:D->Res D | .int i=>.ok (.int (-i))|_=>.bad
def Jp:D->Res D | .bl b=>.ok (.bl (!b))|_=>.bad
def Az(neg:Bool):D->D->Res D
 |.int i,.int j=>.ok (.bl (neg.xor (decide (i=j))))
 |.str i,.str j=>.ok (.bl (neg.xor (decide (i=j))))
 |.bl i,.bl j=>.ok (.bl (neg.xor (decide (i=j))))
 |.non,.int _=>.ok (.bl neg)
 |.int _,.non=>.ok (.bl neg)
 |.non,.non=>.ok (.bl (!neg))
 |_,_=>.bad
def om:D->Bool | .non=>true|_=>false
def n6:D->Res D
 |.lst xs=>.ok (.int xs.length)
 |.tup xs=>.ok (.int xs.length)
 |.scr xs=>.ok (.int xs.length)
 |_=>.bad
def J7(xs:List D)(i:Int):Res D:=match li xs i with|some d=>.ok d|none=>.bad
def Ij:D->D->Res D | .lst xs,.int i=>J7 xs i | .scr xs,.int i=>J7 xs i|_,_=>.bad
def Aq:D->D->Res D | .tup xs,.int i=>J7 xs i|_,_=>.bad
def HF:D->D->Res D | .lst xs,.lst a=>if xs.length+a.length<=aq then .ok (.lst (xs++a)) else .bad|_,_=>.bad
def i0:D->Res D | .lst xs=>.ok (.lst xs) | .scr xs=>.ok (.lst xs) | .tup xs=>.ok (.lst xs)|_=>.bad
def fk:D->Option aP | .int i=>some (.inl i) | .str x=>some (.inr x)|_=>none
def bV:List D->Option (List aP)
 |[]=>some []
 |d::r=>match fk d,bV r with|some k,some a=>some (k::a)|_,_=>none
section
variable{W:Type}[DecidableEq W]
def bF:List W->List D->W->Option D
 |k::a,d::ds,j=>if k=j then some d else bF a ds j
 |_,_,_=>none
def cL(a:List W)(j:W):Bool:=a.any λk=>decide (k=j)
def iQ:List W->List D->W->D->List D
 |k::a,d::ds,j,x=>(if k=j then x else d)::iQ a ds j x
 |_,_,_,_=>[]
def dI:List W->List D->W->D->List D
 |k::a,d::ds,j,x=>if k=j then x::ds else d::dI a ds j x
 |_,_,_,_=>[]
end
def jA:D->D->Option (Option D)
 |.dT a vs,.tup k=>(bV k).map λk=>bF a vs k
 |.dK a vs,k=>(fk k).map λk=>bF a vs k
 |_,_=>none
def mG(d k:D):Res D:=match jA d k with|some (some x)=>.ok x|_=>.bad
def mS(neg:Bool)(k d:D):Res D:=match jA d k with|some x=>.ok (.bl (neg.xor x.isSome))|none=>.bad
def gB(d k x:D):Res D:=match jA d k with|some (some y)=>.ok y|some none=>.ok x|none=>.bad
def rp:D->D->D->Option D
 |.dT a vs,.tup k,x=>(bV k).bind λk=>if a.length<aq then some (if cL a k=true then .dT a (iQ a vs k x) else .dT (a++[k]) (vs++[x])) else none
 |.dK a vs,k,x=>(fk k).bind λk=>if a.length<aq then some (if cL a k=true then .dK a (iQ a vs k x) else .dK (a++[k]) (vs++[x])) else none
 |_,_,_=>none
def bQ(c:Nat)(f:Str):D->Res D
 |.obj a ns vs=>if a=c then (match bF ns vs f with|some x=>.ok x|none=>.bad) else .bad
 |_=>.bad
def l9(a:Nat)(f:Str)(x:D):D->Option D
 |.obj c ns vs=>if c=a/\ns.length<900 then some (if cL ns f=true then .obj c ns (dI ns vs f x) else .obj c (ns++[f]) (vs++[x])) else none
 |_=>none
def Iq:D->Res Bool | .bl b=>.ok b|_=>.bad
def HK(a b:Tp->Res D):Tp->Res D:=λM=>((a M).bind Iq).bind λc=>if c=true then b M else .ok (.bl false)
def a7:Tp->Res (List D):=λ_=>.ok []
def aB(a:Tp->Res D)(r:Tp->Res (List D)):Tp->Res (List D):=λM=>(a M).bind λx=>(r M).bind λxs=>.ok (x::xs)
def nM(r:Tp->Res (List D)):Tp->Res D:=λM=>(r M).bind λxs=>if xs.length<=aq then .ok (.lst xs) else .bad
def j9(r:Tp->Res (List D)):Tp->Res D:=λM=>(r M).bind λxs=>if xs.length<=aq then .ok (.tup xs) else .bad
def eF(M:Tp)(ix:List Nat):Tp:=ix.map λj=>rg M j
def bG(a:Tp->Res Bool)(te:Tp->Res D)(cap:Tp):List D->Res (List D)
 |[]=>.ok []
 |d::r=>(a (some d::cap)).calm.bind λc=>if c=true then (te (some d::cap)).calm.bind λx=>(bG a te cap r).bind λxs=>.ok (x::xs) else bG a te cap r
def je(src:Tp->Res (List D))(ix:List Nat)(b:Tp->Res Bool)(te:Tp->Res D):Tp->Res D:=λM=>(src M).bind λxs=>if xs.length<aq then (bG b te (eF M ix) xs).bind λa=>.ok (.lst a) else .bad
def ke(a:Tp->Res D):Tp->Res (List D):=λM=>(a M).bind λd=>match d with | .lst xs=>.ok xs | .scr xs=>.ok xs|_=>.bad
def rng(lo hi:Int):List D:=(List.range (hi-lo).toNat).map λi:Nat=>D.int (lo+i)
def BL(a b:Tp->Res D):Tp->Res (List D):=λM=>(a M).bind λx=>(b M).bind λy=>match x,y with
 |.int i,.int j=>if -(2 ^ 62)<=i/\i<2 ^ 62/\-(2 ^ 62)<=j/\j<2 ^ 62 then .ok (rng i j) else .bad
 |_,_=>.bad
def gb(b:Tp->Res D):Tp->Res (List D):=BL (aV (.int 0)) b
def aw(a b:Tp->SO):Tp->SO:=λM=>match a M with | .nx G=>b G | o=>o
def bT:Tp->SO:=λM=>.nx M
def MR:Tp->SO:=λM=>.rt .non M
@[simp] def gD{W:Type}:Out W->(W->Tp->SO)->SO
 |.ok a M,f=>f a M
 |.exc c M,_=>.exc c M
 |.bad,_=>.bad
abbrev MD:=Tp->Out D
def aQ{W:Type}(a:Tp->Res W):Tp->Out W:=λM=>(a M).up M
def cq(a:MD):Tp->SO:=λM=>gD (a M) λd G=>.rt d G
def aY(a:MD):Tp->SO:=λM=>gD (a M) λ_ G=>.nx G
def bN(i:Nat)(a:MD):Tp->SO:=λM=>gD (a M) λd G=>.nx (G.set i (some d))
def jo(c:Tp->Out Bool)(a b:Tp->SO):Tp->SO:=λM=>gD (c M) λt G=>if t=true then a G else b G
def sW(a:D->Tp->Option Tp)(body:Tp->SO):List D->Tp->SO
 |[],M=>.nx M
 | d::ds,M=>match a d M with
   |none=>.bad
   | some b=>match body b with
     |.nx G=>sW a body ds G
     |.ct G=>sW a body ds G
     |.bk G=>.nx G
     |o=>o
def fW(src:Tp->Out (List D))(a:D->Tp->Option Tp)(body:Tp->SO):Tp->SO:=λM=>gD (src M) λxs G=>sW a body xs G
def za(c:Tp->Out Bool)(body:Tp->SO):Nat->Tp->SO
 |0,_=>.bad
 | n+1,M=>gD (c M) λt a=>if t=true then (match body a with
    |.nx G=>za c body n G
    |.ct G=>za c body n G
    |.bk G=>.nx G
    |o=>o) else .nx a
def wT(i:Nat):D->Tp->Option Tp:=λd M=>some (M.set i (some d))
def L0(i j:Nat):D->Tp->Option Tp:=λd M=>match d with | .tup [x,y]=>some ((M.set i (some x)).set j (some y))|_=>none
def run(k:Nat)(body:Tp->SO)(ds:List D):Out D:=match body (ds.map some++List.replicate (k-ds.length) none) with
 |.nx M=>.ok .non M
 |.rt d M=>.ok d M
 |.exc c M=>.exc c M
 |_=>.bad
structure Cm where
 f:Nat->Addr
 K:F0
 tb:Tbs
instance:CoeFun Cm λ_=>Nat->Addr:=⟨Cm.f⟩
def SqF(K:F0)(B:Hp)(a:Addr)(xs:List V):Prop:=(∃o,B a=some (.frz o (.lst xs)))\/
 ∃(o:Obj) (its:Array Value) (n:Nat),K.lookup a=some o/\o.cls=.type "list" /\ o.dict=none/\o.data=.seq its n/\its.size<=sizeLine/\Vals xs its.toList
theorem SqF.mono{K:F0}{B S:Hp}{a:Addr}{xs:List V}(h:SqF K B a xs)(e:Same B S):SqF K S a xs:=by
 rcases h with ⟨o,h⟩|h
 ·exact .inl ⟨o,e _ _ h⟩
 ·exact .inr h
theorem SqF.sq{K:F0}{H:Hp}{a:Addr}{xs:List V}(h:SqF K H a xs):SqL K H a xs:=by
 rcases h with ⟨o,h⟩|h
 ·exact .inl (.inr ⟨o,h⟩)
 ·exact .inr h
theorem kg{B S:Hp}{a:Addr}{u:HO}(e:Same B S)(h:Rd B a u):Rd S a u:=by
 rcases h with h|⟨o,h⟩
 ·exact .inl (e _ _ h)
 ·exact .inr ⟨o,e _ _ h⟩
section
variable(Y:Cm)
mutual
def Dn(B:Hp):D->V->Prop
 |.non,v=>v=.non
 |.bl b,v=>v=.bl b
 |.int i,v=>v=.int i
 |.str x,v=>v=.str x
 |.ty n,v=>v=.ty n
 |.lst ds,v=>∃a xs,v=.ref a/\B a=some (.lst xs)/\Dns B ds xs
 |.scr ds,v=>∃a xs,v=.ref a/\SqF Y.K B a xs/\Dns B ds xs
 |.tup ds,v=>∃a xs,v=.ref a/\B a=some (.tup xs)/\Dns B ds xs
 |.dK d ds,v=>∃(a:Addr) (kvs:List (aP×V)),v=.ref a/\B a=some (.dK kvs)/\kvs.map (·.1)=d/\Dns B ds (kvs.map (·.2))
 |.dT d ds,v=>∃(a:Addr) (kvs:List (List aP×V)),v=.ref a/\Rd B a (.dT kvs)/\kvs.map (·.1)=d/\Dns B ds (kvs.map (·.2))
 |.obj c ns ds,v=>∃(a dx:Addr) (fs:List (Str×V)),v=.ref a/\B a=some (.ins (Y c) dx fs)/\fs.map (·.1)=ns/\Dns B ds (fs.map (·.2))
def Dns(B:Hp):List D->List V->Prop
 |[],xs=>xs=[]
 |d::ds,xs=>∃x r,xs=x::r/\Dn B d x/\Dns B ds r
end
inductive Sh where
 |fz|ct (s:Sh)|ob (fs:List (Str×Sh))
mutual
def Ow(B H:Hp):D->Sh->V->List Addr->Prop
 |d,.fz,v,A=>Dn Y B d v/\A=[]
 |.lst ds,.ct s,v,A=>∃a xs b,v=.ref a/\H a=some (.lst xs)/\A=a::b/\Ows B H ds s xs b
 |.dK e ds,.ct s,v,A=>∃(a:Addr) (kvs:List (aP×V)) (b:List Addr),v=.ref a/\H a=some (.dK kvs)/\kvs.map (·.1)=e/\A=a::b/\Ows B H ds s (kvs.map (·.2)) b
 |.dT e ds,.ct s,v,A=>∃(a:Addr) (kvs:List (List aP×V)) (b:List Addr),v=.ref a/\H a=some (.dT kvs)/\kvs.map (·.1)=e/\A=a::b/\Ows B H ds s (kvs.map (·.2)) b
 |.obj c ns ds,.ob fs,v,A=>∃(a dx:Addr) (xs:List (Str×V)) (b:List Addr),v=.ref a/\H a=some (.ins (Y c) dx xs)/\xs.map (·.1)=ns/\A=a::b/\Owf B H ds ns fs (xs.map (·.2)) b
 |_,_,_,_=>False
def Ows(B H:Hp):List D->Sh->List V->List Addr->Prop
 |[],_,xs,A=>xs=[]/\A=[]
 |d::ds,s,xs,A=>∃x r A1 a,xs=x::r/\A=A1++a/\Ow B H d s x A1/\Ows B H ds s r a
def Owf(B H:Hp):List D->List Str->List (Str×Sh)->List V->List Addr->Prop
 |[],_,_,xs,A=>xs=[]/\A=[]
 |d::ds,ns,fs,xs,A=>∃n a x r A1 b,ns=n::a/\xs=x::r/\A=A1++b/\Ow B H d ((fs.lookup n).getD .fz) x A1/\Owf B H ds a fs r b
end
inductive Md where
 |F|R|O (s:Sh)
def LoV(B U H:Hp)(m:Md)(d:D)(v:V)(A:List Addr):Prop:=
 match m with
 |.F=>Dn Y B d v/\A=[]
 |.R=>Dn Y U d v/\A=[]
 |.O sh=>Ow Y B H d sh v A
def Lo(B U H:Hp)(m:Md)(o:Option D)(s:Option V)(A:List Addr):Prop:=
 match o with
 |none=>A=[]
 |some d=>∃v,s=some v/\LoV Y B U H m d v A
structure Rel (T:List Md) (B U:Hp) (As:Nat->List Addr) (Z:St) (H:Hp) (M:Tp):Prop where
 bu:Same B U
 uh:Same U H
 nd:∀i,(As i).Nodup
 dj:∀i j a,i≠j->a∈As i->a∉As j
 un:∀i a,a∈As i->U a=none
 lo:∀i,Lo Y B U H (T.getD i .F) (rg M i) (rg Z i) (As i)
 len:M.length=Z.length
 tb:∀p∈Y.tb,∃l,B p.1=some (.tbl l)/\p.2∈l
end
def fD(o:HO):Prop:=∃xs,o=.tup xs
structure Ex (B U S J:Hp):Prop where
 b:Same B S
 u:Same U J
 nb:∀a o,S a=some o->B a=some o\/U a=none\/fD o
theorem Ex.refl(B U:Hp):Ex B U B U:=⟨Same.refl _,Same.refl _,λ_ _ h=>.inl h⟩
theorem Ex.trans{B U I U1 e d:Hp}(a:Ex B U I U1)(b:Ex I U1 e d):Ex B U e d:=
 ⟨a.b.trans b.b,a.u.trans b.u,λc o h=>by
  rcases b.nb c o h with h|h|h
  ·exact a.nb c o h
  ·exact .inr (.inl (a.u.free h))
  ·exact .inr (.inr h)⟩
section
variable{Y:Cm}
def nd:HO->Prop
 |.dT _=>False
 |.frz _ (.dT _)=>False
 |_=>True
def Hm(G a:Hp):Prop:=(∀b x,G b=some x->nd x->a b=some x)/\∀b k,Rd G b (.dT k)->Rd a b (.dT k)
mutual
theorem Dn.imp{B S:Hp}(e:Hm B S):∀{d:D} {v:V},Dn Y B d v->Dn Y S d v:=by
 intro d v h;cases d <;> rw[Dn]at h ⊢ <;> first | exact h | (obtain⟨a,xs,r,c,b⟩:=h;first | exact⟨a,xs,r,e.1 _ _ c trivial,Dns.imp e b⟩ | exact⟨a,xs,r,e.1 _ _ c trivial,b.1,Dns.imp e b.2⟩ | exact⟨a,xs,r,e.2 _ _ c,b.1,Dns.imp e b.2⟩ | exact⟨a,xs,r,c.imp (λ⟨o,q⟩=>⟨o,e.1 _ _ q trivial⟩) id,Dns.imp e b⟩) | (obtain⟨a,dx,xs,r,c,b,f⟩:=h;exact⟨a,dx,xs,r,e.1 _ _ c trivial,b,Dns.imp e f⟩)
theorem Dns.imp{B S:Hp}(e:Hm B S):∀{ds:List D} {xs:List V},Dns Y B ds xs->Dns Y S ds xs
 |[],_,h=>by rw[Dns]at h ⊢;exact h
 | d::ds,_,h=>by
   rw[Dns]at h ⊢;obtain⟨x,r,h0,b,a⟩:=h;exact⟨x,r,h0,Dn.imp e b,Dns.imp e a⟩
end
theorem Hm.of{B S:Hp}(e:Same B S):Hm B S:=⟨λb x q _=>e b x q,λ_ _=>kg e⟩
theorem Dn.mono{B S:Hp}(e:Same B S){d:D}{v:V}:Dn Y B d v->Dn Y S d v:=Dn.imp (.of e)
theorem Dns.mono{B S:Hp}(e:Same B S){ds:List D}{xs:List V}:Dns Y B ds xs->Dns Y S ds xs:=Dns.imp (.of e)
theorem Dns.len{B:Hp}:∀{ds:List D} {xs:List V},Dns Y B ds xs->ds.length=xs.length
 |[],_,h=>by rw[Dns]at h;subst h;rfl
 | d::ds,_,h=>by
   rw[Dns]at h;obtain⟨x,r,rfl,_,a⟩:=h;rw[Vx,Vx,Dns.len a]
theorem Dns.get{B:Hp}:∀{ds:List D} {xs:List V} {i:Nat} {d:D},Dns Y B ds xs->ds[i]?=some d->∃x,xs[i]?=some x/\Dn Y B d x
 |[],_,_,_,_,e=>by cases e
 | d::ds,_,i,d',h,e=>by
   rw[Dns]at h;obtain⟨x,r,rfl,b,a⟩:=h;cases i with
   |zero=>cases e;exact⟨x,rfl,b⟩
   |succ i=>exact Dns.get (i:=i) a (by simpa using e)
theorem Dns.geti{B:Hp}:∀{ds:List D} {xs:List V} {i:Nat} {x:V},Dns Y B ds xs->xs[i]?=some x->∃d,ds[i]?=some d/\Dn Y B d x
 |[],_,_,_,h,e=>by rw[Dns]at h;subst h;cases e
 | d::ds,_,i,c,h,e=>by
   rw[Dns]at h;obtain⟨x,r,rfl,b,a⟩:=h;cases i with
   |zero=>cases e;exact⟨d,rfl,b⟩
   |succ i=>exact Dns.geti (i:=i) a (by simpa using e)
theorem Dns.append{B:Hp}:∀{ds b:List D} {xs a:List V},Dns Y B ds xs->Dns Y B b a->Dns Y B (ds++b) (xs++a)
 |[],_,_,_,h,k=>by rw[Dns]at h;subst h;exact k
 | d::ds,_,_,_,h,k=>by
   rw[Dns]at h;obtain⟨x,r,rfl,e,c⟩:=h;rw[Xl,Xl,Dns];exact⟨x,_,rfl,e,Dns.append c k⟩
theorem Dns.one{B:Hp}{d:D}{v:V}(h:Dn Y B d v):Dns Y B [d] [v]:=by
 rw[Dns];exact⟨v,[],rfl,h,by rw[Dns]⟩
theorem Dns.drop{B:Hp}:∀{ds:List D} {xs:List V} (n:Nat),Dns Y B ds xs->Dns Y B (ds.drop n) (xs.drop n)
 |[],_,n,h=>by rw[Dns]at h;subst h;rw[List.drop_nil,List.drop_nil,Dns]
 | d::ds,_,n,h=>by
   cases n with
   |zero=>exact h
   |succ n=>
     rw[Dns]at h;obtain⟨x,r,rfl,b,a⟩:=h;exact Dns.drop n a
theorem Dns.erase{B:Hp}:∀{ds:List D} {xs:List V} (n:Nat),Dns Y B ds xs->Dns Y B (ds.eraseIdx n) (xs.eraseIdx n)
 |[],_,n,h=>by rw[Dns]at h;subst h;rw[List.eraseIdx_nil,List.eraseIdx_nil,Dns]
 | d::ds,_,n,h=>by
   rw[Dns]at h;obtain⟨x,r,rfl,b,a⟩:=h;cases n with
   |zero=>exact a
   |succ n=>
     rw[We,We,Dns];exact⟨x,_,rfl,b,Dns.erase n a⟩
theorem Dns.set{B:Hp}{d':D}{v:V}(hd:Dn Y B d' v):∀{ds:List D} {xs:List V} (n:Nat),Dns Y B ds xs->Dns Y B (ds.set n d') (xs.set n v)
 |[],_,n,h=>by rw[Dns]at h;subst h;rw[List.set_nil,List.set_nil,Dns]
 | d::ds,_,n,h=>by
   rw[Dns]at h;obtain⟨x,r,rfl,b,a⟩:=h;cases n with
   |zero=>rw[XV,XV,Dns];exact⟨v,r,rfl,hd,a⟩
   |succ n=>
     rw[XW,XW,Dns];exact⟨x,_,rfl,b,Dns.set hd n a⟩
mutual
theorem Ow.imp{B S H H':Hp}(e:∀{d v},Dn Y B d v->Dn Y S d v):∀{d:D} {s:Sh} {v:V} {A:List Addr},(∀a∈A,H' a=H a)->Ow Y B H d s v A->Ow Y S H' d s v A:=by
 intro d s v A k h;cases s with
 |fz=>rw[Ow]at h ⊢;exact⟨e h.1,h.2⟩
 |ct s=>cases d <;> first | (simp[Ow]at h;done) | (rw[Ow]at h ⊢;obtain⟨a,xs,j,r,i,g,f⟩:=h;subst g;exact⟨a,xs,j,r,by rw[k a Vu];exact i,rfl,Ows.imp e (λb c=>k b (Vw _ c)) f⟩) | (rw[Ow]at h ⊢;obtain⟨a,xs,j,r,i,g,f,l⟩:=h;subst f;exact⟨a,xs,j,r,by rw[k a Vu];exact i,g,rfl,Ows.imp e (λb c=>k b (Vw _ c)) l⟩)
 |ob fs=>cases d <;> first | (simp[Ow]at h;done) | (rw[Ow]at h ⊢;obtain⟨a,dx,xs,j,r,i,g,f,l⟩:=h;subst f;exact⟨a,dx,xs,j,r,by rw[k a Vu];exact i,g,rfl,Owf.imp e (λb c=>k b (Vw _ c)) l⟩)
theorem Ows.imp{B S H H':Hp}(e:∀{d v},Dn Y B d v->Dn Y S d v):∀{ds:List D} {s:Sh} {xs:List V} {A:List Addr},(∀a∈A,H' a=H a)->Ows Y B H ds s xs A->Ows Y S H' ds s xs A
 |[],_,_,_,_,h=>by rw[Ows]at h ⊢;exact h
 | d::ds,s,xs,A,k,h=>by
   rw[Ows]at h ⊢;obtain⟨x,r,A1,j,h0,i,g,f⟩:=h;subst i;exact⟨x,r,A1,j,h0,rfl,Ow.imp e (λb c=>k b (VC _ c)) g,Ows.imp e (λb c=>k b (Vt _ c)) f⟩
theorem Owf.imp{B S H H':Hp}(e:∀{d v},Dn Y B d v->Dn Y S d v):∀{ds:List D} {ns:List Str} {fs:List (Str×Sh)} {xs:List V} {A:List Addr},(∀a∈A,H' a=H a)->Owf Y B H ds ns fs xs A->Owf Y S H' ds ns fs xs A
 |[],_,_,_,_,_,h=>by rw[Owf]at h ⊢;exact h
 | d::ds,ns,fs,xs,A,k,h=>by
   rw[Owf]at h ⊢;obtain⟨n,c,x,r,A1,m,g,h0,l,j,i⟩:=h;subst l;exact⟨n,c,x,r,A1,m,g,h0,rfl,Ow.imp e (λb f=>k b (VC _ f)) j,Owf.imp e (λb f=>k b (Vt _ f)) i⟩
end
section
variable{B S H H':Hp}(e:Same B S){A:List Addr}(k:∀a∈A,H' a=H a){s:Sh}
include e k
theorem Ow.mono{d:D}{v:V}:Ow Y B H d s v A->Ow Y S H' d s v A:=Ow.imp (Dn.mono e) k
theorem Ows.mono{ds:List D}{xs:List V}:Ows Y B H ds s xs A->Ows Y S H' ds s xs A:=Ows.imp (Dn.mono e) k
theorem Owf.mono{ds:List D}{ns:List Str}{fs:List (Str×Sh)}{xs:List V}:Owf Y B H ds ns fs xs A->Owf Y S H' ds ns fs xs A:=Owf.imp (Dn.mono e) k
end
end
section
variable{Y:Cm}
mutual
theorem Ow.dn{B H G:Hp}(e:Same B G):∀{d:D} {s:Sh} {v:V} {A:List Addr},(∀a∈A,∀o,H a=some o->G a=some o)->Ow Y B H d s v A->Dn Y G d v:=by
 intro d s v A k h;cases s with
 |fz=>rw[Ow]at h;exact h.1.mono e
 |ct s=>cases d <;> first | (simp[Ow]at h;done) | (rw[Ow]at h;obtain⟨a,xs,l,r,i,c,g⟩:=h;subst c;rw[Dn];exact⟨a,xs,r,k a Vu _ i,Ows.dn e (λb f=>k b (Vw _ f)) g⟩) | (rw[Ow]at h;obtain⟨a,xs,l,r,i,c,g,j⟩:=h;subst g;rw[Dn];have q:=Ows.dn e (λb f=>k b (Vw _ f)) j;have p:=k a Vu _ i;first | exact⟨a,xs,r,p,c,q⟩ | exact⟨a,xs,r,.inl p,c,q⟩)
 |ob fs=>cases d <;> first | (simp[Ow]at h;done) | (rw[Ow]at h;obtain⟨a,dx,xs,l,r,i,c,g,j⟩:=h;subst g;rw[Dn];exact⟨a,dx,xs,r,k a Vu _ i,c,Owf.dn e (λb f=>k b (Vw _ f)) j⟩)
theorem Ows.dn{B H G:Hp}(e:Same B G):∀{ds:List D} {s:Sh} {xs:List V} {A:List Addr},(∀a∈A,∀o,H a=some o->G a=some o)->Ows Y B H ds s xs A->Dns Y G ds xs
 |[],_,_,_,_,h=>by rw[Ows]at h;rw[Dns];exact h.1
 | d::ds,s,xs,A,k,h=>by
   rw[Ows]at h;obtain⟨x,r,A1,j,h0,i,g,f⟩:=h;subst i;rw[Dns];exact⟨x,r,h0,Ow.dn e (λb c=>k b (VC _ c)) g,Ows.dn e (λb c=>k b (Vt _ c)) f⟩
theorem Owf.dn{B H G:Hp}(e:Same B G):∀{ds:List D} {ns:List Str} {fs:List (Str×Sh)} {xs:List V} {A:List Addr},(∀a∈A,∀o,H a=some o->G a=some o)->Owf Y B H ds ns fs xs A->Dns Y G ds xs
 |[],_,_,_,_,_,h=>by rw[Owf]at h;rw[Dns];exact h.1
 | d::ds,ns,fs,xs,A,k,h=>by
   rw[Owf]at h;obtain⟨n,f,x,r,A1,m,l,h0,j,i,g⟩:=h;subst j;rw[Dns];exact⟨x,r,h0,Ow.dn e (λb c=>k b (VC _ c)) i,Owf.dn e (λb c=>k b (Vt _ c)) g⟩
end
mutual
theorem Ow.at2{B H:Hp}:∀{d:D} {s:Sh} {v:V} {A:List Addr} {a:Addr},Ow Y B H d s v A->a∈A->∃o,H a=some o/\¬ fD o:=by
 intro d s v A a h m;cases s with
 |fz=>rw[Ow]at h;rw[h.2]at m;cases m
 |ct s=>cases d <;> first | (simp[Ow]at h;done) | (rw[Ow]at h;obtain⟨b,xs,j,r,f,i,c⟩:=h;subst i;exact(VA.mp m).elim (λe=>by subst e;exact⟨_,f,λ⟨_,z⟩=>nomatch z⟩) (Ows.at2 c)) | (rw[Ow]at h;obtain⟨b,xs,j,r,f,i,c,g⟩:=h;subst c;exact(VA.mp m).elim (λe=>by subst e;exact⟨_,f,λ⟨_,z⟩=>nomatch z⟩) (Ows.at2 g))
 |ob fs=>cases d <;> first | (simp[Ow]at h;done) | (rw[Ow]at h;obtain⟨b,dx,xs,j,r,f,i,c,g⟩:=h;subst c;exact(VA.mp m).elim (λe=>by subst e;exact⟨_,f,λ⟨_,z⟩=>nomatch z⟩) (Owf.at2 g))
theorem Ows.at2{B H:Hp}:∀{ds:List D} {s:Sh} {xs:List V} {A:List Addr} {a:Addr},Ows Y B H ds s xs A->a∈A->∃o,H a=some o/\¬ fD o
 |[],_,_,_,_,h,m=>by rw[Ows]at h;rw[h.2]at m;cases m
 | d::ds,s,xs,A,a,h,m=>by
   rw[Ows]at h;obtain⟨x,r,A1,f,h0,e,c,b⟩:=h;subst e;rcases VH.mp m with m|m
   ·exact Ow.at2 c m
   ·exact Ows.at2 b m
theorem Owf.at2{B H:Hp}:∀{ds:List D} {ns:List Str} {fs:List (Str×Sh)} {xs:List V} {A:List Addr} {a:Addr},Owf Y B H ds ns fs xs A->a∈A->∃o,H a=some o/\¬ fD o
 |[],_,_,_,_,_,h,m=>by rw[Owf]at h;rw[h.2]at m;cases m
 | d::ds,ns,fs,xs,A,a,h,m=>by
   rw[Owf]at h;obtain⟨n,b,x,r,A1,i,g,h0,f,e,c⟩:=h;subst f;rcases VH.mp m with m|m
   ·exact Ow.at2 e m
   ·exact Owf.at2 c m
end
theorem Ow.at{B H:Hp}{d:D}{s:Sh}{v:V}{A:List Addr}{a:Addr}(h:Ow Y B H d s v A)(m:a∈A):∃o,H a=some o:=let ⟨o,e,_⟩:=Ow.at2 h m;⟨o,e⟩
theorem Owf.at{B H:Hp}{ds:List D}{ns:List Str}{fs:List (Str×Sh)}{xs:List V}{A:List Addr}{a:Addr}(h:Owf Y B H ds ns fs xs A)(m:a∈A):∃o,H a=some o:=let ⟨o,e,_⟩:=Owf.at2 h m;⟨o,e⟩
theorem Ows.of{B H:Hp}:∀{ds:List D} {xs:List V},Dns Y B ds xs->Ows Y B H ds .fz xs []
 |[],_,h=>by rw[Dns]at h;rw[Ows];exact⟨h,rfl⟩
 | d::ds,_,h=>by
   rw[Dns]at h;obtain⟨x,r,h0,b,a⟩:=h;rw[Ows];exact⟨x,r,[],[],h0,rfl,by rw[Ow];exact⟨b,rfl⟩,Ows.of a⟩
theorem Ows.fz{B H:Hp}:∀{ds:List D} {xs:List V} {A:List Addr},Ows Y B H ds .fz xs A->Dns Y B ds xs/\A=[]
 |[],_,_,h=>by rw[Ows]at h;rw[Dns];exact h
 | d::ds,_,_,h=>by
   rw[Ows]at h;obtain⟨x,r,A1,g,h0,f,a,e⟩:=h;rw[Ow]at a;obtain⟨c,b⟩:=Ows.fz e;rw[Dns];exact⟨⟨x,r,h0,a.1,c⟩,by rw[f,a.2,b];rfl⟩
theorem Lo.at2{B U H:Hp}{m:Md}{o:Option D}{s:Option V}{A:List Addr}{a:Addr}(h:Lo Y B U H m o s A)(b:a∈A):∃o,H a=some o/\¬ fD o:=by
 unfold Lo at h;cases o with
 |none=>simp only at h;rw[h]at b;cases b
 |some d=>
   obtain⟨v,_,h⟩:=h;cases m with
   |F=>have h:Dn Y B d v/\A=[]:=h;rw[h.2]at b;cases b
   |R=>have h:Dn Y U d v/\A=[]:=h;rw[h.2]at b;cases b
   |O sh=>exact Ow.at2 h b
theorem Lo.at{B U H:Hp}{m:Md}{o:Option D}{s:Option V}{A:List Addr}{a:Addr}(h:Lo Y B U H m o s A)(b:a∈A):∃o,H a=some o:=let ⟨o,e,_⟩:=h.at2 b;⟨o,e⟩
theorem Lo.mono{B U H S J H':Hp}{m:Md}{o:Option D}{s:Option V}{A:List Addr}(h:Lo Y B U H m o s A)(e:Same B S)(f:Same U J)(k:∀a∈A,H' a=H a):Lo Y S J H' m o s A:=by
 unfold Lo at h ⊢;cases o with
 |none=>exact h
 |some d=>
   obtain⟨v,b,h⟩:=h;refine⟨v,b,?_⟩;cases m with
   |F=>exact⟨h.1.mono e,h.2⟩
   |R=>exact⟨h.1.mono f,h.2⟩
   |O sh=>exact Ow.mono e k h
variable{T:List Md}{B U H S J H':Hp}{As:Nat->List Addr}{Z:St}{M:Tp}
theorem Rel.at(R:Rel Y T B U As Z H M){i:Nat}{a:Addr}(h:a∈As i):∃o,H a=some o:=(R.lo i).at h
theorem Rel.nt(R:Rel Y T B U As Z H M){i:Nat}{a:Addr}{o:HO}(h:a∈As i)(e:H a=some o)(z:fD o):False:=by
 obtain⟨o',b,n⟩:=(R.lo i).at2 h;rw[e]at b;cases b;exact n z
theorem Rel.fresh(R:Rel Y T B U As Z H M){p:Addr}(h:H p=none)(i:Nat):p∉As i:=λm=>by
 obtain⟨o,e⟩:=R.at m;rw[h]at e;cases e
theorem Rel.grow(R:Rel Y T B U As Z H M)(e:Same B S)(f:Same U J)(g:Same H H')(bu:Same S J)(uh:Same J H')(un:∀i a,a∈As i->J a=none):Rel Y T S J As Z H' M:=
 ⟨bu,uh,R.nd,R.dj,un,λi=>(R.lo i).mono e f λa b=>by
  obtain⟨o,q⟩:=R.at b
  rw[q,g a o q],R.len,λp hp=>let ⟨l,d,c⟩:=R.tb p hp;⟨l,e _ _ d,c⟩⟩
theorem Rel.bh(R:Rel Y T B U As Z H M):Same B H:=R.bu.trans R.uh
theorem Rel.new(R:Rel Y T B U As Z H M){p:Addr}{o:HO}(h:H p=none):Rel Y T B U As Z (upd H p o) M:=
 R.grow (Same.refl _) (Same.refl _) (Gd.cP h) R.bu (R.uh.trans (Gd.cP h)) R.un
theorem qE{G a:Hp}{p:Addr}{o:HO}(e:Same G a):Same (upd G p o) (upd a p o):=λb u q=>by
 by_cases z:b=p
 ·subst z;rw[aM]at q ⊢;exact q
 ·rw[aE z]at q ⊢;exact e b u q
theorem Rel.newB(R:Rel Y T B U As Z H M){p:Addr}{o:HO}(h:H p=none):Rel Y T (upd B p o) (upd U p o) As Z (upd H p o) M:=
 R.grow (Gd.cP (R.bh.free h)) (Gd.cP (R.uh.free h)) (Gd.cP h) (qE R.bu) (qE R.uh) λi a b=>by
  rw[aE (λz:a=p=>R.fresh h i (z▸b))];exact R.un i a b
theorem Ex.newB(R:Rel Y T B U As Z H M){p:Addr}{o:HO}(h:H p=none):Ex B U (upd B p o) (upd U p o):=
 ⟨Gd.cP (R.bh.free h),Gd.cP (R.uh.free h),λa u q=>by
  by_cases z:a=p
  ·subst z;exact .inr (.inl (R.uh.free h))
  ·rw[aE z]at q;exact .inl q⟩
def frz(B H:Hp)(A:List Addr):Hp:=λa=>if a∈A then H a else B a
theorem bO{A:List Addr}(e:Same B H):Same B (frz B H A):=λa o q=>by
 unfold frz;split
 ·exact e a o q
 ·exact q
theorem m8{A:List Addr}(e:Same B H):Same (frz B H A) H:=λa o q=>by
 unfold frz at q;split at q
 ·exact q
 ·exact e a o q
theorem kL{A:List Addr}(e:Same B U):Same (frz B H A) (frz U H A):=λa o q=>by
 unfold frz at q ⊢;split
 ·rename_i z;rw[Vq z]at q;exact q
 ·rename_i z;rw[on z]at q;exact e a o q
end
abbrev KT(W X:Type):=W->X->Hp->Hp->Hp->List Addr->Prop
inductive Kd where
 |F|U|X
def hp:Kd->Hp->Hp->Hp->Hp
 |.F,B,_,_=>B
 |.U,_,U,_=>U
 |.X,_,_,H=>H
structure Gw (B U H S J H':Hp):Prop extends Ex B U S J where
 h:Same H H'
 fr:∀a o,J a=some o->U a=some o\/H a=none\/fD o
theorem Gw.refl(B U H:Hp):Gw B U H B U H:=⟨Ex.refl _ _,Same.refl _,λ_ _ h=>.inl h⟩
theorem Gw.trans{B U H I U1 H1 f d e:Hp}(a:Gw B U H I U1 H1)(b:Gw I U1 H1 f d e):Gw B U H f d e:=
 ⟨a.toEx.trans b.toEx,a.h.trans b.h,λc o h=>by
  rcases b.fr c o h with h|h|h
  ·exact a.fr c o h
  ·exact .inr (.inl (a.h.free h))
  ·exact .inr (.inr h)⟩
structure New (N:List Addr) (H U:Hp) (As:Nat->List Addr):Prop where
 nd:N.Nodup
 fr:∀a∈N,H a=none
 un:∀a∈N,U a=none
theorem New.nil{H U:Hp}{As:Nat->List Addr}:New [] H U As:=⟨Wk,λ_ h=>(nomatch h),λ_ h=>(nomatch h)⟩
section
variable(Y:Cm)
def Cn(G H:Hp):D->V->Prop
 |.lst ds,v=>∃a xs,v=.ref a/\H a=some (.lst xs)/\Dns Y G ds xs
 |.scr ds,v=>∃a xs,v=.ref a/\SqF Y.K H a xs/\Dns Y G ds xs
 |.tup ds,v=>∃a xs,v=.ref a/\H a=some (.tup xs)/\Dns Y G ds xs
 |.dK b ds,v=>∃(a:Addr) (kvs:List (aP×V)),v=.ref a/\H a=some (.dK kvs)/\kvs.map (·.1)=b/\Dns Y G ds (kvs.map (·.2))
 |.dT b ds,v=>∃(a:Addr) (kvs:List (List aP×V)),v=.ref a/\Rd H a (.dT kvs)/\kvs.map (·.1)=b/\Dns Y G ds (kvs.map (·.2))
 |.obj c ns ds,v=>∃(a dx:Addr) (fs:List (Str×V)),v=.ref a/\H a=some (.ins (Y c) dx fs)/\fs.map (·.1)=ns/\Dns Y G ds (fs.map (·.2))
 |d,v=>Dn Y G d v
def KR(k:Kd):KT D V:=λd v B U H _=>Dn Y (hp k B U H) d v
def KC(k:Kd):KT D V:=λd v B U H _=>Cn Y (hp k B U H) H d v
def KO(s:Sh):KT D V:=λd v B U H N=>Ow Y B H d s v N
def KB:KT Bool Bool:=λb c _ _ _ _=>b=c
def KL(k:Kd):KT (List D) (List V):=λd v B U H _=>Dns Y (hp k B U H) d v
def Po{W X:Type}(K:KT W X)(E:XK)(T:List Md)(B U:Hp)(As:Nat->List Addr)(Z:St)(H:Hp)(M:Tp)(r:Res W)(Q:X->Hp->Prop):Prop:=
 match r with
 |.ok d=>∀v S J H' N,Rel Y T S J As Z H' M->Gw B U H S J H'->New N H J As->K d v S J H' N->Q v H'
 |.exc c=>∀S J H',Rel Y T S J As Z H' M->Gw B U H S J H'->∀a,E (.ref (Y c)) a H'
 |.bad=>False
def PJ{W X:Type}(K:KT W X)(E:XK)(T:List Md)(t:St->Hp->(X->Hp->Prop)->Prop)(m:Tp->Res W):Prop:=
 ∀B U As Z H M Q,Rel Y T B U As Z H M->Po Y K E T B U As Z H M (m M) Q->t Z H Q
end
section
variable{Y:Cm}{E:XK}{T:List Md}{B U H:Hp}{As:Nat->List Addr}{Z:St}{M:Tp}
theorem New.up{N:List Addr}{H1:Hp}(h:New N H1 U As)(s:Same H H1):New N H U As:=⟨h.nd,λa b=>s.free (h.fr a b),h.un⟩
theorem Po.at{W X:Type}{K:KT W X}{I U1 H1:Hp}{r:Res W}{Q:X->Hp->Prop}(P:Po Y K E T B U As Z H M r Q)(e:Gw B U H I U1 H1):Po Y K E T I U1 As Z H1 M r Q:=by
 cases r with
 |ok d=>exact λv S J H' N b a f k=>P v S J H' N b (e.trans a) (f.up e.h) k
 |exc c=>exact λS J H' b a=>P S J H' b (e.trans a)
 |bad=>exact P
theorem PJ.bnd{W X L J:Type}{f:KT W X}{d:KT L J}{b:St->Hp->(X->Hp->Prop)->Prop}{a:Tp->Res W}(j:PJ Y f E T b a)(R:Rel Y T B U As Z H M){k:W->Res L}{Q:J->Hp->Prop}
 (P:Po Y d E T B U As Z H M ((a M).bind k) Q) {body:X->Hp->Prop}
 (h:∀x v I U1 H1 N,a M=.ok x->Rel Y T I U1 As Z H1 M->Gw B U H I U1 H1->New N H U1 As->f x v I U1 H1 N->Po Y d E T I U1 As Z H1 M (k x) Q->body v H1):b Z H body:=by
 refine j B U As Z H M body R ?_;cases e:a M with
 |ok x=>
   rw[e]at P;exact λv I U1 H1 N l e1 g i=>h x v I U1 H1 N e l e1 g i (Po.at (r:=k x) P e1)
 |exc c=>rw[e]at P;exact P
 |bad=>rw[e]at P;exact P
theorem hZ{k:Kd}{I U1 H1:Hp}(e:Gw B U H I U1 H1):Same (hp k B U H) (hp k I U1 H1):=by
 cases k with
 |F=>exact e.b
 |U=>exact e.u
 |X=>exact e.h
theorem Cn.mono{G j H H':Hp}(e:Same G j)(f:Same H H'){d:D}{v:V}(h:Cn Y G H d v):Cn Y j H' d v:=by
 cases d with
 |lst ds=>obtain⟨a,xs,r,g,b⟩:=h;exact⟨a,xs,r,f _ _ g,b.mono e⟩
 |scr ds=>obtain⟨a,xs,r,g,b⟩:=h;exact⟨a,xs,r,g.mono f,b.mono e⟩
 |tup ds=>obtain⟨a,xs,r,g,b⟩:=h;exact⟨a,xs,r,f _ _ g,b.mono e⟩
 |dK k ds=>obtain⟨a,xs,r,g,b,i⟩:=h;exact⟨a,xs,r,f _ _ g,b,i.mono e⟩
 |dT k ds=>obtain⟨a,xs,r,g,b,i⟩:=h;exact⟨a,xs,r,kg f g,b,i.mono e⟩
 |obj c ns ds=>obtain⟨a,dx,xs,r,g,b,i⟩:=h;exact⟨a,dx,xs,r,f _ _ g,b,i.mono e⟩
 |non=>exact Dn.mono e h
 |bl _=>exact Dn.mono e h
 |int _=>exact Dn.mono e h
 |str _=>exact Dn.mono e h
 |ty _=>exact Dn.mono e h
theorem Dn.cn{G H:Hp}(f:Same G H){d:D}{v:V}(h:Dn Y G d v):Cn Y G H d v:=by
 cases d with
 |lst ds=>rw[Dn]at h;obtain⟨a,xs,r,e,b⟩:=h;exact⟨a,xs,r,f _ _ e,b⟩
 |scr ds=>rw[Dn]at h;obtain⟨a,xs,r,e,b⟩:=h;exact⟨a,xs,r,e.mono f,b⟩
 |tup ds=>rw[Dn]at h;obtain⟨a,xs,r,e,b⟩:=h;exact⟨a,xs,r,f _ _ e,b⟩
 |dK i ds=>rw[Dn]at h;obtain⟨a,xs,r,e,b,g⟩:=h;exact⟨a,xs,r,f _ _ e,b,g⟩
 |dT i ds=>rw[Dn]at h;obtain⟨a,xs,r,e,b,g⟩:=h;exact⟨a,xs,r,kg f e,b,g⟩
 |obj c ns ds=>rw[Dn]at h;obtain⟨a,dx,xs,r,e,b,g⟩:=h;exact⟨a,dx,xs,r,f _ _ e,b,g⟩
 |non=>exact h
 |bl _=>exact h
 |int _=>exact h
 |str _=>exact h
 |ty _=>exact h
theorem Cn.dn{H:Hp}{d:D}{v:V}(h:Cn Y H H d v):Dn Y H d v:=by
 cases d with
 |lst ds=>obtain⟨a,xs,r,e,b⟩:=h;rw[Dn];exact⟨a,xs,r,e,b⟩
 |scr ds=>obtain⟨a,xs,r,e,b⟩:=h;rw[Dn];exact⟨a,xs,r,e,b⟩
 |tup ds=>obtain⟨a,xs,r,e,b⟩:=h;rw[Dn];exact⟨a,xs,r,e,b⟩
 |dK g ds=>obtain⟨a,xs,r,e,b,f⟩:=h;rw[Dn];exact⟨a,xs,r,e,b,f⟩
 |dT g ds=>obtain⟨a,xs,r,e,b,f⟩:=h;rw[Dn];exact⟨a,xs,r,e,b,f⟩
 |obj c ns ds=>obtain⟨a,dx,xs,r,e,b,f⟩:=h;rw[Dn];exact⟨a,dx,xs,r,e,b,f⟩
 |non=>exact h
 |bl _=>exact h
 |int _=>exact h
 |str _=>exact h
 |ty _=>exact h
theorem Rel.hp(R:Rel Y T B U As Z H M)(k:Kd):Same (hp k B U H) H:=by
 cases k with
 |F=>exact R.bh
 |U=>exact R.uh
 |X=>exact Same.refl _
theorem PJ.imp{W X:Type}{K b:KT W X}{t:St->Hp->(X->Hp->Prop)->Prop}{m:Tp->Res W}(h:PJ Y K E T t m)(f:∀B U As Z H M d v N,Rel Y T B U As Z H M->K d v B U H N->b d v B U H N):PJ Y b E T t m:=by
 intro B U As Z H M Q R P;refine h B U As Z H M Q R ?_;cases e:m M with
 |ok d=>rw[e]at P;exact λv S J H' N a i g k=>P v S J H' N a i g (f _ _ _ _ _ _ _ _ _ a k)
 |exc c=>rw[e]at P;exact P
 |bad=>rw[e]at P;exact P
section
variable{t:TE}{m:Tp->Res D}{k:Kd}{s:Sh}
theorem fu(h:PJ Y (KR Y .F) E T t m):PJ Y (KR Y .U) E T t m:=h.imp λ_ _ _ _ _ _ _ _ _ R q=>Dn.mono R.bu q
theorem ux(h:PJ Y (KR Y .U) E T t m):PJ Y (KR Y .X) E T t m:=h.imp λ_ _ _ _ _ _ _ _ _ R q=>Dn.mono R.uh q
theorem fx(h:PJ Y (KR Y .F) E T t m):PJ Y (KR Y .X) E T t m:=ux (fu h)
theorem rc(h:PJ Y (KR Y k) E T t m):PJ Y (KC Y k) E T t m:=h.imp λ_ _ _ _ _ _ _ _ _ R q=>Dn.cn (R.hp k) q
theorem cx(h:PJ Y (KC Y k) E T t m):PJ Y (KR Y .X) E T t m:=h.imp λ_ _ _ _ _ _ _ _ _ R q=>Cn.dn (Cn.mono (R.hp k) (Same.refl _) q)
theorem Rel.freeze{A:List Addr}(R:Rel Y T B U As Z H M)(h:∀a∈A,U a=none/\∀i,a∉As i):Rel Y T (Mi.frz B H A) (Mi.frz U H A) As Z H M/\Ex B U (Mi.frz B H A) (Mi.frz U H A):=by
 refine⟨R.grow (bO R.bh) (bO R.uh) (Same.refl _) (kL R.bu) (m8 R.uh) λi a b=>?_,bO R.bh,bO R.uh,λa o q=>?_⟩
 · unfold Mi.frz;split
   ·rename_i z;exact absurd b ((h a z).2 i)
   ·exact R.un i a b
 · unfold Mi.frz at q;split at q
   ·rename_i z;exact .inr (.inl (h a z).1)
   ·exact .inl q
theorem Rel.apart(R:Rel Y T B U As Z H M){N:List Addr}{J:Hp}(n:New N H J As):∀a∈N,∀i,a∉As i:=λa b i=>R.fresh (n.fr a b) i
theorem oF(h:PJ Y (KO Y s) E T t m):PJ Y (KR Y .F) E T t m:=by
 intro B U As Z H M Q R P;refine h B U As Z H M Q R ?_;cases e:m M with
 |ok d=>
   rw[e]at P;intro v S J H' N i g f j;obtain⟨R2,k⟩:=i.freeze λa b=>⟨f.un a b,R.apart f a b⟩;refine P v _ _ H' [] R2 ⟨g.toEx.trans k,g.h,λa o q=>?_⟩ New.nil (Ow.dn (bO i.bh) (λa b o q=>?_) j)
   · unfold Mi.frz at q;split at q
     ·rename_i z;exact .inr (.inl (f.fr a z))
     ·exact g.fr a o q
   ·unfold Mi.frz;rw[if_pos b];exact q
 |exc c=>rw[e]at P;exact P
 |bad=>rw[e]at P;exact P
theorem oc(h:PJ Y (KO Y (.ct .fz)) E T t m):PJ Y (KC Y .F) E T t m:=rc (oF h)
end
theorem ci{W:Type}{l:List (Option W)}{i:Nat}{x:W}(h:rg l i=some x):l[i]?=some (some x):=by
 unfold rg at h;cases e:l[i]? with
 |none=>rw[e]at h;cases h
 |some o=>rw[e]at h;exact congrArg some h
theorem sD{K:KT D V}{i:Nat}(f:∀(B U:Hp) (A:List Addr) (H:Hp) (d:D) (v:V) (s:Option V),Same B U->Same U H->Lo Y B U H (T.getD i .F) (some d) s A->s=some v->K d v B U H []):PJ Y K E T (dD i) (vr i):=by
 intro B U As Z H M Q R P;unfold vr at P;have l:=R.lo i;cases e:rg M i with
 |none=>rw[e]at P;exact P.elim
 |some d=>
   rw[e]at P l;obtain⟨v,a,q⟩:=id l;exact⟨v,ci a,P v B U H [] R (Gw.refl _ _ _) New.nil (f B U _ H d v _ R.bu R.uh l a)⟩
theorem hC{B U H:Hp}{m:Md}{d:D}{v:V}{s:Option V}{A:List Addr}(l:Lo Y B U H m (some d) s A)(b:s=some v):LoV Y B U H m d v A:=by
 obtain⟨w,a,q⟩:=l;rw[b]at a;cases a;exact q
theorem xF{i:Nat}(b:T.getD i .F= .F):PJ Y (KR Y .F) E T (dD i) (vr i):=sD λB U As H d v s _ _ l a=>by
 rw[b]at l;exact(hC l a).1
theorem xR{i:Nat}(b:T.getD i .F= .R):PJ Y (KR Y .U) E T (dD i) (vr i):=sD λB U As H d v s _ _ l a=>by
 rw[b]at l;exact(hC l a).1
theorem xO{i:Nat}{sh:Sh}(c:T.getD i .F= .O sh):PJ Y (KR Y .X) E T (dD i) (vr i):=sD λB U As H d v s b u l a=>by
 rw[c]at l;exact Ow.dn (b.trans u) (λ_ _ _ q=>q) (hC l a)
theorem Ow.cn{B H:Hp}{d:D}{v:V}{A:List Addr}(f:Same B H)(h:Ow Y B H d (.ct .fz) v A):Cn Y B H d v:=by
 cases d with
 |lst ds=>rw[Ow]at h;obtain⟨a,xs,i,r,b,c,g⟩:=h;exact⟨a,xs,r,b,(Ows.fz g).1⟩
 |dK j ds=>rw[Ow]at h;obtain⟨a,xs,i,r,b,c,g,e⟩:=h;exact⟨a,xs,r,b,c,(Ows.fz e).1⟩
 |dT j ds=>rw[Ow]at h;obtain⟨a,xs,i,r,b,c,g,e⟩:=h;exact⟨a,xs,r,.inl b,c,(Ows.fz e).1⟩
 |_=>simp[Ow]at h
theorem xC{i:Nat}(c:T.getD i .F= .O (.ct .fz)):PJ Y (KC Y .F) E T (dD i) (vr i):=sD λB U As H d v s b u l a=>by
 rw[c]at l;exact Ow.cn (b.trans u) (hC l a)
theorem UF{d:D}{v:V}(h:∀G,Dn Y G d v):PJ Y (KR Y .F) E T (tC v) (aV d):=λB U As Z H M Q R P=>P v B U H [] R (Gw.refl _ _ _) New.nil (h _)
theorem pI{i:Int}:PJ Y (KR Y .F) E T (tC (.int i)) (aV (.int i)):=UF λ_=>by rw[Dn]
theorem pB{b:Bool}:PJ Y (KR Y .F) E T (tC (.bl b)) (aV (.bl b)):=UF λ_=>by rw[Dn]
theorem pN:PJ Y (KR Y .F) E T (tC .non) (aV .non):=UF λ_=>by rw[Dn]
theorem pT{n:String}:PJ Y (KR Y .F) E T (tC (.ty n)) (aV (.ty n)):=UF λ_=>by rw[Dn]
end
def vf(neg:Bool)(x y:D):Res D:=if om y=true then .ok (.bl (neg.xor (om x))) else .bad
def d7(m:Tp->Res D):Tp->Res Bool:=λM=>(m M).bind Iq
def CY(a b:Tp->Res Bool):Tp->Res Bool:=λM=>(a M).bind λc=>if c=true then b M else .ok false
def Ih(a b:Tp->Res Bool):Tp->Res Bool:=λM=>(a M).bind λc=>if c=true then .ok true else b M
def NG(a:Tp->Res Bool):Tp->Res Bool:=λM=>(a M).bind λc=>.ok (!c)
section
variable{Y:Cm}{E:XK}{T:List Md}
def S2(Y:Cm)(r:R2)(f:D->D->Res D):Prop:=∀H x y v u,Dn Y H x v->Dn Y H y u->match f x y with
 |.ok d=>∃w,(∀G,Dn Y G d w)/\∀Q:VK,Q w H->r v u H Q
 |.exc _=>False
 |.bad=>True
def S1(Y:Cm)(r:V->Hp->VK->Prop)(f:D->Res D):Prop:=∀H x v,Dn Y H x v->match f x with
 |.ok d=>∃w,(∀G,Dn Y G d w)/\∀Q:VK,Q w H->r v H Q
 |.exc _=>False
 |.bad=>True
section
variable{r:R2}{r1:V->Hp->VK->Prop}{rb:List V->Hp->VK->Prop}{f:D->D->Res D}{f1:D->Res D}{ta tb:TE}{ma mb:Tp->Res D}
theorem aH(h:S2 Y r f)(j:PJ Y (KR Y .X) E T ta ma)(i:PJ Y (KR Y .X) E T tb mb):PJ Y (KR Y .F) E T (Ic r ta tb) (bn f ma mb):=by
 intro B U As Z H M Q R P;refine j.bnd R P λx v I U1 H1 L _ p e1 z n W=>i.bnd p W λy u s o b A _ R2 l t m a=>?_;have q:=h b x y v u (Dn.mono l.h n) m;cases e:f x y with
 |ok d=>
   rw[e]at q a;obtain⟨w,g,k⟩:=q;exact k Q (a w s o b [] R2 (Gw.refl _ _ _) New.nil (g _))
 |exc c=>rw[e]at q;exact q.elim
 |bad=>rw[e]at a;exact a.elim
theorem M8(h:S1 Y r1 f1)(b:PJ Y (KR Y .X) E T ta ma):PJ Y (KR Y .F) E T (tUn r1 ta) (un f1 ma):=by
 intro B U As Z H M Q R P;refine b.bnd R P λx v I U1 H1 L _ g e1 i f W=>?_;have q:=h H1 x v f;cases e:f1 x with
 |ok d=>
   rw[e]at q W;obtain⟨w,a,k⟩:=q;exact k Q (W w I U1 H1 [] g (Gw.refl _ _ _) New.nil (a _))
 |exc c=>rw[e]at q;exact q.elim
 |bad=>rw[e]at W;exact W.elim
theorem ko(h:S1 Y (λv H Q=>rb [v] H Q) f1)(a:PJ Y (KR Y .X) E T ta ma):PJ Y (KR Y .F) E T (Ie rb (bL ta dh)) (un f1 ma):=M8 h a
theorem jw(h:S2 Y (λv u H Q=>rb [v,u] H Q) f)(b:PJ Y (KR Y .X) E T ta ma)(a:PJ Y (KR Y .X) E T tb mb):PJ Y (KR Y .F) E T (Ie rb (bL ta (bL tb dh))) (bn f ma mb):=aH h b a
end
theorem S2.imp{r a:R2}{f:D->D->Res D}(h:S2 Y r f)(k:∀x y H Q,r x y H Q->a x y H Q):S2 Y a f:=by
 intro H x y v u g b;have q:=h H x y v u g b;cases e:f x y with
 |ok d=>
   rw[e]at q;obtain⟨w,i,q⟩:=q;exact⟨w,i,λQ z=>k _ _ _ _ (q Q z)⟩
 |exc c=>rw[e]at q;exact q
 |bad=>trivial
theorem UC{g:Int->Int->Int}:S2 Y (zR λi j=>.int (g i j)) (iI g):=by
 intro H x y v u b a;cases x with
 |int i=>
   cases y with
   |int j=>
     rw[Dn]at b;rw[Dn]at a;subst b a;exact⟨.int (g i j),λ_=>by rw[Dn],λQ q=>⟨i,j,rfl,rfl,q⟩⟩
   |_=>trivial
 |_=>trivial
theorem UY{g:Int->Int->Bool}:S2 Y (zR λi j=>.bl (g i j)) (iB g):=by
 intro H x y v u b a;cases x with
 |int i=>
   cases y with
   |int j=>
     rw[Dn]at b;rw[Dn]at a;subst b a;exact⟨.bl (g i j),λ_=>by rw[Dn],λQ q=>⟨i,j,rfl,rfl,q⟩⟩
   |_=>trivial
 |_=>trivial
theorem UB{C:Int->Int->Prop}{c:Int->Int->Bool}{g:Int->Int->Int}(d:∀i j,c i j=true->C i j):S2 Y (rI C λi j=>.int (g i j)) (iC c g):=by
 intro H x y v u b a;cases x with
 |int i=>
   cases y with
   |int j=>
     rw[Dn]at b;rw[Dn]at a;subst b a;unfold iC;dsimp only;by_cases z:c i j=true
     ·rw[Vq z];exact⟨.int (g i j),λ_=>by rw[Dn],λQ q=>⟨i,j,rfl,rfl,d i j z,q⟩⟩
     ·rw[on z];trivial
   |_=>trivial
 |_=>trivial
theorem ju:S2 Y (zR λi j=>.int (i+j)) j7:=UC
theorem uB:S2 Y (zR λi j=>.int (i-j)) uu:=UC
theorem r0:S2 Y (zR λi j=>.bl (decide (i<j))) Ck:=UY
theorem w6:S2 Y (zR λi j=>.bl (decide (j<i))) Gx:=UY
theorem UX:S2 Y (zR λi j=>.bl (decide (j<=i))) UP:=UY
theorem uC:S2 Y (rI CMul λi j=>.int (i*j)) sJ:=UB λ_ _ h=>by simpa [CMul] using h
theorem di:S2 Y (rI Qq λi j=>.int (i / j)) dN:=UB λ_ _ h=>by simpa [Qq] using h
theorem b9:S2 Y (rI (λ_ j=>0<j) λi j=>.int (i%j)) cZ:=UB λ_ _ h=>XB h
theorem Rf:S2 Y (rI (λ_ j=>0<=j) λi j=>.int (i / 2 ^ j.toNat)) Dy:=UB λ_ _ h=>XB h
theorem zp:S2 Y (λv u H Q=>∃i j,[v,u]=[.int i,.int j]/\Q (.int (if j<i then j else i)) H) xB:=(UC (g:=λi j=>if j<i then j else i)).imp λx y H Q ⟨i,j,c,b,a⟩=>⟨i,j,by rw[c,b],a⟩
theorem zq:S2 Y (λv u H Q=>∃i j,[v,u]=[.int i,.int j]/\Q (.int (if j>i then j else i)) H) x9:=(UC (g:=λi j=>if j>i then j else i)).imp λx y H Q ⟨i,j,c,b,a⟩=>⟨i,j,by rw[c,b],a⟩
theorem KZ:S1 Y (rU λi=>.int (-i)) Jr:=by
 intro H x v a;cases x with
 |int i=>
   rw[Dn]at a;subst a;exact⟨.int (-i),λ_=>by rw[Dn],λQ q=>⟨i,rfl,q⟩⟩
 |_=>trivial
theorem K3(neg:Bool):S2 Y (λx y H Q=>Mc x y=true/\Q (.bl (neg.xor (decide (x=y)))) H) (Az neg):=by
 intro H x y v u b a;cases x with
 |int i=>
   cases y with
   |int j=>
     rw[Dn]at b;rw[Dn]at a;subst b a;exact⟨_,λ_=>by rw[Dn],λQ q=>⟨rfl,by simpa using q⟩⟩
   |non=>
     rw[Dn]at b;rw[Dn]at a;subst b a;exact⟨_,λ_=>by rw[Dn],λQ q=>⟨rfl,by simpa using q⟩⟩
   |_=>trivial
 |str i=>
   cases y with
   |str j=>
     rw[Dn]at b;rw[Dn]at a;subst b a;exact⟨_,λ_=>by rw[Dn],λQ q=>⟨rfl,by simpa using q⟩⟩
   |_=>trivial
 |bl i=>
   cases y with
   |bl j=>
     rw[Dn]at b;rw[Dn]at a;subst b a;exact⟨_,λ_=>by rw[Dn],λQ q=>⟨rfl,by simpa using q⟩⟩
   |_=>trivial
 |non=>
   cases y with
   |int j=>
     rw[Dn]at b;rw[Dn]at a;subst b a;exact⟨_,λ_=>by rw[Dn],λQ q=>⟨rfl,by simpa using q⟩⟩
   |non=>
     rw[Dn]at b;rw[Dn]at a;subst b a;exact⟨_,λ_=>by rw[Dn],λQ q=>⟨rfl,by simpa using q⟩⟩
   |_=>trivial
 |_=>cases y<;>trivial
theorem BS:S2 Y rEq (Az false):=(K3 false).imp λx y H Q h=>⟨h.1,by simpa using h.2⟩
theorem IT:S2 Y rNe (Az true):=(K3 true).imp λx y H Q h=>⟨h.1,by simpa using h.2⟩
theorem Dn.non{G:Hp}{d:D}{v:V}(h:Dn Y G d v):decide (v=.non)=om d:=by
 cases d with
 |non=>rw[Dn]at h;subst h;rfl
 |bl _=>rw[Dn]at h;subst h;rfl
 |int _=>rw[Dn]at h;subst h;rfl
 |str _=>rw[Dn]at h;subst h;rfl
 |ty _=>rw[Dn]at h;subst h;rfl
 |lst _=>rw[Dn]at h;obtain⟨a,xs,e,_⟩:=h;subst e;rfl
 |scr _=>rw[Dn]at h;obtain⟨a,xs,e,_⟩:=h;subst e;rfl
 |tup _=>rw[Dn]at h;obtain⟨a,xs,e,_⟩:=h;subst e;rfl
 |dK _ _=>rw[Dn]at h;obtain⟨a,xs,e,_⟩:=h;subst e;rfl
 |dT _ _=>rw[Dn]at h;obtain⟨a,xs,e,_⟩:=h;subst e;rfl
 |obj _ _ _=>rw[Dn]at h;obtain⟨a,dx,xs,e,_⟩:=h;subst e;rfl
theorem IV:S2 Y (λx y H Q=>y=.non/\Q (.bl (decide (x=.non))) H) (vf false):=by
 intro H x y v u b a;unfold vf;by_cases e:om y=true
 · rw[Vq e]
   have:decide (u=.non)=true:=by rw[Dn.non a];exact e
   refine⟨_,λ_=>by rw[Dn],λQ q=>⟨XB this,?_⟩⟩;rw[Dn.non b];simpa using q
 ·rw[on e];trivial
theorem l7:S1 Y (λv H Q=>∃p e,[v]=[.ref p]/\(SqL Y.K H p e\/SqT Y.K H p e)/\Q (.int e.length) H) n6:=by
 intro H x v b;cases x with
 |lst ds=>
   rw[Dn]at b;obtain⟨a,xs,rfl,d,c⟩:=b;exact⟨.int ds.length,λ_=>by rw[Dn],λQ q=>⟨a,xs,rfl,.inl (SqL.of d),by rw[<-c.len];exact q⟩⟩
 |scr ds=>
   rw[Dn]at b;obtain⟨a,xs,rfl,d,c⟩:=b;exact⟨.int ds.length,λ_=>by rw[Dn],λQ q=>⟨a,xs,rfl,.inl d.sq,by rw[<-c.len];exact q⟩⟩
 |tup ds=>
   rw[Dn]at b;obtain⟨a,xs,rfl,d,c⟩:=b;exact⟨.int ds.length,λ_=>by rw[Dn],λQ q=>⟨a,xs,rfl,.inr (SqT.of d),by rw[<-c.len];exact q⟩⟩
 |_=>trivial
theorem Lb{c:TE}{d:Tp->Res D}(e:PJ Y (KR Y .X) E T c d):PJ Y (KR Y .F) E T (KH c) (un Jp d):=by
 intro B U As Z H M Q R P;refine e.bnd R P λx v I U1 H1 L _ f e1 g a W=>?_;cases x with
 |bl b=>
   have a:Dn Y H1 (.bl b) v:=a;rw[Dn]at a;exact⟨b,a,W _ I U1 H1 [] f (Gw.refl _ _ _) New.nil (show Dn Y _ (.bl (!b)) _ by rw[Dn])⟩
 |_=>exact W.elim
theorem La{t:TE}{m:Tp->Res D}(h:PJ Y (KR Y .X) E T t m):PJ Y KB E T (λZ H Q=>t Z H λx H1=>∃c,x=.bl c/\Q c H1) (d7 m):=by
 intro B U As Z H M Q R P;refine h.bnd R P λx v I U1 H1 L _ d e1 e a W=>?_;cases x with
 |bl b=>
   have a:Dn Y H1 (.bl b) v:=a;rw[Dn]at a;exact⟨b,a,W _ I U1 H1 [] d (Gw.refl _ _ _) New.nil rfl⟩
 |_=>exact W.elim
theorem B0{t:TE}{m:Tp->Res D}(h:PJ Y (KR Y .X) E T t m):PJ Y KB E T (tB t) (d7 m):=La h
theorem cI{t:TE}{m:Tp->Res D}(h:PJ Y (KR Y .X) E T t m):PJ Y KB E T (KE t) (d7 m):=La h
theorem sr{t u:TT}{m n:Tp->Res Bool}(h:PJ Y KB E T t m)(k:PJ Y KB E T u n):PJ Y KB E T (QO t u) (CY m n):=by
 intro B U As Z H M Q R P;refine h.bnd R P λx v I U1 H1 L _ a e1 c b W=>?_;cases b;cases x with
 |true=>exact k I U1 As Z H1 M Q a W
 |false=>exact W _ I U1 H1 [] a (Gw.refl _ _ _) New.nil rfl
theorem qI{t u:TT}{m n:Tp->Res Bool}(h:PJ Y KB E T t m)(k:PJ Y KB E T u n):PJ Y KB E T (tOr t u) (Ih m n):=by
 intro B U As Z H M Q R P;refine h.bnd R P λx v I U1 H1 L _ a e1 c b W=>?_;cases b;cases x with
 |false=>exact k I U1 As Z H1 M Q a W
 |true=>exact W _ I U1 H1 [] a (Gw.refl _ _ _) New.nil rfl
theorem I9{t:TT}{m:Tp->Res Bool}(h:PJ Y KB E T t m):PJ Y KB E T (QI t) (NG m):=by
 intro B U As Z H M Q R P;refine h.bnd R P λx v I U1 H1 L _ b e1 c a W=>?_;cases a;exact W _ I U1 H1 [] b (Gw.refl _ _ _) New.nil rfl
theorem Le{k:Kd}{g tb:TE}{a f:Tp->Res D}(j:PJ Y (KR Y .X) E T g a)(i:PJ Y (KR Y k) E T tb f):PJ Y (KR Y k) E T (Dp g tb) (HK a f):=by
 intro B U As Z H M Q R P;unfold HK at P
 have l:Po Y (KR Y k) E T B U As Z H M ((a M).bind λx=>(Iq x).bind λc=>if c=true then f M else .ok (.bl false)) Q:=by
  cases e:a M<;>(rw[e]at P;exact P)
 refine j.bnd R l λx v I U1 H1 L _ h e1 m d W=>?_;cases x with
 |bl b=>
   have d:Dn Y H1 (.bl b) v:=d;rw[Dn]at d;refine⟨b,d,?_⟩;cases b with
   |true=>exact i I U1 As Z H1 M Q h W
   |false=>exact W _ I U1 H1 [] h (Gw.refl _ _ _) New.nil (show Dn Y _ (.bl false) _ by rw[Dn])
 |_=>exact W.elim
end
section
variable{Y:Cm}{E:XK}{T:List Md}{K:F0}
theorem fJ{n:Nat}(h:n<=aq):n<sizeLine:=by
 have:=YG
 unfold aq at h;omega
theorem Bq{G:Hp}{ds:List D}{xs:List V}{i:Int}{d:D}(h:Dns Y G ds xs)(e:li ds i=some d):∃v,li xs i=some v/\Dn Y G d v:=by
 unfold li at e ⊢;rw[<-h.len];cases q:oj ds.length i with
 |none=>rw[q]at e;cases e
 |some j=>
   rw[q]at e;exact h.get e
theorem nC{k:Kd}{p tb:TE}{t s:Tp->Res D}(C:PJ Y (KC Y k) E T p t)(A:PJ Y (KR Y .X) E T tb s):PJ Y (KR Y k) E T (Ic (I8 Y.K) p tb) (bn Ij t s):=by
 intro B U As Z H M Q R P;refine C.bnd R P λx v I U1 H1 L _ J e1 O G W=>A.bnd J W λy u o n j S _ R2 z N b g=>?_;have c:=Cn.mono (hZ z) z.h G;have b:Dn Y j y u:=b
 have f:∀(ds:List D) (i:Int),Po Y (KR Y k) E T o n As Z j M (J7 ds i) Q->∀xs,Dns Y (hp k o n j) ds xs->∃w,li xs i=some w/\Q w j:=λds i P3 xs h=>by
  unfold J7 at P3;cases q:li ds i with
  |none=>rw[q]at P3;exact P3.elim
  |some d=>
    rw[q]at P3;obtain⟨w,e,F⟩:=Bq h q;exact⟨w,e,P3 w o n j [] R2 (Gw.refl _ _ _) New.nil F⟩
 cases x with
 |lst ds=>
   cases y with
   |int i=>
     rw[Dn]at b;obtain⟨a,xs,r,m,l⟩:=c;obtain⟨w,e,q⟩:=f ds i g xs l;exact⟨a,xs,i,w,r,b,SqL.of m,e,q⟩
   |_=>exact g.elim
 |scr ds=>
   cases y with
   |int i=>
     rw[Dn]at b;obtain⟨a,xs,r,m,l⟩:=c;obtain⟨w,e,q⟩:=f ds i g xs l;exact⟨a,xs,i,w,r,b,m.sq,e,q⟩
   |_=>exact g.elim
 |_=>cases y<;>exact g.elim
theorem km{k:Kd}{g tb:TE}{l j:Tp->Res D}(t:PJ Y (KC Y k) E T g l)(s:PJ Y (KR Y .X) E T tb j):PJ Y (KR Y k) E T (Ic (MU K) g tb) (bn Aq l j):=by
 intro B U As Z H M Q R P;refine t.bnd R P λx v I U1 H1 L _ G e1 N F W=>s.bnd G W λy u o n f O _ R2 m J b e=>?_;have c:=Cn.mono (hZ m) m.h F;have b:Dn Y f y u:=b;cases x with
 |tup ds=>
   cases y with
   |int i=>
     rw[Dn]at b;obtain⟨a,xs,r,A,z⟩:=c;have P3:Po Y (KR Y k) E T o n As Z f M (J7 ds i) Q:=e;unfold J7 at P3;cases q:li ds i with
     |none=>rw[q]at P3;exact P3.elim
     |some d=>
       rw[q]at P3;obtain⟨w,p,C⟩:=Bq z q;exact⟨a,xs,i,w,r,b,SqT.of A,p,P3 w o n f [] R2 (Gw.refl _ _ _) New.nil C⟩
   |_=>exact e.elim
 |_=>cases y<;>exact e.elim
theorem aW{k:Kd}:PJ Y (KL Y k) E T dh a7:=λB U As Z H M Q R P=>P [] B U H [] R (Gw.refl _ _ _) New.nil (show Dns Y _ [] [] by rw[Dns])
theorem ar{k:Kd}{b:TE}{a:TA}{d:Tp->Res D}{c:Tp->Res (List D)}(f:PJ Y (KR Y k) E T b d)(e:PJ Y (KL Y k) E T a c):PJ Y (KL Y k) E T (bL b a) (aB d c):=by
 intro B U As Z H M Q R P;refine f.bnd R P λx v I U1 H1 L _ l e1 q i W=>e.bnd l W λy u o j n r _ R2 g p h m=>?_;refine m (v::u) o j n [] R2 (Gw.refl _ _ _) New.nil ?_;show Dns Y _ (x::y) (v::u);rw[Dns];exact⟨v,u,rfl,Dn.mono (hZ g) i,h⟩
variable{B U H:Hp}{As:Nat->List Addr}{Z:St}{M:Tp}
theorem Gw.newO(R:Rel Y T B U As Z H M){p:Addr}{o:HO}(h:H p=none):Gw B U H B U (upd H p o):=⟨Ex.refl _ _,Gd.cP h,λ_ _ q=>.inl q⟩
theorem Gw.newB(R:Rel Y T B U As Z H M){p:Addr}{o:HO}(h:H p=none):Gw B U H (upd B p o) (upd U p o) (upd H p o):=⟨Ex.newB R h,Gd.cP h,λa u q=>by
 by_cases z:a=p
 ·subst z;exact .inr (.inl h)
 ·rw[aE z]at q;exact .inl q⟩
theorem New.one(R:Rel Y T B U As Z H M){p:Addr}(h:H p=none):New [p] H U As:=⟨by simp,λa b=>by rw[VG.mp b];exact h,λa b=>by rw[VG.mp b];exact R.uh.free h⟩
theorem fi(R:Rel Y T B U As Z H M){ds:List D}{xs:List V}{Q:VK}(P:Po Y (KO Y (.ct .fz)) E T B U As Z H M (.ok (.lst ds)) Q)(h:Dns Y B ds xs){p:Addr}(hp:H p=none):Q (.ref p) (upd H p (.lst xs)):=
 P (.ref p) B U _ [p] (R.new hp) (Gw.newO R hp) (New.one R hp) (by
  show Ow Y B _ (.lst ds) (.ct .fz) (.ref p) [p];rw[Ow]
  exact⟨p,xs,[],rfl,aM,rfl,Ows.of h⟩)
theorem uY(R:Rel Y T B U As Z H M){ds:List D}{xs:List V}{Q:VK}(P:Po Y (KR Y .F) E T B U As Z H M (.ok (.tup ds)) Q)(h:Dns Y B ds xs){p:Addr}(hp:H p=none):Q (.ref p) (upd H p (.tup xs)):=
 P (.ref p) _ _ _ [] (R.newB hp) (Gw.newB R hp) New.nil (by
  show Dn Y (upd B p (.tup xs)) (.tup ds) (.ref p);rw[Dn]
  exact⟨p,xs,rfl,aM,h.mono (Gd.cP (R.bh.free hp))⟩)
section
variable{t:TA}{m:Tp->Res (List D)}
theorem fV(h:PJ Y (KL Y .F) E T t m):PJ Y (KO Y (.ct .fz)) E T (QJ t) (nM m):=by
 intro B U As Z H M Q R P;refine h.bnd R P λds xs I U1 H1 L _ b e1 c a W=>?_;by_cases z:ds.length<=aq
 ·rw[Vq z]at W;have a:Dns Y I ds xs:=a;exact⟨Wx (fJ (by rw[<-a.len];exact z)),λp hp=>fi b W a hp⟩
 ·rw[on z]at W;exact W.elim
theorem cz(h:PJ Y (KL Y .F) E T t m):PJ Y (KR Y .F) E T (QG t) (j9 m):=by
 intro B U As Z H M Q R P;refine h.bnd R P λds xs I U1 H1 L _ b e1 c a W=>?_;by_cases z:ds.length<=aq
 ·rw[Vq z]at W;have a:Dns Y I ds xs:=a;exact⟨Wx (fJ (by rw[<-a.len];exact z)),λp hp=>uY b W a hp⟩
 ·rw[on z]at W;exact W.elim
end
theorem kn:PJ Y (KO Y (.ct .fz)) E T Dj (aV (.dT [] [])):=by
 intro B U As Z H M Q R P p hp;refine P (.ref p) B U _ [p] (R.new hp) (Gw.newO R hp) (New.one R hp) ?_;show Ow Y B _ (.dT [] []) (.ct .fz) (.ref p) [p];rw[Ow];exact⟨p,[],[],rfl,aM,rfl,rfl,Ows.of (by rw[Wt,Dns])⟩
theorem Rs:PJ Y (KO Y (.ct .fz)) E T Dk (aV (.dK [] [])):=by
 intro B U As Z H M Q R P p hp;refine P (.ref p) B U _ [p] (R.new hp) (Gw.newO R hp) (New.one R hp) ?_;show Ow Y B _ (.dK [] []) (.ct .fz) (.ref p) [p];rw[Ow];exact⟨p,[],[],rfl,aM,rfl,rfl,Ows.of (by rw[Wt,Dns])⟩
theorem P7{G:Hp}{x y:D}{v u:V}(l:Cn Y G H x v)(k:Cn Y G H y u){C:Res D->Prop}(f:C .bad->False)(P:C (HF x y)){Q:VK}
 (h:∀ds c xs d,Dns Y G (ds++c) (xs++d)->C (.ok (.lst (ds++c)))->∀p,H p=none->Q (.ref p) (upd H p (.lst (xs++d)))):MV v u H Q:=by
 cases x with
 |lst ds=>
   cases y with
   |lst c=>
     obtain⟨a,xs,r,n,i⟩:=l;obtain⟨b,d,j,m,g⟩:=k;have e:C (if ds.length+c.length<=aq then .ok (.lst (ds++c)) else .bad):=P;by_cases z:ds.length+c.length<=aq
     ·rw[Vq z]at e;exact⟨a,b,xs,d,r,j,n,m,Wx (fJ (by rw[<-i.len,<-g.len];exact z)),h ds c xs d (i.append g) e⟩
     ·rw[on z]at e;exact(f e).elim
   |_=>exact(f P).elim
 |_=>cases y<;>exact(f P).elim
theorem Ld{a tb:TE}{d c:Tp->Res D}(i:PJ Y (KC Y .F) E T a d)(g:PJ Y (KC Y .F) E T tb c):PJ Y (KO Y (.ct .fz)) E T (Ic MV a tb) (bn HF d c):=by
 intro B U As Z H M Q R P;refine i.bnd R P λx v I U1 H1 L _ m e1 t k W=>g.bnd m W λy u f l o z _ R2 e s j n=>?_;exact P7 (G:=f) (Cn.mono e.b e.h k) j (C:=λr=>Po Y (KO Y (.ct .fz)) E T f l As Z o M r Q) (λh=>h) n λds w xs q h P3 p hp=>fi R2 P3 h hp
theorem Cr{G:Hp}{x:D}{v:V}(e:Cn Y G H x v){C:Res D->Prop}(f:C .bad->False)(P:C (i0 x)){Q:VK}
 (h:∀ds xs,Dns Y G ds xs->C (.ok (.lst ds))->∀p,H p=none->Q (.ref p) (upd H p (.lst xs))):∃p d,[v]=[.ref p]/\(SqL Y.K H p d\/SqT Y.K H p d)/\∀l,H l=none->Q (.ref l) (upd H l (.lst d)):=by
 cases x with
 |lst ds=>
   obtain⟨a,xs,r,c,b⟩:=e;exact⟨a,xs,by rw[r],.inl (SqL.of c),h ds xs b P⟩
 |scr ds=>
   obtain⟨a,xs,r,c,b⟩:=e;exact⟨a,xs,by rw[r],.inl c.sq,h ds xs b P⟩
 |tup ds=>
   obtain⟨a,xs,r,c,b⟩:=e;exact⟨a,xs,by rw[r],.inr (SqT.of c),h ds xs b P⟩
 |_=>exact(f P).elim
theorem sE{b:TE}{c:Tp->Res D}(d:PJ Y (KC Y .F) E T b c):
 PJ Y (KO Y (.ct .fz)) E T (Ie (λxs H Q=>∃p a,xs=[.ref p]/\(SqL Y.K H p a\/SqT Y.K H p a)/\∀l,H l=none->Q (.ref l) (upd H l (.lst a))) (bL b dh)) (un i0 c):=by
 intro B U As Z H M Q R P;refine d.bnd R P λx v I U1 H1 L _ f e1 g e W=>?_;exact Cr (G:=I) e (C:=λr=>Po Y (KO Y (.ct .fz)) E T I U1 As Z H1 M r Q) (λh=>h) W λds xs h P3 p hp=>fi f P3 h hp
def Db:D->Res D | .lst xs=>.ok (.tup xs)|_=>.bad
theorem sC{c:TE}{d:Tp->Res D}(e:PJ Y (KC Y .F) E T c d):
 PJ Y (KR Y .F) E T (Ie (λxs H Q=>∃p b,xs=[.ref p]/\((SqL K H p b/\∀l,H l=none->Q (.ref l) (upd H l (.tup b)))\/(SqT K H p b/\Q (.ref p) H))) (bL c dh)) (un Db d):=by
 intro B U As Z H M Q R P;refine e.bnd R P λx v I U1 H1 L _ i e1 j h W=>?_;cases x with
 |lst ds=>
   obtain⟨a,xs,r,g,f⟩:=h;exact⟨a,xs,by rw[r],.inl ⟨SqL.of g,λp hp=>uY i W f hp⟩⟩
 |_=>exact W.elim
theorem fY{G:Hp}:∀{ds:List D} {xs:List V} {k:List aP},bV ds=some k->Dns Y G ds xs->xs=k.map kV
 |[],_,_,e,h=>by rw[Dns]at h;cases e;rw[h];rfl
 | d::ds,_,k,e,h=>by
   rw[Dns]at h;obtain⟨x,r,rfl,a,c⟩:=h;unfold bV at e;cases q:fk d with
   |none=>rw[q]at e;cases e
   |some g=>
     cases b:bV ds with
     |none=>rw[q,b]at e;cases e
     |some f=>
       rw[q,b]at e;cases e;rw[fY b c,Vr];congr 1;cases d with
       |int i=>cases q;rw[Dn]at a;exact a
       |str x=>cases q;rw[Dn]at a;exact a
       |_=>cases q
theorem og{G:Hp}{d:D}{v:V}{k:aP}(e:fk d=some k)(h:Dn Y G d v):v=kV k:=by
 cases d with
 |int i=>cases e;rw[Dn]at h;exact h
 |str x=>cases e;rw[Dn]at h;exact h
 |_=>cases e
def OI(Y:Cm)(G:Hp):Option D->Option V->Prop
 |some d,r=>∃v,r=some v/\Dn Y G d v
 |none,r=>r=none
section
variable{W:Type}[DecidableEq W]
theorem gN{G:Hp}:∀{kvs:List (W×V)} {ds:List D} (j:W),Dns Y G ds (kvs.map (·.2))->OI Y G (bF (kvs.map (·.1)) ds j) (cY kvs j)
 | [],ds,j,h=>by
   cases ds with
   |nil=>exact C9
   |cons d ds=>rw[Dns]at h;obtain⟨x,r,e,_⟩:=h;cases e
 | p::kvs,ds,j,h=>by
   cases ds with
   |nil=>rw[Dns]at h;cases h
   |cons d ds=>
     rw[List.map_cons,Dns]at h;obtain⟨x,r,e,b,a⟩:=h;cases e;rw[List.map_cons];unfold bF;by_cases q:p.1=j
     ·rw[Vq q];exact⟨p.2,ka q,b⟩
     ·rw[on q,kc q];exact gN j a
end
theorem kJ{G:Hp}{d k:D}{v u:V}{o:Option D}(hd:Cn Y G H d v)(h:Dn Y H k u)(e:jA d k=some o):∃a r,v=.ref a/\LV H a/\DGet H a u r/\OI Y G o r:=by
 cases d with
 |dT g vs=>
   obtain⟨a,kvs,rfl,f,j,i⟩:=hd;cases k with
   |tup p=>
     have e:(bV p).map (λk=>bF g vs k)=some o:=e;obtain⟨c,n,m⟩:=VJ.mp e;rw[Dn]at h;obtain⟨b,xs,rfl,s,q⟩:=h;have ex:=fY n q;subst ex;refine⟨a,cY kvs c,rfl,.inr ⟨kvs,f⟩,.inr ⟨kvs,_,_,f,rfl,s,rfl⟩,?_⟩;have l:=gN (W:=List aP) c i;rw[j,m]at l;exact l
   |_=>cases e
 |dK g vs=>
   obtain⟨a,kvs,rfl,f,j,i⟩:=hd;have e:(fk k).map (λk=>bF g vs k)=some o:=by cases k<;>exact e
   obtain⟨c,n,m⟩:=VJ.mp e;have ex:=og n h;subst ex;refine⟨a,cY kvs c,rfl,.inl ⟨kvs,.inl f⟩,DGet.k f,?_⟩;have l:=gN (W:=aP) c i;rw[j,m]at l;exact l
 |_=>cases k<;>cases e
theorem xr{k:Kd}{e c:TE}{f mk:Tp->Res D}(hd:PJ Y (KC Y k) E T e f)(j:PJ Y (KR Y .X) E T c mk):PJ Y (KR Y k) E T (KN e c) (bn mG f mk):=by
 intro B U As Z H M Q R P;refine hd.bnd R P λx v I U1 H1 L _ z e1 G s W=>j.bnd z W λy u C t A J _ R2 i F p b=>?_;unfold mG at b;cases q:jA x y with
 |none=>rw[q]at b;exact b.elim
 |some o=>
   obtain⟨a,r,m,_,g,l⟩:=kJ (Cn.mono (hZ i) i.h s) p q;cases o with
   |none=>rw[q]at b;exact b.elim
   |some d=>
     rw[q]at b;obtain⟨w,rfl,n⟩:=l;exact⟨a,w,m,g,b w C t A [] R2 (Gw.refl _ _ _) New.nil n⟩
theorem ES{k:Kd}{e c:TE}{f mk:Tp->Res D}(i:PJ Y (KR Y .X) E T c mk)(hd:PJ Y (KC Y k) E T e f):PJ Y (KR Y .F) E T (QM c e) (bn (mS false) mk f):=by
 intro B U As Z H M Q R P;refine i.bnd R P λy u I U1 H1 L _ t e1 G p W=>hd.bnd t W λx v A s z J _ R2 m C n b=>?_;unfold mS at b;cases q:jA x y with
 |none=>rw[q]at b;exact b.elim
 |some o=>
   rw[q]at b;obtain⟨a,r,j,_,g,l⟩:=kJ n (Dn.mono m.h p) q;refine⟨a,r,j,g,b _ A s z [] R2 (Gw.refl _ _ _) New.nil ?_⟩;show Dn Y _ (.bl (false.xor o.isSome)) _;rw[Dn];cases o with
   |none=>rw[show r=none from l];rfl
   |some d=>obtain⟨w,rfl,_⟩:=l;rfl
theorem ER{k:Kd}{e c:TE}{f mk:Tp->Res D}(i:PJ Y (KR Y .X) E T c mk)(hd:PJ Y (KC Y k) E T e f):PJ Y (KR Y .F) E T (zg c e) (bn (mS true) mk f):=by
 intro B U As Z H M Q R P;refine i.bnd R P λy u I U1 H1 L _ t e1 G p W=>hd.bnd t W λx v A s z J _ R2 m C n b=>?_;unfold mS at b;cases q:jA x y with
 |none=>rw[q]at b;exact b.elim
 |some o=>
   rw[q]at b;obtain⟨a,r,j,_,g,l⟩:=kJ n (Dn.mono m.h p) q;refine⟨a,r,j,g,b _ A s z [] R2 (Gw.refl _ _ _) New.nil ?_⟩;show Dn Y _ (.bl (true.xor o.isSome)) _;rw[Dn];cases o with
   |none=>rw[show r=none from l];rfl
   |some d=>obtain⟨w,rfl,_⟩:=l;rfl
def vg:D->Bool | .dT _ _=>true | .dK _ _=>true|_=>false
theorem Cn.dic{G:Hp}{d:D}{v:V}(h:Cn Y G H d v)(e:vg d=true):∃a,v=.ref a/\LV H a:=by
 cases d with
 |dT c vs=>obtain⟨a,kvs,r,b,_⟩:=h;exact⟨a,r,.inr ⟨kvs,b⟩⟩
 |dK c vs=>obtain⟨a,kvs,r,b,_⟩:=h;exact⟨a,r,.inl ⟨kvs,.inl b⟩⟩
 |_=>cases e
def GB(b mk a:Tp->Res D):Tp->Res D:=λM=>(b M).bind λd=>if vg d=true then (mk M).bind λk=>(a M).bind λx=>gB d k x else .bad
theorem Ji{k:Kd}{j i f:TE}{n mk m:Tp->Res D}(hd:PJ Y (KC Y k) E T j n)(O:PJ Y (KR Y .X) E T i mk)(N:PJ Y (KR Y k) E T f m):PJ Y (KR Y k) E T (Dl j i f) (GB n mk m):=by
 intro B U As Z H M Q R P;refine hd.bnd R P λx v I U1 H1 L _ R1 e1 n1 t W=>?_;by_cases z:vg x=true
 · rw[if_pos z]at W;obtain⟨a,p,S⟩:=Cn.dic t z;refine⟨a,p,S,O.bnd R1 W λy u B2 U2 H2 N2 _ R2 s n2 d2 P2=>N.bnd R2 P2 λw J G A F N3 _ C e n3 d3 P3=>?_⟩;unfold gB at P3;have c:=Cn.mono (hZ (s.trans e)) (s.trans e).h t;cases q:jA x y with
   |none=>rw[q]at P3;exact P3.elim
   |some o=>
     rw[q]at P3;obtain⟨a',r,b,_,g,l⟩:=kJ c (Dn.mono e.h d2) q;rw[p]at b;cases b;cases o with
     |none=>
       refine⟨r,g,?_⟩;rw[show r=none from l];exact P3 J G A F [] C (Gw.refl _ _ _) New.nil d3
     |some d=>
       obtain⟨K,rfl,V⟩:=l;exact⟨_,g,P3 K G A F [] C (Gw.refl _ _ _) New.nil V⟩
 ·rw[on z]at W;exact W.elim
def vq(a mk:Tp->Res D):Tp->Res D:=λM=>(a M).bind λd=>if vg d=true then (mk M).bind λk=>gB d k .non else .bad
theorem zX{k:Kd}{f e:TE}{i mk:Tp->Res D}(hd:PJ Y (KC Y k) E T f i)(A:PJ Y (KR Y .X) E T e mk):PJ Y (KR Y k) E T (Dm f e) (vq i mk):=by
 intro B U As Z H M Q R P;refine hd.bnd R P λx v I U1 H1 L _ J e1 N n W=>?_;by_cases z:vg x=true
 · rw[if_pos z]at W;obtain⟨a,j,C⟩:=Cn.dic n z;refine⟨a,j,C,A.bnd J W λy u t p s S _ R2 m K G P3=>?_⟩;unfold gB at P3;have c:=Cn.mono (hZ m) m.h n;cases q:jA x y with
   |none=>rw[q]at P3;exact P3.elim
   |some o=>
     rw[q]at P3;obtain⟨O,r,b,_,g,l⟩:=kJ c G q;rw[j]at b;cases b;cases o with
     |none=>
       refine⟨r,g,?_⟩;rw[show r=none from l];exact P3 .non t p s [] R2 (Gw.refl _ _ _) New.nil (show Dn Y _ .non .non by rw[Dn])
     |some d=>
       obtain⟨w,rfl,F⟩:=l;exact⟨_,g,P3 w t p s [] R2 (Gw.refl _ _ _) New.nil F⟩
 ·rw[on z]at W;exact W.elim
end
section
variable{Y:Cm}{E:XK}{T:List Md}{K:F0}{B U H:Hp}{As:Nat->List Addr}{Z:St}{M:Tp}
theorem kB{G:Hp}:∀{fs:List (Str×V)} {ds:List D} {f:Str} {d:D},Dns Y G ds (fs.map (·.2))->bF (fs.map (·.1)) ds f=some d->∃v,fs.lookup f=some v/\Dn Y G d v
 |[],ds,f,d,h,e=>by cases ds<;>cases e
 | p::fs,ds,f,d,h,e=>by
   cases ds with
   |nil=>cases e
   |cons d0 ds=>
     rw[List.map_cons,Dns]at h;obtain⟨x,r,e0,c,b⟩:=h;cases e0;rw[List.map_cons]at e;unfold bF at e;by_cases q:p.1=f
     ·rw[Vq q]at e;cases e;exact⟨p.2,by rw[V4,<-q,WR],c⟩
     · rw[on q]at e;obtain⟨v,a,g⟩:=kB b e
       have:(f==p.1)=false:=V7.mpr λz=>q z.symm
       exact⟨v,by rw[V4,this];exact a,g⟩
theorem Owf.get{B H:Hp}{sh:List (Str×Sh)}:∀{fs:List (Str×V)} {ds:List D} {A:List Addr} {f:Str} {d:D},Owf Y B H ds (fs.map (·.1)) sh (fs.map (·.2)) A->bF (fs.map (·.1)) ds f=some d->
 ∃v A1,fs.lookup f=some v/\Ow Y B H d ((sh.lookup f).getD .fz) v A1/\∀a∈A1,a∈A
 |[],ds,A,f,d,h,e=>by cases ds<;>cases e
 | p::fs,ds,A,f,d,h,e=>by
   cases ds with
   |nil=>cases e
   |cons d0 ds=>
     rw[List.map_cons,List.map_cons,Owf]at h;obtain⟨n,i,x,r,A1,t,k,h0,o,c,m⟩:=h;cases k;cases h0;subst o;rw[List.map_cons]at e;unfold bF at e;by_cases q:p.1=f
     ·rw[Vq q]at e;cases e;rw[q]at c;exact⟨p.2,A1,by rw[V4,<-q,WR],c,λa b=>VC _ b⟩
     · rw[on q]at e;obtain⟨v,s,j,g,l⟩:=Owf.get m e
       have:(f==p.1)=false:=V7.mpr λz=>q z.symm
       exact⟨v,s,by rw[V4,this];exact j,g,λa b=>Vt _ (l a b)⟩
theorem m9{c:Nat}{f:Str}{x d:D}(h:bQ c f x=.ok d):∃ns vs,x=.obj c ns vs/\bF ns vs f=some d:=by
 cases x with
 |obj a ns vs=>
   unfold bQ at h;dsimp only at h;by_cases e:a=c
   · rw[Vq e]at h;subst e;cases q:bF ns vs f with
     |none=>rw[q]at h;cases h
     |some y=>rw[q]at h;cases h;exact⟨ns,vs,rfl,q⟩
   ·rw[on e]at h;cases h
 |_=>cases h
theorem kM{c:Nat}{f:Str}{x:D}{e:Nat}(h:bQ c f x=.exc e):False:=by
 cases x with
 |obj a ns vs=>
   have h:(if a=c then (match bF ns vs f with|some x=>Res.ok x|none=>.bad) else .bad)=.exc e:=h;by_cases e:a=c
   ·rw[Vq e]at h;cases q:bF ns vs f<;>(rw[q]at h;cases h)
   ·rw[on e]at h;cases h
 |_=>cases h
theorem dW{k:Kd}{c:Nat}{f:Str}{b:TE}{g:Tp->Res D}(j:Cls K (Y c))(i:NoAttr K (Y c) f)(m:PJ Y (KC Y k) E T b g):PJ Y (KR Y k) E T (qp K b f) (un (bQ c f) g):=by
 intro B U As Z H M Q R P;refine m.bnd R P λx v I U1 H1 L _ t e1 u s W=>?_;cases e:bQ c f x with
 |ok d=>
   rw[e]at W;obtain⟨ns,vs,rfl,l⟩:=m9 e;obtain⟨a,dx,fs,r,p,o,n⟩:=s;subst o;obtain⟨w,h,q⟩:=kB n l;exact⟨a,_,dx,fs,w,r,p,j,i,h,W w I U1 H1 [] t (Gw.refl _ _ _) New.nil q⟩
 |exc y=>exact(kM e).elim
 |bad=>rw[e]at W;exact W.elim
theorem Nf{g:KT D V}{c:Nat}{f:Str}{i:Nat}{sh:List (Str×Sh)}(p:Cls K (Y c))(m:NoAttr K (Y c) f)(n:T.getD i .F= .O (.ob sh))
 (o:∀B U H d v A,Same B U->Same U H->Ow Y B H d ((sh.lookup f).getD .fz) v A->g d v B U H []):PJ Y g E T (qp K (dD i) f) (un (bQ c f) (vr i)):=by
 intro B U As Z H M Q R P;have l:=R.lo i;rw[n]at l;unfold un vr at P;cases e:rg M i with
 |none=>rw[e]at P;exact P.elim
 |some d0=>
   rw[e]at P l;obtain⟨v,k,q⟩:=l;replace P:Po Y g E T B U As Z H M (bQ c f d0) Q:=P;refine⟨v,ci k,?_⟩;cases b:bQ c f d0 with
   |ok d=>
     rw[b]at P;obtain⟨ns,vs,rfl,l⟩:=m9 b;have q:Ow Y B H (.obj c ns vs) (.ob sh) v (As i):=q;rw[Ow]at q;obtain⟨a,dx,fs,z,r,u,t,x,s⟩:=q;subst t;obtain⟨w,A1,j,h,_⟩:=Owf.get s l;exact⟨a,_,dx,fs,w,r,u,p,m,j,P w B U H [] R (Gw.refl _ _ _) New.nil (o B U H d w A1 R.bu R.uh h)⟩
   |exc y=>exact(kM b).elim
   |bad=>rw[b]at P;exact P.elim
theorem jL{c:Nat}{f:Str}{i:Nat}{sh:List (Str×Sh)}(j:Cls K (Y c))(e:NoAttr K (Y c) f)(g:T.getD i .F= .O (.ob sh))(h:(sh.lookup f).getD .fz=.ct .fz):PJ Y (KC Y .F) E T (qp K (dD i) f) (un (bQ c f) (vr i)):=
 Nf j e g λB U H d v A b u a=>by
  rw[h]at a;exact Ow.cn (b.trans u) a
def Kh(J:It)(H:Hp)(vs:List V):Prop:=∀a,Same H a->(∀i,vs.length<=i->J.stop i a)/\(∀i,i<vs.length->J.go i a)/\∀i x H',i<vs.length->J.yld i a x H'->H'=a/\vs[i]?=some x
def KI(Y:Cm)(k g:Kd):KT (List D) It:=λds J B U H _=>∃vs,Kh J (hp g B U H) vs/\Dns Y (hp k B U H) ds vs
theorem jn{a:Addr}{xs:List V}(h:H a=some (.lst xs)\/SqF K H a xs):Kh (Vm K a) H xs:=λb s=>by
 have q:SqL K b a xs:=by
  rcases h with h|h
  ·exact .inl (.inl (s _ _ h))
  ·exact(h.mono s).sq
 exact⟨λi hi=>⟨xs,q,hi⟩,λi hi=>⟨xs,xs[i],q,VI hi⟩,λi x H' hi y=>⟨y.1,y.2 xs q⟩⟩
theorem ve(lo:Int)(n:Nat):Kh (Uz lo n) H ((List.range n).map λi:Nat=>V.int (lo+i)):=λb s=>by
 have a:((List.range n).map λi:Nat=>V.int (lo+i)).length=n:=by rw[Vs,XA]
 refine⟨λi hi=>by rw[a]at hi;exact hi,λi hi=>by rw[a]at hi;exact hi,λi x H' hi y=>⟨y.1,?_⟩⟩;rw[a]at hi;rw[VR,Xn hi,y.2];rfl
theorem tj{G:Hp}(lo:Int):∀n:Nat,Dns Y G ((List.range n).map λi:Nat=>D.int (lo+i)) ((List.range n).map λi:Nat=>V.int (lo+i))
 |0=>by rw[List.range_zero,Wt,Wt,Dns]
 | n+1=>by
   rw[List.range_succ,V9,V9];exact(tj lo n).append (Dns.one (by rw[Dn]))
theorem Gs{k:Kd}{d:TE}{e:Tp->Res D}(h:PJ Y (KC Y k) E T d e):PJ Y (KI Y k .X) E T (vh Y.K d) (ke e):=by
 intro B U As Z H M Q R P;refine h.bnd R P λx v I U1 H1 L _ g e1 i f W=>?_;cases x with
 |lst ds=>
   obtain⟨a,xs,r,b,c⟩:=f;exact⟨a,r,⟨xs,SqL.of b⟩,W _ I U1 H1 [] g (Gw.refl _ _ _) New.nil ⟨xs,jn (.inl b),c⟩⟩
 |scr ds=>
   obtain⟨a,xs,r,b,c⟩:=f;exact⟨a,r,⟨xs,b.sq⟩,W _ I U1 H1 [] g (Gw.refl _ _ _) New.nil ⟨xs,jn (.inr b),c⟩⟩
 |_=>exact W.elim
theorem sS{k:Kd}{f:TE}{g:Tp->Res D}(h:PJ Y (KR Y k) E T f g):PJ Y (KI Y k k) E T (vh Y.K f) (ke g):=by
 intro B U As Z H M Q R P;refine h.bnd R P λx v I U1 H1 L _ d e1 i b W=>?_;have b:Dn Y (hp k I U1 H1) x v:=b;cases x with
 |lst ds=>
   rw[Dn]at b;obtain⟨a,xs,r,c,e⟩:=b;exact⟨a,r,⟨xs,SqL.of (d.hp k _ _ c)⟩,W _ I U1 H1 [] d (Gw.refl _ _ _) New.nil ⟨xs,jn (.inl c),e⟩⟩
 |scr ds=>
   rw[Dn]at b;obtain⟨a,xs,r,c,e⟩:=b;exact⟨a,r,⟨xs,(c.mono (d.hp k)).sq⟩,W _ I U1 H1 [] d (Gw.refl _ _ _) New.nil ⟨xs,jn (.inr c),e⟩⟩
 |_=>exact W.elim
theorem Tc{g:Kd}{e tb:TE}{h f:Tp->Res D}(n:PJ Y (KR Y .X) E T e h)(m:PJ Y (KR Y .X) E T tb f):PJ Y (KI Y .F g) E T (Lz (bL e (bL tb dh))) (BL h f):=by
 intro B U As Z H M Q R P;refine n.bnd R P λx v I U1 H1 L _ o e1 q c W=>m.bnd o W λy u l k d s _ R2 r p b a=>?_;have c:Dn Y H1 x v:=c;have b:Dn Y d y u:=b;cases x with
 |int i=>
   cases y with
   |int j=>
     rw[Dn]at c;rw[Dn]at b;subst c b;have a:Po Y (KI Y .F g) E T l k As Z d M (if -(2 ^ 62)<=i/\i<2 ^ 62/\-(2 ^ 62)<=j/\j<2 ^ 62 then .ok (rng i j) else .bad) Q:=a;by_cases z:-(2 ^ 62)<=i/\i<2 ^ 62/\-(2 ^ 62)<=j/\j<2 ^ 62
     ·rw[Vq z]at a;exact⟨i,j,rfl,z,a _ l k d [] R2 (Gw.refl _ _ _) New.nil ⟨_,ve i _,tj i _⟩⟩
     ·rw[on z]at a;exact a.elim
   |_=>exact a.elim
 |_=>cases y<;>exact a.elim
theorem yk{g:Kd}{tb:TE}{c:Tp->Res D}(k:PJ Y (KR Y .X) E T tb c):PJ Y (KI Y .F g) E T (LA (bL tb dh)) (gb c):=by
 intro B U As Z H M Q R P
 have P:Po Y (KI Y .F g) E T B U As Z H M ((c M).bind λy=>match D.int 0,y with
  |.int i,.int j=>if -(2 ^ 62)<=i/\i<2 ^ 62/\-(2 ^ 62)<=j/\j<2 ^ 62 then .ok (rng i j) else .bad
  |_,_=>.bad) Q:=P
 refine k.bnd R P λy u h f d n _ R2 m l b a=>?_;have b:Dn Y d y u:=b;cases y with
 |int j=>
   rw[Dn]at b;subst b;have a:Po Y (KI Y .F g) E T h f As Z d M (if -(2 ^ 62)<=(0:Int)/\(0:Int)<2 ^ 62/\-(2 ^ 62)<=j/\j<2 ^ 62 then .ok (rng 0 j) else .bad) Q:=a;by_cases z:-(2 ^ 62)<=(0:Int)/\(0:Int)<2 ^ 62/\-(2 ^ 62)<=j/\j<2 ^ 62
   · rw[Vq z]at a;refine⟨j,rfl,z.2.2.1,z.2.2.2,a _ h f d [] R2 (Gw.refl _ _ _) New.nil ?_⟩;have e:(j-0).toNat=j.toNat:=by rw[Int.sub_zero]
     unfold rng;rw[e];exact⟨_,ve 0 _,tj 0 _⟩
   ·rw[on z]at a;exact a.elim
 |_=>exact a.elim
theorem zu{W:Type}{l:List (Option W)}{x:Option W}{i:Nat}:rg (x::l) (i+1)=rg l i:=by unfold rg;rw[List.getElem?_cons_succ]
theorem zt{W:Type}{l:List (Option W)}{x:Option W}:rg (x::l) 0=x:=by unfold rg;rw[List.getElem?_cons_zero];rfl
theorem D3{W:Type}{l:List (Option W)}{ix:List Nat}{j:Nat}:rg (ix.map λi=>rg l i) j=match ix[j]? with|some i=>rg l i|none=>none:=by
 unfold rg;rw[List.getElem?_map];cases ix[j]?<;>rfl
theorem uV:∀{l:List Nat} {i j:Nat},l.Nodup->(a:i<l.length)->(b:j<l.length)->l[i]=l[j]->i=j
 |[],_,_,_,a,_,_=>by simp at a
 |x::l,0,0,_,_,_,_=>rfl
 | x::l,0,j+1,nd,a,b,e=>by
   have c:j<l.length:=by simpa using b
   exact absurd (show x∈l from by rw[show x=l[j] from e];exact Yi c) (VQ.mp nd).1
 | x::l,i+1,0,nd,a,b,e=>by
   have c:i<l.length:=by simpa using a
   exact absurd (show x∈l from by rw[show x=l[i] from e.symm];exact Yi c) (VQ.mp nd).1
 | x::l,i+1,j+1,nd,a,b,e=>by
   rw[uV (VQ.mp nd).2 (by simpa using a) (by simpa using b) e]
def Vg(As:Nat->List Addr)(ix:List Nat):Nat->List Addr
 |0=>[]
 |j+1=>match ix[j]? with|some i=>As i|none=>[]
def lI(m:Md)(T:List Md)(ix:List Nat):List Md:=m::ix.map λi=>T.getD i .F
theorem Rel.inner(R:Rel Y T B U As Z H M){ix:List Nat}(h:ix.Nodup){m:Md}{d:D}{v:V}(hd:Lo Y B U H m (some d) (some v) []):
 Rel Y (lI m T ix) B U (Vg As ix) (some v::iH Z ix) H (some d::eF M ix) where
 bu:=R.bu
 uh:=R.uh
 nd:=λi=>by
  cases i with
  |zero=>exact Wk
  |succ j=>
    show(match ix[j]? with|some i=>As i|none=>[]).Nodup;cases ix[j]? with
    |none=>exact Wk
    |some i=>exact R.nd i
 dj:=λi j a g b c=>by
  cases i with
  |zero=>cases b
  |succ i=>
    cases j with
    |zero=>cases c
    |succ j=>
      have b:a∈(match ix[i]? with|some i=>As i|none=>[]):=b;have c:a∈(match ix[j]? with|some i=>As i|none=>[]):=c;cases f:ix[i]? with
      |none=>rw[f]at b;cases b
      |some x=>
        cases k:ix[j]? with
        |none=>rw[k]at c;cases c
        |some y=>
          rw[f]at b;rw[k]at c;by_cases e:x=y
          · subst e;obtain⟨o,e1⟩:=VM.mp f;obtain⟨n,l⟩:=VM.mp k
            have:=uV h o n (e1.trans l.symm)
            exact g (by rw[this])
          ·exact R.dj x y a e b c
 tb:=R.tb
 un:=λi a b=>by
  cases i with
  |zero=>cases b
  |succ i=>
    have b:a∈(match ix[i]? with|some i=>As i|none=>[]):=b;cases f:ix[i]? with
    |none=>rw[f]at b;cases b
    |some x=>rw[f]at b;exact R.un x a b
 lo:=λi=>by
  cases i with
  |zero=>
    rw[zt,zt];exact hd
  |succ j=>
    rw[zu,zu];unfold iH eF;have e1:rg (ix.map λj=>rg M j) j=match ix[j]? with|some i=>rg M i|none=>none:=D3
    have l:rg (ix.map λj=>(Z[j]?).join) j=match ix[j]? with|some i=>rg Z i|none=>none:=D3
    rw[e1,l];show Lo Y B U H ((m::ix.map λi=>T.getD i .F).getD (j+1) .F) _ _ (match ix[j]? with|some i=>As i|none=>[]);rw[WN,VL,VR];cases ix[j]? with
    |none=>exact rfl
    |some i=>exact R.lo i
 len:=by
  rw[Vx,Vx,iH,eF,Vs,Vs]
theorem Rel.poke(R:Rel Y T B U As Z H M){p:Addr}{o:HO}(b:U p=none)(c:∀i,p∉As i):Rel Y T B U As Z (upd H p o) M:=
 ⟨R.bu,λa u q=>by rw[aE (br q b)];exact R.uh a u q,R.nd,R.dj,R.un,λi=>(R.lo i).mono (Same.refl _) (Same.refl _) λa h=>aE (λz:a=p=>c i (z▸h)),R.len,R.tb⟩
theorem lT{W:Type}{l:List W}{i:Nat}{x:W}(h:l[i]?=some x):l.drop i=x::l.drop (i+1):=by
 obtain⟨b,a⟩:=VM.mp h;rw[Xm b,a]
theorem Bm{k k':Kd}{m0:Md}{S:KT D V}{ix:List Nat}{ti:TT}{te:TE}{mi:Tp->Res Bool}{me:Tp->Res D}(hix:ix.Nodup)(h0:∀B U H d v,Same B U->Same U H->Dn Y (hp k B U H) d v->Lo Y B U H m0 (some d) (some v) [])
 (hti:PJ Y KB E0 (lI m0 T ix) ti mi) (hte:PJ Y (KR Y k') E0 (lI m0 T ix) te me)
 (fin:∀B U As Z H M I U1 H1 Q l L p,Rel Y T I U1 As Z H1 M->Gw B U H I U1 H1->H p=none->U1 p=none->(∀i,p∉As i)->H1 p=some (.lst L)->Dns Y (hp k' I U1 H1) l L->Po Y S E T B U As Z H M (.ok (.lst l)) Q->Q (.ref p) H1)
 (hk':k'= .F\/k'= .U) {As:Nat->List Addr} {Z:St} {M:Tp} {Q:VK} {ds:List D} {J:It} {I U1 H1:Hp} {vs:List V} (R1:Rel Y T I U1 As Z H1 M) (hJ:Kh J H1 vs) (hd:Dns Y (hp k I U1 H1) ds vs)
 (W:Po Y S E T I U1 As Z H1 M (if ds.length<aq then (bG mi me (eF M ix) ds).bind λr=>.ok (.lst r) else .bad) Q) (p:Addr) (hp:H1 p=none):HX J (λv=>some v::iH Z ix) ti te p H1 Q:=by
 by_cases z:ds.length<aq
 · rw[Vq z]at W;have hvl:ds.length=vs.length:=hd.len;have hpA:∀i,p∉As i:=λi=>R1.fresh hp i
   have C:∀{s f K B3 P H3:Hp},Gw s f K B3 P H3->Same (Mi.hp k' s f (λ_=>none)) (Mi.hp k' B3 P (λ_=>none)):=λg=>by
    rcases hk' with e|e<;>subst e
    ·exact g.b
    ·exact g.u
   have hpe:∀{s f K:Hp},Mi.hp k' s f K=Mi.hp k' s f (λ_=>none):=λ{s f K}=>by rcases hk' with e|e<;>subst e<;>rfl
   refine⟨λi m L K=>i<=ds.length/\m=ds.length-i/\K p=some (.lst L)/\L.length<=i/\∃s f l,Rel Y T s f As Z K M/\Gw I U1 H1 s f K/\f p=none/\Dns Y (Mi.hp k' s f (λ_=>none)) l L/\
    Po Y S E T I U1 As Z H1 M ((bG mi me (eF M ix) (ds.drop i)).bind λr=>.ok (.lst (l++r))) Q,⟨ds.length,WD _,rfl,aM,VE _,I,U1,[],R1.new hp,Gw.newO R1 hp,R1.uh.free hp,by rw[Dns],W⟩,?_⟩
   rintro i m L K ⟨hi,rfl,X,hle,s,f,l,R2,g2,u2,dz,t⟩;have A:=hJ K g2.h;refine⟨X,W9 hle (fJ (Wx (W9 hi z))),?_⟩;by_cases hlt:i<ds.length
   · refine .inr ⟨A.2.1 i (by omega),λv H3 hyl=>?_⟩;obtain⟨rfl,ev⟩:=A.2.2 i v H3 (by omega) hyl;obtain⟨d,ed,dd⟩:=hd.geti ev;rw[lT ed,bG]at t;have RI:=R2.inner hix (h0 s f H3 d v R2.bu R2.uh (Dn.mono (hZ g2) dd));refine hti s f _ _ H3 _ _ RI ?_;cases eb:mi (some d::eF M ix) with
     |ok c=>
       rw[eb]at t;intro b B3 P H4 N3 G n n3 hb;cases hb
       have up3:P p=none:=by
        cases q:P p with
        |none=>rfl
        |some o=>
          rcases n.fr p o q with z|z|⟨xs,z⟩
          ·rw[u2]at z;cases z
          ·rw[X]at z;cases z
          ·subst z;have:=G.uh p _ q;rw[n.h _ _ X]at this;cases this
       have R3:Rel Y T B3 P As Z H4 M:=R2.grow n.b n.u n.h G.bu G.uh λj a N=>by
        cases q:P a with
        |none=>rfl
        |some o=>
          rcases n.fr a o q with z|z|z
          ·rw[R2.un j a N]at z;cases z
          ·obtain⟨o',w⟩:=R2.at N;rw[z]at w;cases w
          ·obtain⟨o',w⟩:=R2.at N;have e1:=n.h _ _ w;rw[G.uh a _ q]at e1;cases e1;exact(R2.nt N w z).elim
       cases c with
       |false=>
         rw[on VD];exact⟨ds.length-(i+1),by omega,hlt,rfl,n.h _ _ X,by omega,B3,P,l,R3,g2.trans n,up3,dz.mono (C n),t⟩
       |true=>
         rw[Vq rfl];refine hte B3 P _ _ H4 _ _ G ?_;cases ee:me (some d::eF M ix) with
         |ok x=>
           have P3:Po Y S E T I U1 As Z H1 M (((me (some d::eF M ix)).calm.bind λx=>(bG mi me (eF M ix) (ds.drop (i+1))).bind λxs=>.ok (x::xs)).bind λr=>.ok (.lst (l++r))) Q:=t;rw[ee]at P3;intro y B4 U4 H5 N4 R O n4 hx;have y5:H5 p=some (.lst L):=O.h _ _ (n.h _ _ X)
           have up4:U4 p=none:=by
            cases q:U4 p with
            |none=>rfl
            |some o=>
              rcases O.fr p o q with z|z|⟨xs,z⟩
              ·rw[up3]at z;cases z
              ·rw[n.h _ _ X]at z;cases z
              ·subst z;have:=R.uh p _ q;rw[y5]at this;cases this
           have R4:Rel Y T B4 U4 As Z H5 M:=R3.grow O.b O.u O.h R.bu R.uh λj a N=>by
            cases q:U4 a with
            |none=>rfl
            |some o=>
              rcases O.fr a o q with z|z|z
              ·rw[R3.un j a N]at z;cases z
              ·obtain⟨o',w⟩:=R3.at N;rw[z]at w;cases w
              ·obtain⟨o',w⟩:=R3.at N;have e1:=O.h _ _ w;rw[R.uh a _ q]at e1;cases e1;exact(R3.nt N w z).elim
           have g5:Gw I U1 H1 B4 U4 (upd H5 p (.lst (L++[y]))):=by
            have g:=(g2.trans n).trans O;exact⟨g.toEx,λa o q=>by rw[aE (br q hp)];exact g.h a o q,g.fr⟩
           refine⟨y5,ds.length-(i+1),by omega,hlt,rfl,aM,by rw[Vy,Xe];omega,B4,U4,l++[x],R4.poke up4 hpA,g5,up4,(dz.mono (C (n.trans O))).append (Dns.one ?_),?_⟩
           ·have hx:Dn Y (Mi.hp k' B4 U4 H5) x y:=hx;rw[hpe]at hx;exact hx
           · cases eg:bG mi me (eF M ix) (ds.drop (i+1)) with
             |ok r=>
               rw[eg]at P3;show Po Y S E T I U1 As Z H1 M (.ok (.lst (l++[x]++r))) Q;rw[Ws];exact P3
             |exc c=>rw[eg]at P3;exact P3
             |bad=>rw[eg]at P3;exact P3
         |exc c=>
           have P3:Po Y S E T I U1 As Z H1 M (((me (some d::eF M ix)).calm.bind λx=>(bG mi me (eF M ix) (ds.drop (i+1))).bind λxs=>.ok (x::xs)).bind λr=>.ok (.lst (l++r))) Q:=t;rw[ee]at P3;exact P3.elim
         |bad=>
           have P3:Po Y S E T I U1 As Z H1 M (((me (some d::eF M ix)).calm.bind λx=>(bG mi me (eF M ix) (ds.drop (i+1))).bind λxs=>.ok (x::xs)).bind λr=>.ok (.lst (l++r))) Q:=t;rw[ee]at P3;exact P3.elim
     |exc c=>rw[eb]at t;exact t.elim
     |bad=>rw[eb]at t;exact t.elim
   · have e:i=ds.length:=by omega
     subst e;rw[Yj,bG]at t;refine .inl ⟨A.1 _ (by omega),?_⟩;have P3:Po Y S E T I U1 As Z H1 M (.ok (.lst (l++[]))) Q:=t;rw[Wc]at P3;exact fin I U1 As Z H1 M s f K Q l L p R2 g2 hp u2 hpA X (by rw[hpe];exact dz) P3
 ·rw[on z]at W;exact W.elim
theorem Bl{k k':Kd}{a:Md}{n:KT D V}{l:TI}{ix:List Nat}{m:TT}{te:TE}{src:Tp->Res (List D)}{mi:Tp->Res Bool}{me:Tp->Res D}
 (o:PJ Y (KI Y k .X) E T l src) (f:ix.Nodup) (h0:∀B U H d v,Same B U->Same U H->Dn Y (hp k B U H) d v->Lo Y B U H a (some d) (some v) [])
 (b:PJ Y KB E0 (lI a T ix) m mi) (c:PJ Y (KR Y k') E0 (lI a T ix) te me)
 (g:∀B U As Z H M I U1 H1 Q h j p,Rel Y T I U1 As Z H1 M->Gw B U H I U1 H1->H p=none->U1 p=none->(∀i,p∉As i)->H1 p=some (.lst j)->Dns Y (hp k' I U1 H1) h j->Po Y n E T B U As Z H M (.ok (.lst h)) Q->Q (.ref p) H1)
 (e:k'= .F\/k'= .U):PJ Y n E T (lZ l ix m te) (je src ix mi me):=by
 intro B U As Z H M Q R P;refine o.bnd R P λds J I U1 H1 L _ r e1 s ⟨vs,q,hd⟩ W p hp=>?_;exact Bm f h0 b c g e r q hd W p hp
theorem Ta{B U H:Hp}{d:D}{v:V}(_:Same B U)(_:Same U H)(h:Dn Y (hp .F B U H) d v):Lo Y B U H .F (some d) (some v) []:=⟨v,rfl,h,rfl⟩
theorem inU{B U H:Hp}{d:D}{v:V}(_:Same B U)(_:Same U H)(h:Dn Y (hp .U B U H) d v):Lo Y B U H .R (some d) (some v) []:=⟨v,rfl,h,rfl⟩
theorem O8{B U:Hp}{As:Nat->List Addr}{Z:St}{H:Hp}{M:Tp}{I U1 H1:Hp}{Q:VK}{b:List D}{c:List V}{p:Addr}(R:Rel Y T I U1 As Z H1 M)(g:Gw B U H I U1 H1)(hp:H p=none)(u:U1 p=none)(e:∀i,p∉As i)(h:H1 p=some (.lst c))
 (d:Dns Y (Mi.hp .F I U1 H1) b c) (P:Po Y (KO Y (.ct .fz)) E T B U As Z H M (.ok (.lst b)) Q):Q (.ref p) H1:=
 P (.ref p) I U1 H1 [p] R g ⟨by simp,λa q=>by rw[VG.mp q];exact hp,λa q=>by rw[VG.mp q];exact u⟩ (by
  show Ow Y I H1 (.lst b) (.ct .fz) (.ref p) [p];rw[Ow]
  exact⟨p,c,[],rfl,h,rfl,Ows.of d⟩)
section
variable{wi:TI}{ix:List Nat}{ti:TT}{te:TE}{src:Tp->Res (List D)}{mi:Tp->Res Bool}{me:Tp->Res D}
theorem sm:PJ Y KB E T QF (λ_=>.ok true):=λB U As Z H M Q R P=>P _ B U H [] R (Gw.refl _ _ _) New.nil rfl
theorem uP(d:PJ Y (KI Y .F .X) E T wi src)(c:ix.Nodup)(a:PJ Y KB E0 (lI .F T ix) ti mi)(b:PJ Y (KR Y .F) E0 (lI .F T ix) te me):PJ Y (KO Y (.ct .fz)) E T (lZ wi ix ti te) (je src ix mi me):=
 Bl d c (λ_ _ _ _ _=>Ta) a b (λ_ _ _ _ _ _ _ _ _ _ _ _ _=>O8) (.inl rfl)
theorem uO(d:PJ Y (KI Y .U .X) E T wi src)(c:ix.Nodup)(a:PJ Y KB E0 (lI .R T ix) ti mi)(b:PJ Y (KR Y .F) E0 (lI .R T ix) te me):PJ Y (KO Y (.ct .fz)) E T (lZ wi ix ti te) (je src ix mi me):=
 Bl d c (λ_ _ _ _ _=>inU) a b (λ_ _ _ _ _ _ _ _ _ _ _ _ _=>O8) (.inl rfl)
end
end
structure NewM (N:List Addr) (U:Hp) (As:Nat->List Addr):Prop where
 nd:N.Nodup
 un:∀a∈N,U a=none
 ap:∀a∈N,∀i,a∉As i
theorem NewM.nil{U:Hp}{As:Nat->List Addr}:NewM [] U As:=⟨Wk,λ_ h=>(nomatch h),λ_ h=>(nomatch h)⟩
def Kp(b:Nat->Bool)(Z a:St):Prop:=∀j,b j=true->rg a j=rg Z j
theorem Kp.refl(a:Nat->Bool)(Z:St):Kp a Z Z:=λ_ _=>rfl
theorem Kp.trans{e:Nat->Bool}{Z d c:St}(a:Kp e Z d)(b:Kp e d c):Kp e Z c:=λj h=>(b j h).trans (a j h)
section
variable(Y:Cm)
def Mo{W X:Type}(K:KT W X)(E:XK)(T:List Md)(B U:Hp)(Z:St)(r:Out W)(Q:X->Hp->Prop):Prop:=
 match r with
 |.ok d G=>∀v S J C H' N,Rel Y T S J C Z H' G->Ex B U S J->NewM N J C->K d v S J H' N->Q v H'
 |.exc c G=>∀S J C H',Rel Y T S J C Z H' G->Ex B U S J->∀a,E (.ref (Y c)) a H'
 |.bad=>False
def MJ{W X:Type}(K:KT W X)(E:XK)(T:List Md)(t:St->Hp->(X->Hp->Prop)->Prop)(m:Tp->Out W):Prop:=
 ∀B U As Z H M Q,Rel Y T B U As Z H M->Mo Y K E T B U Z (m M) Q->t Z H Q
def So(E:XK)(f:KT D V)(b:Nat->Bool)(T:List Md)(B U:Hp)(Z:St)(r:SO)(D:Ends):Prop:=
 match r with
 |.nx G=>∀a S J C H',Rel Y T S J C a H' G->Ex B U S J->Kp b Z a->D.nx a H'
 |.bk G=>∀a S J C H',Rel Y T S J C a H' G->Ex B U S J->Kp b Z a->D.bk a H'
 |.ct G=>∀a S J C H',Rel Y T S J C a H' G->Ex B U S J->Kp b Z a->D.ct a H'
 |.rt d G=>∀v a S J C H' N,Rel Y T S J C a H' G->Ex B U S J->Kp b Z a->NewM N J C->f d v S J H' N->D.rt v H'
 |.exc c G=>∀a S J C H',Rel Y T S J C a H' G->Ex B U S J->Kp b Z a->∀e,E (.ref (Y c)) e H'
 |.bad=>False
def SJ(E:XK)(b:KT D V)(a:Nat->Bool)(T:List Md)(t:TS)(m:Tp->SO):Prop:=
 ∀B U As Z H M D,Rel Y T B U As Z H M->So Y E b a T B U Z (m M) D->t D Z H
end
section
variable{Y:Cm}{E:XK}{Kr:KT D V}{pr:Nat->Bool}{T:List Md}{K:F0}{B U H I U1 H1:Hp}{As:Nat->List Addr}{Z σ1:St}{M:Tp}
theorem Mo.at{W X:Type}{K:KT W X}{r:Out W}{Q:X->Hp->Prop}(P:Mo Y K E T B U Z r Q)(e:Ex B U I U1):Mo Y K E T I U1 Z r Q:=by
 cases r with
 |ok d G=>exact λv S J C H' N b a f k=>P v S J C H' N b (e.trans a) f k
 |exc c G=>exact λS J C H' b a=>P S J C H' b (e.trans a)
 |bad=>exact P
theorem So.at{r:SO}{D:Ends}(P:So Y E Kr pr T B U Z r D)(e:Ex B U I U1)(k:Kp pr Z σ1):So Y E Kr pr T I U1 σ1 r D:=by
 cases r with
 |nx G=>exact λa S J C H' f b k'=>P a S J C H' f (e.trans b) (k.trans k')
 |bk G=>exact λa S J C H' f b k'=>P a S J C H' f (e.trans b) (k.trans k')
 |ct G=>exact λa S J C H' f b k'=>P a S J C H' f (e.trans b) (k.trans k')
 |rt d G=>exact λv a S J C H' N f b k'=>P v a S J C H' N f (e.trans b) (k.trans k')
 |exc c G=>exact λa S J C H' f b k'=>P a S J C H' f (e.trans b) (k.trans k')
 |bad=>exact P
theorem bc{W X:Type}{K:KT W X}{t:St->Hp->(X->Hp->Prop)->Prop}{m:Tp->Res W}(h:PJ Y K E T t m):MJ Y K E T t (λM=>(m M).up M):=by
 intro B U As Z H M Q R P;replace P:Mo Y K E T B U Z ((m M).up M) Q:=P;refine h B U As Z H M Q R ?_;cases e:m M with
 |ok d=>
   rw[e]at P;exact λv S J H' N a g n k=>P v S J As H' N a g.toEx ⟨n.nd,n.un,R.apart n⟩ k
 |exc c=>
   rw[e]at P;exact λS J H' a g=>P S J As H' a g.toEx
 |bad=>rw[e]at P;exact P
theorem MJ.imp{W X:Type}{K b:KT W X}{t:St->Hp->(X->Hp->Prop)->Prop}{m:Tp->Out W}(h:MJ Y K E T t m)(f:∀B U As Z H M d v N,Rel Y T B U As Z H M->K d v B U H N->b d v B U H N):MJ Y b E T t m:=by
 intro B U As Z H M Q R P;refine h B U As Z H M Q R ?_;cases e:m M with
 |ok d G=>rw[e]at P;exact λv S J C H' N a i g k=>P v S J C H' N a i g (f _ _ _ _ _ _ _ _ _ a k)
 |exc c G=>rw[e]at P;exact P
 |bad=>rw[e]at P;exact P
theorem mfu{t:TE}{m:Tp->Out D}(h:MJ Y (KR Y .F) E T t m):MJ Y (KR Y .U) E T t m:=h.imp λ_ _ _ _ _ _ _ _ _ R q=>Dn.mono R.bu q
theorem mux{t:TE}{m:Tp->Out D}(h:MJ Y (KR Y .U) E T t m):MJ Y (KR Y .X) E T t m:=h.imp λ_ _ _ _ _ _ _ _ _ R q=>Dn.mono R.uh q
theorem MJ.bnd{W X L J:Type}{g:KT W X}{f:KT L J}{d:St->Hp->(X->Hp->Prop)->Prop}{b:Tp->Out W}(l:MJ Y g E T d b)(R:Rel Y T B U As Z H M){k:W->Tp->Out L}{Q:J->Hp->Prop}
 (P:Mo Y f E T B U Z ((b M).bind k) Q) {body:X->Hp->Prop}
 (h:∀x G v I U1 a H1 N,Rel Y T I U1 a Z H1 G->Ex B U I U1->NewM N U1 a->g x v I U1 H1 N->Mo Y f E T I U1 Z (k x G) Q->body v H1):d Z H body:=by
 refine l B U As Z H M body R ?_;cases e:b M with
 |ok x G=>
   rw[e]at P;exact λv I U1 a H1 N m e1 i j=>h x G v I U1 a H1 N m e1 i j (Mo.at (r:=k x G) P e1)
 |exc c G=>rw[e]at P;exact P
 |bad=>rw[e]at P;exact P
theorem MJ.bndS{W X:Type}{f:KT W X}{d:St->Hp->(X->Hp->Prop)->Prop}{b:Tp->Out W}(j:MJ Y f E T d b)(R:Rel Y T B U As Z H M){k:W->Tp->SO}{D:Ends}
 (P:So Y E Kr pr T B U Z (gD (b M) k) D) {body:X->Hp->Prop}
 (h:∀x G v I U1 a H1 N,Rel Y T I U1 a Z H1 G->Ex B U I U1->NewM N U1 a->f x v I U1 H1 N->So Y E Kr pr T I U1 Z (k x G) D->body v H1):d Z H body:=by
 refine j B U As Z H M body R ?_;cases e:b M with
 |ok x G=>
   rw[e]at P;exact λv I U1 a H1 N m e1 g i=>h x G v I U1 a H1 N m e1 g i (So.at (r:=k x G) P e1 (Kp.refl _ _))
 |exc c G=>rw[e]at P;exact λS J C H' n l=>P Z S J C H' n l (Kp.refl _ _)
 |bad=>rw[e]at P;exact P
theorem dH{W:Type}{l:List (Option W)}{i j:Nat}{x:Option W}:rg (l.set i x) j=if i=j/\i<l.length then x else rg l j:=by
 unfold rg;rw[List.getElem?_set];by_cases e:i=j
 · subst e;by_cases h:i<l.length
   ·rw[Vq rfl,Vq h,Vq ⟨rfl,h⟩];rfl
   ·rw[Vq rfl,on h,on λz=>h z.2,VP (by omega)]
 ·rw[on e,on λz=>e z.1]
theorem Rel.store(R:Rel Y T B U As Z H M){i:Nat}{d:D}{v:V}{N:List Addr}(n:NewM N U As)(l:Lo Y B U H (T.getD i .F) (some d) (some v) N):
 ∃C,Rel Y T B U C (Z.set i (some v)) H (M.set i (some d)):=by
 by_cases hi:i<M.length
 · refine⟨λj=>if j=i then N else As j,R.bu,R.uh,λj=>?_,λj k a f b c=>?_,λj a b=>?_,λj=>?_,by rw[VT,VT];exact R.len,R.tb⟩
   · show(if j=i then N else As j).Nodup;split
     ·exact n.nd
     ·exact R.nd j
   · replace b:a∈(if j=i then N else As j):=b;replace c:a∈(if k=i then N else As k):=c;split at b
     · split at c
       ·rename_i h g;exact f (h.trans g.symm)
       ·exact n.ap a b k c
     · split at c
       ·exact n.ap a c j b
       ·exact R.dj j k a f b c
   · replace b:a∈(if j=i then N else As j):=b;split at b
     ·exact n.un a b
     ·exact R.un j a b
   · rw[dH,dH];show Lo Y B U H (T.getD j .F) _ _ (if j=i then N else As j);by_cases e:i=j
     ·subst e;rw[Vq ⟨rfl,hi⟩,Vq ⟨rfl,by rw[<-R.len];exact hi⟩,Vq rfl];exact l
     ·rw[on λz=>e z.1,on λz=>e z.1,on λz=>e z.symm];exact R.lo j
 ·have g:=R.len;have e1:Z.set i (some v)=Z:=Yb (by omega);have m:M.set i (some d)=M:=Yb (by omega);rw[e1,m];exact⟨As,R⟩
theorem Kp.set{i:Nat}{x:Option V}(h:pr i=false):Kp pr Z (Z.set i x):=λj a=>by
 rw[dH,on];rintro⟨e,_⟩;rw[e,a]at h;cases h
theorem KY{f:KT D V}{i:Nat}{te:TE}{m:Tp->Out D}(h:MJ Y f E T te m)(n:∀B U H d v N,f d v B U H N->∃a,(a=[]\/a=N)/\Lo Y B U H (T.getD i .F) (some d) (some v) a)(hp:pr i=false):SJ Y E Kr pr T (wU te (fE i)) (bN i m):=by
 intro B U As Z H M D R P;refine h.bndS R P λx G v I U1 c H1 N p e1 j k W=>?_;obtain⟨a,o,l⟩:=n I U1 H1 x v N k
 have g:NewM a U1 c:=by
  rcases o with e|e
  ·subst e;exact NewM.nil
  ·subst e;exact j
 obtain⟨b,R2⟩:=p.store g l;exact W _ I U1 b H1 R2 (Ex.refl _ _) (Kp.set hp)
theorem bq{i:Nat}{te:TE}{m:Tp->Out D}(h:MJ Y (KR Y .F) E T te m)(a:T.getD i .F= .F)(hp:pr i=false):SJ Y E Kr pr T (wU te (fE i)) (bN i m):=
 KY h (λB U H d v N k=>⟨[],.inl rfl,by rw[a];exact⟨v,rfl,k,rfl⟩⟩) hp
theorem fq{i:Nat}{s:Sh}{te:TE}{m:Tp->Out D}(h:MJ Y (KO Y s) E T te m)(a:T.getD i .F= .O s)(hp:pr i=false):SJ Y E Kr pr T (wU te (fE i)) (bN i m):=
 KY h (λB U H d v N k=>⟨N,.inr rfl,by rw[a];exact⟨v,rfl,k⟩⟩) hp
theorem cw:SJ Y E Kr pr T KJ bT:=λB U As Z H M D R P=>P Z B U As H R (Ex.refl _ _) (Kp.refl _ _)
theorem ao{t u:TS}{m n:Tp->SO}(h:SJ Y E Kr pr T t m)(k:SJ Y E Kr pr T u n):SJ Y E Kr pr T (QH t u) (aw m n):=by
 intro B U As Z H M D R P;refine h B U As Z H M _ R ?_;unfold aw at P;cases e:m M with
 |nx G=>rw[e]at P;exact λa S J C H' f b kp=>k S J C a H' G D f (So.at P b kp)
 |bk G=>rw[e]at P;exact P
 |ct G=>rw[e]at P;exact P
 |rt d G=>rw[e]at P;exact P
 |exc c G=>rw[e]at P;exact P
 |bad=>rw[e]at P;exact P
theorem aI{c:KT D V}{te:TE}{m:Tp->Out D}(h:MJ Y c E T te m):SJ Y E Kr pr T (KM te) (aY m):=by
 intro B U As Z H M D R P;refine h.bndS R P λx G v I U1 a H1 N b e1 d e W=>?_;exact W Z I U1 a H1 b (Ex.refl _ _) (Kp.refl _ _)
theorem bC{te:TE}{m:Tp->Out D}(h:MJ Y Kr E T te m):SJ Y E Kr pr T (L1 te) (cq m):=by
 intro B U As Z H M D R P;refine h.bndS R P λx G v I U1 a H1 N d e1 b c W=>?_;exact W v Z I U1 a H1 N d (Ex.refl _ _) (Kp.refl _ _) b c
theorem Mx(h:∀B U H,Kr .non .non B U H []):SJ Y E Kr pr T KF MR:=λB U As Z H M D R P=>P .non Z B U As H [] R (Ex.refl _ _) (Kp.refl _ _) NewM.nil (h _ _ _)
theorem dE{c:TT}{t u:TS}{mc:Tp->Out Bool}{m n:Tp->SO}(e:MJ Y KB E T c mc)(h:SJ Y E Kr pr T t m)(k:SJ Y E Kr pr T u n):SJ Y E Kr pr T (QK c t u) (jo mc m n):=by
 intro B U As Z H M D R P;refine e.bndS R P λx G v I U1 a H1 N b e1 f d W=>?_;cases d;cases x with
 |true=>exact h I U1 a Z H1 G D b W
 |false=>exact k I U1 a Z H1 G D b W
theorem eI:SJ Y E Kr pr T De (λ_=>.bad):=λ_ _ _ _ _ _ _ _ P=>P
def TJ(Y:Cm)(k:Kd)(pr:Nat->Bool)(T:List Md)(g:TG)(c:D->Tp->Option Tp):Prop:=∀B U As Z H M d v a Q,Rel Y T B U As Z H M->Dn Y (hp k B U H) d v->c d M=some a->(∀σ1 b,Rel Y T B U b σ1 H a->Kp pr Z σ1->Q σ1 H)->g v Z H Q
theorem Kz{i:Nat}(c:T.getD i .F= .F)(hp:pr i=false):TJ Y .F pr T (fE i) (wT i):=by
 intro B U As Z H M d v b Q R hd e h;cases e;obtain⟨a,R2⟩:=R.store (i:=i) (d:=d) (v:=v) NewM.nil (by rw[c];exact⟨v,rfl,hd,rfl⟩);exact h _ a R2 (Kp.set hp)
theorem QC{i:Nat}(c:T.getD i .F= .R)(hp:pr i=false):TJ Y .U pr T (fE i) (wT i):=by
 intro B U As Z H M d v b Q R hd e h;cases e;obtain⟨a,R2⟩:=R.store (i:=i) (d:=d) (v:=v) NewM.nil (by rw[c];exact⟨v,rfl,hd,rfl⟩);exact h _ a R2 (Kp.set hp)
theorem QD{i:Nat}(b:T.getD i .F= .R)(hp:pr i=false):TJ Y .F pr T (fE i) (wT i):=λB U As Z H M d v a Q R hd e h=>QC b hp B U As Z H M d v a Q R (Dn.mono R.bu hd) e h
theorem tg2{k:Kd}{i j:Nat}(hi:TJ Y k pr T (fE i) (wT i))(w:TJ Y k pr T (fE j) (wT j)):TJ Y k pr T (Te K 2 (GC (fE i) (GC (fE j) Tg))) (L0 i j):=by
 intro B U As Z H M d v p Q R hd e h;cases d with
 |tup ds=>
   rcases ds with _|⟨x,_|⟨y,_|⟨z,ds⟩⟩⟩
   ·cases e
   ·cases e
   ·cases e;rw[Dn]at hd;obtain⟨a,xs,rfl,A,o⟩:=hd;rw[Dns]at o;obtain⟨f,r,rfl,u,n⟩:=o;rw[Dns]at n;obtain⟨b,D,rfl,t,m⟩:=n;rw[Dns]at m;subst m;refine⟨a,[f,b],rfl,SqT.of (R.hp k _ _ A),rfl,f,[b],rfl,?_⟩;refine hi B U As Z H M x f _ _ R u rfl λσ1 l C s=>⟨b,[],rfl,?_⟩;exact w B U l σ1 H _ y b _ _ C t rfl λc g R2 q=>⟨rfl,h c g R2 (s.trans q)⟩
   ·cases e
 |_=>cases e
theorem iw{k:Kd}{wi:TI}{g:TG}{tb:TS}{src:Tp->Out (List D)}{Q:D->Tp->Option Tp}{body:Tp->SO}(hs:MJ Y (KI Y k .U) E T wi src)(hk:k= .F\/k= .U)(hg:TJ Y k pr T g Q)(hb:SJ Y E Kr pr T tb body):
 SJ Y E Kr pr T (QL wi g tb) (fW src Q body):=by
 intro B U As Z H M D R P;refine hs.bndS R P λds ρ0 J I U1 As1 H1 N R1 e1 n1 ⟨vs,hJ,hd⟩ W=>?_;have hvl:ds.length=vs.length:=hd.len
 have hp1:∀{p o H2:Hp},Ex I U1 p o->Same (hp k I U1 H1) (hp k p o H2):=λe=>by
  rcases hk with z|z<;>subst z
  ·exact e.b
  ·exact e.u
 refine⟨λi m r H'=>i<=ds.length/\m=ds.length-i/\∃p o n h,Rel Y T p o n r H' h/\Ex I U1 p o/\Kp pr Z r/\So Y E Kr pr T I U1 Z (sW Q body (ds.drop i) h) D,⟨_,WD _,rfl,I,U1,As1,ρ0,R1,Ex.refl _ _,Kp.refl _ _,W⟩,?_⟩;rintro i m r H' ⟨hi,rfl,p,o,n,h,R2,C,L,a⟩;have hj:=hJ H' (C.u.trans R2.uh);by_cases V:i<ds.length
 · refine .inr ⟨hj.2.1 i (by omega),λq X=>i+1<=ds.length/\∃p o n h,Rel Y T p o n q X h/\Ex I U1 p o/\Kp pr Z q/\So Y E Kr pr T I U1 Z (sW Q body (ds.drop (i+1)) h) D,λq X ⟨h1,h2⟩=>⟨ds.length-(i+1),by omega,h1,rfl,h2⟩,λx Hx hy=>?_⟩;obtain⟨rfl,ev⟩:=hj.2.2 i x Hx (by omega) hy;obtain⟨d,ed,dd⟩:=hd.geti ev;rw[lT ed,sW]at a;cases et:Q d h with
   |none=>rw[et]at a;exact a.elim
   |some G=>
     rw[et]at a;refine hg p o n r Hx h d x G _ R2 (Dn.mono (hp1 C) dd) et λσ3 As3 R3 S=>?_;refine hb p o As3 σ3 Hx G _ R3 ?_;dsimp only at a;cases O:body G with
     |nx l=>
       rw[O]at a;exact λj A w f K y t s=>⟨V,A,w,f,l,y,C.trans t,(L.trans S).trans s,a⟩
     |ct l=>
       rw[O]at a;exact λj A w f K y t s=>⟨V,A,w,f,l,y,C.trans t,(L.trans S).trans s,a⟩
     |bk l=>
       rw[O]at a;exact λj A w f K y t s=>a j A w f K y (C.trans t) ((L.trans S).trans s)
     |rt d l=>
       rw[O]at a;exact λv j A w f K N y t s=>a v j A w f K N y (C.trans t) ((L.trans S).trans s)
     |exc c l=>
       rw[O]at a;exact λj A w f K y t s=>a j A w f K y (C.trans t) ((L.trans S).trans s)
     |bad=>rw[O]at a;exact a.elim
 · have e:i=ds.length:=by omega
   subst e;rw[Yj,sW]at a;exact .inl ⟨hj.1 _ (by omega),a r p o n H' R2 C L⟩
theorem zo{c:TT}{tb:TS}{mc:Tp->Out Bool}{body:Tp->SO}(n:Nat)(W:MJ Y KB E T c mc)(X:SJ Y E Kr pr T tb body):SJ Y E Kr pr T (Dd c tb) (za mc body n):=by
 intro B U As Z H M D R P;refine⟨λm i H'=>∃S K C p,Rel Y T S K C i H' p/\Ex B U S K/\Kp pr Z i/\So Y E Kr pr T B U Z (za mc body m p) D,⟨n,B,U,As,M,R,Ex.refl _ _,Kp.refl _ _,P⟩,?_⟩;rintro m i H' ⟨S,K,C,p,R2,z,y,b⟩;cases m with
 |zero=>exact b.elim
 |succ m=>
   rw[za]at b;refine W S K C i H' p _ R2 ?_;cases e:mc p with
   |ok x q=>
     rw[e]at b;intro v Q J u O N L w n3 V;cases V;cases x with
     |false=>
       rw[on VD];exact b i Q J u O L (z.trans w) y
     |true=>
       rw[Vq rfl]
       have b:So Y E Kr pr T B U Z (match body q with
        |.nx G=>za mc body m G
        |.ct G=>za mc body m G
        |.bk G=>.nx G
        |o=>o) D:=b
       refine⟨λl I=>∃k j a f,Rel Y T k j a l I f/\Ex B U k j/\Kp pr Z l/\So Y E Kr pr T B U Z (za mc body m f) D,λl I h=>⟨m,Xi m,h⟩,?_⟩;refine X Q J u i O q _ L ?_;cases F:body q with
       |nx f=>
         rw[F]at b;exact λg k j a A t s r=>⟨k,j,a,f,t,(z.trans w).trans s,y.trans r,b⟩
       |ct f=>
         rw[F]at b;exact λg k j a A t s r=>⟨k,j,a,f,t,(z.trans w).trans s,y.trans r,b⟩
       |bk f=>
         rw[F]at b;exact λg k j a A t s r=>b g k j a A t ((z.trans w).trans s) (y.trans r)
       |rt d f=>
         rw[F]at b;exact λv g k j a A N t s r=>b v g k j a A N t ((z.trans w).trans s) (y.trans r)
       |exc c f=>
         rw[F]at b;exact λg k j a A t s r=>b g k j a A t ((z.trans w).trans s) (y.trans r)
       |bad=>rw[F]at b;exact b.elim
   |exc c q=>rw[e]at b;exact λQ J u O L w=>b i Q J u O L (z.trans w) y
   |bad=>rw[e]at b;exact b.elim
end
inductive Ap where
 |F|U|X|O (i:Nat)|Bo (i:Nat)
deriving DecidableEq
def cK:List Ap->Nat->Tp->Tp->Tp
 |[],_,_,M=>M
 |.O i::r,j,a,M=>cK r (j+1) a (M.set i (rg a j))
 |_::r,j,a,M=>cK r (j+1) a M
def cC(a:List Ap)(e:List D->Out D)(ds:List D)(M:Tp):Out D:=match e ds with
 |.ok d b=>.ok d (cK a 0 b M)
 |.exc c b=>.exc c (cK a 0 b M)
 |.bad=>.bad
def f9(a:List D->Out D)(ds:List D):Res D:=match a ds with
 |.ok d _=>.ok d
 |.exc c _=>.exc c
 |.bad=>.bad
def gh(T:List Md)(M:Tp):Tp:=(List.range T.length).map λi=>match T.getD i .F with | .O _=>rg M i|_=>none
section
variable(Y:Cm)
def wN(T:List Md)(e:KT D V)(b:List D->Out D):Sp:=λvs H Q E=>∃B U As ds,Rel Y T B U As (vs.map some) H (ds.map some)/\vs.length=T.length/\match b ds with
 |.ok d G=>∀v S J C H' N,Rel Y T S J C (vs.map some) H' (gh T G)->Ex B U S J->NewM N J C->e d v S J H' N->Q v H'
 |.exc c G=>∀S J C H',Rel Y T S J C (vs.map some) H' (gh T G)->Ex B U S J->∀a,E (.ref (Y c)) a H'
 |.bad=>False
def A1(p:Ap)(B U H:Hp)(Z:St)(M:Tp)(d:D)(v:V):Prop:=match p with
 |.F=>Dn Y B d v
 |.U=>Dn Y U d v
 |.X=>Dn Y H d v
 |.O i=>rg Z i=some v/\rg M i=some d
 |.Bo i=>rg Z i=some v/\rg M i=some d
def Ag(B U H:Hp)(Z:St)(M:Tp):List Ap->List D->List V->Prop
 |[],ds,vs=>ds=[]/\vs=[]
 |p::ps,ds,vs=>∃d a v vr,ds=d::a/\vs=v::vr/\A1 Y p B U H Z M d v/\Ag B U H Z M ps a vr
end
section
variable{Y:Cm}{E:XK}{T:List Md}{B U H:Hp}{As:Nat->List Addr}{Z:St}{M:Tp}
theorem A1.mono{p:Ap}{S J H':Hp}{d:D}{v:V}(h:A1 Y p B U H Z M d v)(g:Gw B U H S J H'):A1 Y p S J H' Z M d v:=by
 cases p with
 |F=>exact Dn.mono g.b h
 |U=>exact Dn.mono g.u h
 |X=>exact Dn.mono g.h h
 |O i=>exact h
 |Bo i=>exact h
def A1J(Y:Cm)(E:XK)(T:List Md)(p:Ap)(t:TE)(m:Tp->Res D):Prop:=∀B U As Z H M Q,Rel Y T B U As Z H M->Po Y (λd v B U H _=>A1 Y p B U H Z M d v) E T B U As Z H M (m M) Q->t Z H Q
def AJ(Y:Cm)(E:XK)(T:List Md)(ps:List Ap)(t:TA)(m:Tp->Res (List D)):Prop:=∀B U As Z H M Q,Rel Y T B U As Z H M->Po Y (λd v B U H _=>Ag Y B U H Z M ps d v) E T B U As Z H M (m M) Q->t Z H Q
theorem aF{t:TE}{m:Tp->Res D}(h:PJ Y (KR Y .F) E T t m):A1J Y E T .F t m:=λB U As Z H M Q R P=>h B U As Z H M Q R P
theorem aU{t:TE}{m:Tp->Res D}(h:PJ Y (KR Y .U) E T t m):A1J Y E T .U t m:=λB U As Z H M Q R P=>h B U As Z H M Q R P
theorem aX{t:TE}{m:Tp->Res D}(h:PJ Y (KR Y .X) E T t m):A1J Y E T .X t m:=λB U As Z H M Q R P=>h B U As Z H M Q R P
theorem Qf{i:Nat}{p:Ap}(hp:∀B U H Z M d v,rg Z i=some v->rg M i=some d->A1 Y p B U H Z M d v):A1J Y E T p (dD i) (vr i):=by
 intro B U As Z H M Q R P;unfold vr at P;have l:=R.lo i;cases e:rg M i with
 |none=>rw[e]at P;exact P.elim
 |some d=>
   rw[e]at P l;obtain⟨v,a,q⟩:=l;exact⟨v,ci a,P v B U H [] R (Gw.refl _ _ _) New.nil (hp _ _ _ _ _ _ _ a e)⟩
theorem aO{i:Nat}:A1J Y E T (.O i) (dD i) (vr i):=Qf λ_ _ _ _ _ _ _ h k=>⟨h,k⟩
theorem aD:AJ Y E T [] dh a7:=λB U As Z H M Q R P=>P [] B U H [] R (Gw.refl _ _ _) New.nil ⟨rfl,rfl⟩
theorem A1J.bnd{p:Ap}{L J:Type}{d:KT L J}{b:TE}{a:Tp->Res D}(g:A1J Y E T p b a)(R:Rel Y T B U As Z H M){k:D->Res L}{Q:J->Hp->Prop}
 (P:Po Y d E T B U As Z H M ((a M).bind k) Q) {body:V->Hp->Prop}
 (h:∀x v I U1 H1,Rel Y T I U1 As Z H1 M->Gw B U H I U1 H1->A1 Y p I U1 H1 Z M x v->Po Y d E T I U1 As Z H1 M (k x) Q->body v H1):b Z H body:=by
 refine g B U As Z H M body R ?_;cases e:a M with
 |ok x=>
   rw[e]at P;exact λv I U1 H1 N i e1 j f=>h x v I U1 H1 i e1 f (Po.at (r:=k x) P e1)
 |exc c=>rw[e]at P;exact P
 |bad=>rw[e]at P;exact P
theorem AJ.bnd{ps:List Ap}{L J:Type}{d:KT L J}{b:TA}{a:Tp->Res (List D)}(g:AJ Y E T ps b a)(R:Rel Y T B U As Z H M){k:List D->Res L}{Q:J->Hp->Prop}
 (P:Po Y d E T B U As Z H M ((a M).bind k) Q) {body:List V->Hp->Prop}
 (h:∀x v I U1 H1,Rel Y T I U1 As Z H1 M->Gw B U H I U1 H1->Ag Y I U1 H1 Z M ps x v->Po Y d E T I U1 As Z H1 M (k x) Q->body v H1):b Z H body:=by
 refine g B U As Z H M body R ?_;cases e:a M with
 |ok x=>
   rw[e]at P;exact λv I U1 H1 N i e1 j f=>h x v I U1 H1 i e1 f (Po.at (r:=k x) P e1)
 |exc c=>rw[e]at P;exact P
 |bad=>rw[e]at P;exact P
theorem af{p:Ap}{ps:List Ap}{b:TE}{a:TA}{d:Tp->Res D}{c:Tp->Res (List D)}(f:A1J Y E T p b d)(e:AJ Y E T ps a c):AJ Y E T (p::ps) (bL b a) (aB d c):=by
 intro B U As Z H M Q R P;refine f.bnd R P λx v I U1 H1 k e1 i W=>e.bnd k W λy u n j m R2 g h l=>?_;exact l (v::u) n j m [] R2 (Gw.refl _ _ _) New.nil ⟨x,y,v,u,rfl,rfl,i.mono g,h⟩
def sX(T:List Md)(pure:Bool):Ap->Md->Bool
 |.F,.F=>true
 |.F,.R=>true
 |.U,.R=>true
 |.X,.R=>pure
 |.Bo _,.R=>true
 |_,_=>false
theorem Ag.len:∀{ps:List Ap} {ds:List D} {vs:List V},Ag Y B U H Z M ps ds vs->ds.length=ps.length/\vs.length=ps.length
 |[],_,_,h=>by obtain⟨rfl,rfl⟩:=h;exact⟨rfl,rfl⟩
 | p::ps,_,_,h=>by
   obtain⟨d,a,v,vr,rfl,rfl,_,h⟩:=h
   have:=Ag.len h
   exact⟨by rw[Vx,Vx,this.1],by rw[Vx,Vx,this.2]⟩
theorem Ag.get:∀{ps:List Ap} {ds:List D} {vs:List V} {j:Nat} {p:Ap},Ag Y B U H Z M ps ds vs->ps[j]?=some p->∃d v,ds[j]?=some d/\vs[j]?=some v/\A1 Y p B U H Z M d v
 |[],_,_,_,_,_,e=>by cases e
 | p::ps,_,_,j,q,h,e=>by
   obtain⟨d,b,v,vr,rfl,rfl,a,h⟩:=h;cases j with
   |zero=>cases e;exact⟨d,v,rfl,rfl,a⟩
   |succ j=>exact Ag.get (j:=j) h (by simpa using e)
theorem eJ{W:Type}{l:List W}{i:Nat}:rg (l.map some) i=l[i]?:=by
 unfold rg;rw[List.getElem?_map];cases l[i]?<;>rfl
theorem Rel.read(R:Rel Y T B U As Z H M){i:Nat}{d:D}{v:V}(a:rg Z i=some v)(hd:rg M i=some d):Dn Y H d v:=by
 have l:=R.lo i;rw[hd]at l;have q:=hC l a;cases e:T.getD i .F with
 |F=>rw[e]at q;exact Dn.mono R.bh q.1
 |R=>rw[e]at q;exact Dn.mono R.uh q.1
 |O s=>rw[e]at q;exact Ow.dn R.bh (λ_ _ _ q=>q) q
theorem A1.read(R:Rel Y T B U As Z H M){p:Ap}{d:D}{v:V}(h:A1 Y p B U H Z M d v):Dn Y H d v:=by
 cases p with
 |F=>exact Dn.mono R.bh h
 |U=>exact Dn.mono R.uh h
 |X=>exact h
 |O i=>exact R.read h.1 h.2
 |Bo i=>exact R.read h.1 h.2
def ov(B U:Hp):Hp:=λa=>match B a with|some o=>some o|none=>U a
theorem wz{f:List Md}{y:KT D V}{L:List D->Out D}{ps:List Ap}{ds:List D}{vs:List V}{Q:VK}(R:Rel Y T B U As Z H M)(A:Ag Y B U H Z M ps ds vs)(hl:ps.length=f.length)
 (hf:∀(j:Nat) p,ps[j]?=some p->sX T true p (f.getD j .F)=true) (hU:∀d v B U J H N,y d v B U H N->y d v B J H N) (P:Po Y y E T B U As Z H M (f9 L ds) Q):wN Y f y L vs H Q E:=by
 have n:=A.len
 have Rc:Rel Y f B H (λ_=>[]) (vs.map some) H (ds.map some):=by
  refine⟨R.bh,Same.refl _,λ_=>Wk,λ_ _ _ _ h=>(nomatch h),λ_ _ h=>(nomatch h),λj=>?_,by rw[Vs,Vs,n.1,n.2],R.tb⟩;rw[eJ,eJ];cases e:ps[j]? with
  |none=>
    have:ps.length<=j:=WW.mp e
    rw[VP (by omega)];rfl
  |some p=>
    obtain⟨d,v,ed,ev,t⟩:=A.get e;rw[ed,ev];refine⟨v,rfl,?_⟩;have hr:=A1.read R t;have q:=hf j p e;cases em:f.getD j .F with
    |F=>
      rw[em]at q;cases p with
      |F=>exact⟨t,rfl⟩
      |_=>cases q
    |R=>exact⟨hr,rfl⟩
    |O s=>rw[em]at q;cases p<;>cases q
 refine⟨B,H,λ_=>[],ds,Rc,by omega,?_⟩
 have m:∀{S J H':Hp} {C:Nat->List Addr} {x:Tp},Rel Y f S J C (vs.map some) H' x->Ex B H S J->Rel Y T S (ov S U) As Z H' M/\Gw B U H S (ov S U) H':=λ{S J H' C x} l g=>by
  have same:∀a o,U a=some o->∀o',S a=some o'->o'=o:=λa o q o' w=>by
   have t:=g.u a o (R.uh a o q);have X:=l.bu a o' w;rw[t]at X;exact(VO X).symm
  have W:Same U (ov S U):=λa o q=>by
   unfold ov;cases z:S a with
   |none=>exact q
   |some o'=>rw[same a o q o' z]
  have sh:Same H H':=g.u.trans l.uh
  have uh:Same (ov S U) H':=λa o q=>by
   unfold ov at q;cases z:S a with
   |none=>rw[z]at q;exact sh a o (R.uh a o q)
   |some o'=>rw[z]at q;cases q;exact l.bh a _ z
  have bu:Same S (ov S U):=λa o q=>by unfold ov;rw[q]
  have new:∀a o,S a=some o->B a=some o\/H a=none\/fD o:=g.nb;refine⟨R.grow g.b W sh bu uh λi a r=>?_,⟨g.b,W,λa o q=>?_⟩,sh,λa o q=>?_⟩
  · unfold ov;cases z:S a with
    |none=>exact R.un i a r
    |some o=>
      obtain⟨o',w⟩:=R.at r;rcases new a o z with q|q|q
      ·have:=R.bu a o q;rw[R.un i a r]at this;cases this
      ·rw[q]at w;cases w
      ·have e1:=sh _ _ w;rw[l.bh a o z]at e1;cases e1;exact(R.nt r w q).elim
  · rcases new a o q with q|q|q
    ·exact .inl q
    ·exact .inr (.inl (R.uh.free q))
    ·exact .inr (.inr q)
  · unfold ov at q;cases z:S a with
    |none=>rw[z]at q;exact .inl q
    |some o'=>
      rw[z]at q;cases q;rcases new a _ z with q|q
      ·exact .inl (R.bu a _ q)
      ·exact .inr q
 cases e:L ds with
 |ok d G=>
   unfold f9 at P;rw[e]at P;intro v S J C H' N l g I k;obtain⟨R2,K⟩:=m l g;refine P v S _ H' N R2 K ⟨I.nd,λa r=>g.u.free (I.un a r),λa r=>?_⟩ (hU d v S J (ov S U) H' N k);unfold ov;have t:=I.un a r;cases z:S a with
   |none=>exact R.uh.free (g.u.free t)
   |some o=>have:=l.bu a o z;rw[t]at this;cases this
 |exc c G=>
   unfold f9 at P;rw[e]at P;intro S J C H' l g;obtain⟨R2,K⟩:=m l g;exact P S _ H' R2 K
 |bad=>
   unfold f9 at P;rw[e]at P;exact P
theorem hF{d:D}{v:V}{B U J H:Hp}{N:List Addr}(h:KR Y .F d v B U H N):KR Y .F d v B J H N:=h
theorem hO{s:Sh}{d:D}{v:V}{B U J H:Hp}{N:List Addr}(h:KO Y s d v B U H N):KO Y s d v B J H N:=h
theorem EU{a:List Md}{b:KT D V}{c:List D->Out D}{ps:List Ap}{t:TA}{m:Tp->Res (List D)}(h:AJ Y E T ps t m)(e:ps.length=a.length)
 (f:∀(j:Nat) p,ps[j]?=some p->sX T true p (a.getD j .F)=true) (g:∀d v B U J H N,b d v B U H N->b d v B J H N):PJ Y b E T (qB (wN Y a b c) [] E t) (λM=>(m M).bind (f9 c)):=by
 intro B U As Z H M Q R P;refine h.bnd R P λds vs I U1 H1 i e1 A W=>?_;rw[Wc];exact wz i A e f g W
def bH(c:Nat)(m:Str):D->Bool
 |.obj a ns _=>decide (a=c)&&!ns.contains m
 |_=>false
theorem ml{m:Str}:∀{fs:List (Str×V)},(fs.map (·.1)).contains m=false->fs.lookup m=none
 |[],_=>rfl
 | p::fs,h=>by
   rw[Vr,List.contains_cons,Bool.or_eq_false_iff]at h;rw[V4,h.1];exact ml h.2
theorem jm{c:Nat}{m:Str}{d:D}{v:V}(h:bH c m d=true)(hd:Dn Y H d v):∃a dx fs,v=.ref a/\H a=some (.ins (Y c) dx fs)/\fs.lookup m=none:=by
 cases d with
 |obj g ns ds=>
   have h:(decide (g=c)&&!ns.contains m)=true:=h;rw[Xk]at h;have e:=XB h.1;subst e;rw[Dn]at hd;obtain⟨a,dx,fs,r,f,b,_⟩:=hd;refine⟨a,dx,fs,r,f,ml ?_⟩;rw[b];simpa using h.2
 |_=>cases h
theorem EO{c:Nat}{f:Str}{b:List Md}{e:KT D V}{k:List D->Out D}{p:Ap}{ps:List Ap}{g:TE}{i:Tp->Res D}{t:TA}{m:Tp->Res (List D)}(u:A1J Y E T p g i)(h:AJ Y E T ps t m)(r:(p::ps).length=b.length)
 (s:∀(j:Nat) q,(p::ps)[j]?=some q->sX T true q (b.getD j .F)=true) (w:∀d v B U J H N,e d v B U H N->e d v B J H N):
 PJ Y e E T (iL (Y c) f (wN Y b e k) [] E g t) (λM=>(i M).bind λo=>if bH c f o=true then (m M).bind λds=>f9 k (o::ds) else .bad):=by
 intro B U As Z H M Q R P;refine u.bnd R P λo v I U1 H1 n e1 l W=>?_;by_cases z:bH c f o=true
 ·rw[Vq z]at W;obtain⟨a,dx,fs,rfl,y,x⟩:=jm z (A1.read n l);refine⟨a,dx,fs,rfl,y,x,h.bnd n W λds vs O K L R2 C A G=>?_⟩;rw[Wc];exact wz (ps:=p::ps) (ds:=o::ds) R2 ⟨o,ds,_,vs,rfl,rfl,l.mono C,A⟩ r s w G
 ·rw[on z]at W;exact W.elim
end
section
variable{Y:Cm}{E:XK}{T:List Md}{B U H:Hp}{As:Nat->List Addr}{Z:St}{M:Tp}
def iR:List Ap->Nat->Option Nat
 |[],_=>none
 |p::r,i=>if p= .O i then some 0 else (iR r i).map (·+1)
theorem gG:∀{ps:List Ap} {i j:Nat},iR ps i=some j->ps[j]?=some (.O i)
 |[],_,_,h=>by cases h
 | p::r,i,j,h=>by
   unfold iR at h;by_cases e:p= .O i
   ·rw[Vq e]at h;cases h;rw[e];rfl
   ·rw[on e]at h;obtain⟨k,a,rfl⟩:=VJ.mp h;rw[W7];exact gG a
def dG:List Ap->List Nat
 |[]=>[]
 |.O i::r=>i::dG r
 |_::r=>dG r
def j5:List Ap->List Nat
 |[]=>[]
 |.Bo i::r=>i::j5 r
 |_::r=>j5 r
theorem iZ:∀{ps:List Ap} {i j:Nat},ps[j]?=some (.O i)->i∈dG ps
 |[],_,_,h=>by cases h
 | p::r,i,j,h=>by
   cases j with
   |zero=>cases h;exact Vu
   |succ j=>
     have:=iZ (ps:=r) (j:=j) (by simpa using h)
     cases p <;> first | exact this | exact Vw _ this
theorem n0:∀{ps:List Ap} {i:Nat},i∈dG ps->∃j,iR ps i=some j
 |[],_,h=>by cases h
 | p::r,i,h=>by
   unfold iR;by_cases e:p= .O i
   ·exact⟨0,by rw[Vq e]⟩
   · rw[on e]
     have:i∈dG r:=by
      cases p with
      |O k=>
        rcases VA.mp h with z|z
        ·exact absurd (by rw[z]) e
        ·exact z
      |_=>exact h
     obtain⟨j,a⟩:=n0 this;exact⟨j+1,by rw[a];rfl⟩
theorem u5:∀{ps:List Ap} {i j:Nat},ps[j]?=some (.Bo i)->i∈j5 ps
 |[],_,_,h=>by cases h
 | p::r,i,j,h=>by
   cases j with
   |zero=>cases h;exact Vu
   |succ j=>
     have:=u5 (ps:=r) (j:=j) (by simpa using h)
     cases p <;> first | exact this | exact Vw _ this
theorem qU:∀{ps:List Ap} {i j k:Nat},(dG ps).Nodup->ps[j]?=some (.O i)->ps[k]?=some (.O i)->j=k
 |[],_,_,_,_,h,_=>by cases h
 | p::r,i,j,k,nd,c,b=>by
   cases j with
   |zero=>
     cases k with
     |zero=>rfl
     |succ k=>
       cases c;exact absurd (iZ (ps:=r) (j:=k) (by simpa using b)) (VQ.mp nd).1
   |succ j=>
     cases k with
     |zero=>
       cases b;exact absurd (iZ (ps:=r) (j:=j) (by simpa using c)) (VQ.mp nd).1
     |succ k=>
       have a:(dG r).Nodup:=by
        cases p with
        |O x=>exact(VQ.mp nd).2
        |_=>exact nd
       rw[qU a (j:=j) (k:=k) (by simpa using c) (by simpa using b)]
theorem jF:∀{ps:List Ap} {j:Nat} {a M:Tp},(cK ps j a M).length=M.length
 |[],_,_,_=>rfl
 | p::r,j,a,M=>by
   cases p with
   |O i=>rw[cK,jF,VT]
   |F=>rw[cK,jF];all_goals simp
   |U=>rw[cK,jF];all_goals simp
   |X=>rw[cK,jF];all_goals simp
   |Bo i=>rw[cK,jF];all_goals simp
theorem rT:∀{ps:List Ap} {b:Nat} {a M:Tp} {i:Nat},(dG ps).Nodup->i<M.length->rg (cK ps b a M) i=match iR ps i with|some j=>rg a (b+j)|none=>rg M i
 |[],_,_,_,_,_,_=>rfl
 | p::r,b,a,M,i,nd,hi=>by
   have step:∀G:Tp,G.length=M.length->(dG r).Nodup->(p≠ .O i)->rg G i=rg M i->rg (cK r (b+1) a G) i=match iR (p::r) i with|some j=>rg a (b+j)|none=>rg M i:=λG g d hp e=>by
    rw[rT d (by rw[g];exact hi),iR,on hp];cases iR r i with
    |none=>exact e
    |some j=>
      show rg a (b+1+j)=rg a (b+(j+1));rw[show b+1+j=b+(j+1) by omega]
   cases p with
   |O k=>
     rw[cK];by_cases e:k=i
     · subst e
       have f:iR r k=none:=by
        cases q:iR r k with
        |none=>rfl
        |some j=>exact absurd (iZ (gG q)) (VQ.mp nd).1
       rw[rT (VQ.mp nd).2 (by rw[VT];exact hi),f,iR,Vq rfl,dH,Vq ⟨rfl,hi⟩];rfl
     ·exact step _ (VT ..) (VQ.mp nd).2 (λz=>e (by cases z;rfl)) (by rw[dH,on λz=>e z.1])
   |F=>rw[cK];exact step M rfl nd (λz=>by cases z) rfl;all_goals simp
   |U=>rw[cK];exact step M rfl nd (λz=>by cases z) rfl;all_goals simp
   |X=>rw[cK];exact step M rfl nd (λz=>by cases z) rfl;all_goals simp
   |Bo k=>rw[cK];exact step M rfl nd (λz=>by cases z) rfl;all_goals simp
def Tj(T:List Md):Ap->Md->Prop
 |.F,.F=>True
 |.F,.R=>True
 |.U,.R=>True
 |.Bo _,.R=>True
 |.O i,.O s=>T.getD i .F= .O s
 |_,_=>False
def fitM(T:List Md):List Ap->List Md->Prop
 |[],[]=>True
 |p::ps,m::r=>Tj T p m/\fitM T ps r
 |_,_=>False
theorem fitM.len:∀{ps:List Ap} {mc:List Md},fitM T ps mc->ps.length=mc.length
 |[],[],_=>rfl
 |[],_::_,h=>h.elim
 |_::_,[],h=>h.elim
 |p::ps,m::r,h=>by rw[Vx,Vx,fitM.len h.2]
theorem fitM.get:∀{ps:List Ap} {mc:List Md} {j:Nat} {p:Ap},fitM T ps mc->ps[j]?=some p->Tj T p (mc.getD j .F)
 |[],_,_,_,_,e=>by cases e
 |_::_,[],_,_,h,_=>h.elim
 | p::ps,m::r,j,q,h,e=>by
   cases j with
   |zero=>cases e;exact h.1
   |succ j=>rw[WN];exact fitM.get (j:=j) h.2 (by simpa using e)
theorem lN{mc:List Md}{a:Tp}{j:Nat}{s:Sh}(h:mc.getD j .F= .O s):rg (gh mc a) j=rg a j:=by
 have b:j<mc.length:=by
  by_cases z:j<mc.length
  ·exact z
  ·rw[VL,VP (by omega)]at h;cases h
 unfold gh;show((((List.range mc.length).map _)[j]?).join)=_;rw[List.getElem?_map,List.getElem?_range b];show(some (match mc.getD j .F with | .O _=>rg a j|_=>none)).join=_;rw[h];rfl
open Classical in
theorem lh{g:List Md}{Kr:KT D V}{fm:List D->Out D}{ps:List Ap}{ds:List D}{vs:List V}{Q:VK}(R:Rel Y T B U As Z H M)(A:Ag Y B U H Z M ps ds vs)(hf:fitM T ps g)(hd:(dG ps).Nodup)
 (hb:∀i∈j5 ps,i∉dG ps) (hU:∀d v B U J H N,Kr d v B U H N->Kr d v B J H N) (P:Mo Y Kr E T B U Z (cC ps fm ds M) Q):wN Y g Kr fm vs H Q E:=by
 have hlen:=A.len;have hl:=hf.len
 have K:∀{i j:Nat},ps[j]?=some (.O i)->∃d v s,ds[j]?=some d/\vs[j]?=some v/\rg Z i=some v/\rg M i=some d/\g.getD j .F= .O s/\T.getD i .F= .O s:=λ{i j} e=>by
  obtain⟨d,v,ed,ev,r⟩:=A.get e;have q:=hf.get e;cases y:g.getD j .F with
  |O s=>rw[y]at q;exact⟨d,v,s,ed,ev,r.1,r.2,rfl,q⟩
  |F=>rw[y]at q;exact q.elim
  |R=>rw[y]at q;exact q.elim
 have FPd:∃Uc:Hp,(∀a,(∃j i:Nat,ps[j]?=some (.O i)/\a∈As i)->Uc a=none)/\(∀a,(¬ ∃j i:Nat,ps[j]?=some (.O i)/\a∈As i)->Uc a=H a):=
  ⟨λa=>if (∃j i:Nat,ps[j]?=some (.O i)/\a∈As i) then none else H a,λa h=>Vq h,λa h=>on h⟩
 obtain⟨Uc,uc1,uc2⟩:=FPd
 have notFP:∀{a o},U a=some o->¬ ∃j i:Nat,ps[j]?=some (.O i)/\a∈As i:=λ{a o} q ⟨j,i,_,f⟩=>by
  rw[R.un i a f]at q;cases q
 have m:Same U Uc:=λa o q=>by rw[uc2 a (notFP q)];exact R.uh a o q
 have ucH:Same Uc H:=λa o q=>by
  by_cases z:∃j i:Nat,ps[j]?=some (.O i)/\a∈As i
  ·rw[uc1 a z]at q;cases q
  ·rw[uc2 a z]at q;exact q
 -- what is owned and not dG
 have other:∀{i a},i∉dG ps->a∈As i->∃o,Uc a=some o/\H a=some o:=λ{i a} hi f=>by
  obtain⟨o,q⟩:=R.at f;refine⟨o,?_,q⟩;rw[uc2 a]
  ·exact q
  · rintro⟨j,k,ek,x⟩;by_cases e:k=i
    ·subst e;exact hi (iZ ek)
    ·exact R.dj k i a e x f
 have Rc:Rel Y g B Uc (λj=>match ps[j]? with|some (.O i)=>As i|_=>[]) (vs.map some) H (ds.map some):=by
  refine⟨R.bu.trans m,ucH,λj=>?_,λj k a hne f x=>?_,λj a f=>?_,λj=>?_,by rw[Vs,Vs,hlen.1,hlen.2],R.tb⟩
  · try dsimp only
    split
    ·exact R.nd _
    ·exact Wk
  · try dsimp only at f x
    split at f
    · rename_i i e1;split at x
      · rename_i i' e2;by_cases e:i=i'
        ·subst e;exact hne (qU hd e1 e2)
        ·exact R.dj i i' a e f x
      ·cases x
    ·cases f
  · try dsimp only at f
    split at f
    ·rename_i i e1;exact uc1 a ⟨j,i,e1,f⟩
    ·cases f
  · rw[eJ,eJ];cases e:ps[j]? with
    |none=>
      have:ps.length<=j:=WW.mp e
      rw[VP (by omega)];rfl
    |some p=>
      obtain⟨d,v,ed,ev,r⟩:=A.get e;rw[ed,ev];refine⟨v,rfl,?_⟩;have q:=hf.get e;cases p with
      |F=>
        have r:Dn Y B d v:=r;cases y:g.getD j .F with
        |F=>exact⟨r,rfl⟩
        |R=>exact⟨Dn.mono (R.bu.trans m) r,rfl⟩
        |O s=>rw[y]at q;exact q.elim
      |U=>
        have r:Dn Y U d v:=r;cases y:g.getD j .F with
        |F=>rw[y]at q;exact q.elim
        |R=>exact⟨Dn.mono m r,rfl⟩
        |O s=>rw[y]at q;exact q.elim
      |X=>cases y:g.getD j .F<;>(rw[y]at q;exact q.elim)
      |Bo i=>
        cases y:g.getD j .F with
        |F=>rw[y]at q;exact q.elim
        |O s=>rw[y]at q;exact q.elim
        |R=>
          refine⟨?_,rfl⟩;have l:=R.lo i;rw[r.2]at l;have w:=hC l r.1;cases e2:T.getD i .F with
          |F=>rw[e2]at w;exact Dn.mono (R.bu.trans m) w.1
          |R=>rw[e2]at w;exact Dn.mono m w.1
          |O s=>
            rw[e2]at w;refine Ow.dn (R.bu.trans m) (λa f o q=>?_) w;obtain⟨o',q1,q2⟩:=other (hb i (u5 e)) f;rw[q2]at q;cases q;exact q1
      |O i=>
        obtain⟨d',v',s,ed',ev',L,h3,h4,h5⟩:=K e;rw[h4];have l:=R.lo i;rw[r.2,h5]at l;exact hC l r.1
 refine⟨B,Uc,_,ds,Rc,by omega,?_⟩
 have main:∀{S J H':Hp} {C:Nat->List Addr} {W:Tp},Rel Y g S J C (vs.map some) H' (gh g W)->Ex B Uc S J->
  Rel Y T S (ov S U) (λi=>match iR ps i with|some j=>C j|none=>As i) Z H' (cK ps 0 W M)/\Ex B U S (ov S U)/\∀N,NewM N J C->NewM N (ov S U) (λi=>match iR ps i with|some j=>C j|none=>As i):=λ{S J H' C W} t I=>by
  have su:Same U (ov S U):=λa o q=>by
   unfold ov;cases z:S a with
   |none=>exact q
   |some o'=>
     have r:=I.u a o (m a o q);have L:=t.bu a o' z;rw[r]at L;cases L;rfl
  have uh:Same (ov S U) H':=λa o q=>by
   unfold ov at q;cases z:S a with
   |none=>rw[z]at q;exact t.uh a o (I.u a o (m a o q))
   |some o'=>rw[z]at q;cases q;exact t.bh a _ z
  have bu:Same S (ov S U):=λa o q=>by unfold ov;rw[q]
  have free:∀{a},J a=none->ov S U a=none:=λ{a} h=>by
   unfold ov;cases z:S a with
   |none=>exact m.free (I.u.free h)
   |some o=>have:=t.bu a o z;rw[h]at this;cases this
  have there:∀{i a},iR ps i=none->a∈As i->∃o,J a=some o/\H a=some o/\H' a=some o:=λ{i a} hi f=>by
   obtain⟨o,q1,q2⟩:=other (λz=>by obtain⟨j,hj⟩:=n0 z;rw[hi]at hj;cases hj) f;exact⟨o,I.u a o q1,q2,t.uh a o (I.u a o q1)⟩
  refine⟨⟨bu,uh,λi=>?_,λi k a hne f x=>?_,λi a f=>?_,λi=>?_,by rw[jF];exact R.len,t.tb⟩,⟨I.b,su,λa o q=>?_⟩,λN n=>⟨n.nd,λa f=>free (n.un a f),λa f i=>?_⟩⟩
  · try dsimp only
    split
    ·exact t.nd _
    ·exact R.nd _
  · try dsimp only at f x
    split at f
    · rename_i j ej;split at x
      ·rename_i j' ej';refine t.dj j j' a (λz=>hne ?_) f x;subst z;have r:=gG ej;have L:=gG ej';rw[r]at L;cases L;rfl
      ·rename_i ek;obtain⟨o,q,_⟩:=there ek x;rw[t.un j a f]at q;cases q
    · rename_i ei;obtain⟨o,q,_⟩:=there ei f;split at x
      ·rename_i j' ej';rw[t.un j' a x]at q;cases q
      ·exact R.dj i k a hne f x
  · try dsimp only at f
    split at f
    ·rename_i j ej;exact free (t.un j a f)
    · rename_i ei;obtain⟨o,q,_⟩:=there ei f;unfold ov;cases z:S a with
      |none=>exact R.un i a f
      |some o'=>
        rcases I.nb a o' z with w|w|w
        ·have:=R.bu a o' w;rw[R.un i a f]at this;cases this
        ·obtain⟨o2,q1,q2⟩:=other (λz=>by obtain⟨j,hj⟩:=n0 z;rw[ei]at hj;cases hj) f;rw[w]at q1;cases q1
        ·obtain⟨o2,_,q2,q3⟩:=there ei f;rw[t.bh a o' z]at q3;cases q3;exact(R.nt f q2 w).elim
  · try dsimp only
    cases ep:iR ps i with
    |some j=>
      obtain⟨d,v,s,ed,ev,L,h3,h4,h5⟩:=K (gG ep)
      have hi:i<M.length:=by
       have:=ci h3
       exact(VM.mp this).1
      rw[rT hd hi,ep]
      try dsimp only
      have l:=t.lo j;rw[lN h4,eJ,ev,h4]at l;rw[L,h5,Nat.zero_add];exact l
    |none=>
      try dsimp only
      by_cases hi:i<M.length
      ·rw[rT hd hi,ep];refine(R.lo i).mono I.b su λa f=>?_;obtain⟨o,_,q1,q2⟩:=there ep f;rw[q1,q2]
      · have r:rg (cK ps 0 W M) i=none:=by
         unfold rg;rw[List.getElem?_eq_none (by rw[jF];omega)];rfl
        have L:rg M i=none:=by
         unfold rg;rw[List.getElem?_eq_none (by omega)];rfl
        have l:=R.lo i;rw[L]at l;rw[r];exact l
  · rcases I.nb a o q with w|w|w
    ·exact .inl w
    ·exact .inr (.inl (m.free w))
    ·exact .inr (.inr w)
  · try dsimp only
    cases ep:iR ps i with
    |some j=>exact n.ap a f j
    |none=>
      intro z;obtain⟨o,q,_⟩:=there ep z;rw[n.un a f]at q;cases q
 cases e:fm ds with
 |ok d G=>
   unfold cC at P;rw[e]at P;intro v S J C H' N t I n' k;obtain⟨R2,e2,n2⟩:=main t I;exact P v S _ _ H' N R2 e2 (n2 N n') (hU d v S J (ov S U) H' N k)
 |exc c G=>
   unfold cC at P;rw[e]at P;intro S J C H' t I;obtain⟨R2,e2,n2⟩:=main t I;exact P S _ _ H' R2 e2
 |bad=>
   unfold cC at P;rw[e]at P;exact P
end
def gM(c:Nat)(a:List D->Out D)(ds:List D):Res D:=match a (.obj c [] []::ds) with
 |.ok .non G=>(match rg G 0 with|some d=>.ok d|none=>.bad)
 |.ok _ _=>.bad
 |.exc c _=>.exc c
 |.bad=>.bad
section
variable{Y:Cm}{E:XK}{T:List Md}{B U H:Hp}{As:Nat->List Addr}{Z:St}{M:Tp}{K:F0}
theorem OQ{a:List Md}{b:KT D V}{f:List D->Out D}{ps:List Ap}{t:TA}{m:Tp->Res (List D)}(h:AJ Y E T ps t m)(k:fitM T ps a)(hd:(dG ps).Nodup)(l:∀i∈j5 ps,i∉dG ps)
 (n:∀d v B U J H N,b d v B U H N->b d v B J H N):MJ Y b E T (qB (wN Y a b f) [] E t) (λM=>((m M).up M).bind (cC ps f)):=by
 intro B U As Z H M Q R P;replace P:Mo Y b E T B U Z (((m M).up M).bind (cC ps f)) Q:=P;refine h B U As Z H M _ R ?_;cases e:m M with
 |ok ds=>
   rw[e]at P;intro vs I U1 H1 N j g o A;rw[Wc];exact lh j A k hd l n (Mo.at (r:=cC ps f ds M) P g.toEx)
 |exc c=>rw[e]at P;exact λI U1 H1 j g=>P I U1 As H1 j g.toEx
 |bad=>rw[e]at P;exact P
theorem OH{c:Nat}{g:Str}{f:List Md}{b:KT D V}{j:List D->Out D}{p:Ap}{ps:List Ap}{u:TE}{k:Tp->Res D}{t:TA}{m:Tp->Res (List D)}(K:A1J Y E T p u k)(h:AJ Y E T ps t m)(F:fitM T (p::ps) f)(hd:(dG (p::ps)).Nodup)
 (G:∀i∈j5 (p::ps),i∉dG (p::ps)) (L:∀d v B U J H N,b d v B U H N->b d v B J H N):
 MJ Y b E T (iL (Y c) g (wN Y f b j) [] E u t) (λM=>((k M).up M).bind λo M=>if bH c g o=true then ((m M).up M).bind λds M=>cC (p::ps) j (o::ds) M else .bad):=by
 intro B U As Z H M Q R P;replace P:Mo Y b E T B U Z (((k M).up M).bind λo M=>if bH c g o=true then ((m M).up M).bind λds M=>cC (p::ps) j (o::ds) M else .bad) Q:=P;refine K B U As Z H M _ R ?_;cases e:k M with
 |ok o=>
   rw[e]at P;intro v I U1 H1 N q n X w;replace P:Mo Y b E T B U Z (if bH c g o=true then ((m M).up M).bind λds M=>cC (p::ps) j (o::ds) M else .bad) Q:=P;by_cases z:bH c g o=true
   · rw[Vq z]at P;obtain⟨a,dx,fs,rfl,S,O⟩:=jm z (A1.read q w);refine⟨a,dx,fs,rfl,S,O,h I U1 As Z H1 M _ q ?_⟩;cases s:m M with
     |ok ds=>
       rw[s]at P;intro vs C x y N2 R2 l W A;rw[Wc];exact lh (ps:=p::ps) (ds:=o::ds) R2 ⟨o,ds,_,vs,rfl,rfl,w.mono l,A⟩ F hd G L (Mo.at (r:=cC (p::ps) j (o::ds) M) P (n.toEx.trans l.toEx))
     |exc c=>rw[s]at P;exact λC x y R2 l=>P C x As y R2 (n.toEx.trans l.toEx)
     |bad=>rw[s]at P;exact P
   ·rw[on z]at P;exact P.elim
 |exc c=>rw[e]at P;exact λI U1 H1 q n=>P I U1 As H1 q n.toEx
 |bad=>rw[e]at P;exact P
theorem Jv{c:Nat}{sh:List (Str×Sh)}{f:List Md}{fm:List D->Out D}{ps:List Ap}{ds:List D}{vs:List V}{Q:VK}(R:Rel Y T B U As Z H M)(A:Ag Y B U H Z M ps ds vs)(hl:ps.length+1=f.length)(h0:f.getD 0 .F= .O (.ob sh))
 (hf:∀(j:Nat) p,ps[j]?=some p->sX T true p (f.getD (j+1) .F)=true) (P:Po Y (KO Y (.ob sh)) E T B U As Z H M (gM c fm ds) Q) (x dx:Addr) (hx:H x=none) (hdx:H dx=none) (hne:dx≠x):
 wN Y f (KR Y .F) fm (.ref x::vs) (upd (upd H dx (.own x)) x (.ins (Y c) dx [])) (λv H2=>v=.non/\Q (.ref x) H2) E:=by
 have K:=A.len;have sH:Same H (upd (upd H dx (.own x)) x (.ins (Y c) dx [])):=Gd.uA hx (Gd.cP hdx);have hUc:∃y:Hp,y x=none/\∀a,a≠x->y a=upd (upd H dx (.own x)) x (.ins (Y c) dx []) a:=⟨λa=>if a=x then none else upd (upd H dx (.own x)) x (.ins (Y c) dx []) a,Vq rfl,λa h=>on h⟩;obtain⟨y,u1,u2⟩:=hUc;have n:Same H y:=λa o q=>by rw[u2 a (br q hx)];exact sH a o q
 have ucH:Same y (upd (upd H dx (.own x)) x (.ins (Y c) dx [])):=λa o q=>by
  by_cases z:a=x
  ·subst z;rw[u1]at q;cases q
  ·rw[u2 a z]at q;exact q
 have r:∀{a},y a=none->H a=none:=λh=>n.free h
 have Rc:Rel Y f B y (λj=>match j with|0=>[x]|_+1=>[]) ((.ref x::vs).map some) (upd (upd H dx (.own x)) x (.ins (Y c) dx [])) ((.obj c [] []::ds).map some):=by
  refine⟨R.bh.trans n,ucH,λj=>?_,λj k a W g hk=>?_,λj a g=>?_,λj=>?_,by rw[Vs,Vs,Vx,Vx,K.1,K.2],R.tb⟩
  · cases j with
    |zero=>simp
    |succ j=>exact Wk
  · cases j with
    |zero=>
      cases k with
      |zero=>exact W rfl
      |succ k=>cases hk
    |succ j=>cases g
  · cases j with
    |zero=>rw[VG.mp g];exact u1
    |succ j=>cases g
  · rw[eJ,eJ];cases j with
    |zero=>
      rw[h0];refine⟨.ref x,rfl,?_⟩;show Ow Y B _ (.obj c [] []) (.ob sh) (.ref x) [x];rw[Ow];exact⟨x,dx,[],[],rfl,aM,rfl,rfl,by rw[Owf];exact⟨rfl,rfl⟩⟩
    |succ j=>
      rw[W7,W7];cases e:ps[j]? with
      |none=>
        have:ps.length<=j:=WW.mp e
        rw[VP (by omega)];rfl
      |some p=>
        obtain⟨d,v,ed,ev,h1⟩:=A.get e;rw[ed,ev];refine⟨v,rfl,?_⟩;have hr:=A1.read R h1;have q:=hf j p e;cases em:f.getD (j+1) .F with
        |F=>
          rw[em]at q;cases p with
          |F=>exact⟨h1,rfl⟩
          |_=>cases q
        |R=>exact⟨Dn.mono n hr,rfl⟩
        |O s=>rw[em]at q;cases p<;>cases q
 refine⟨B,y,_,.obj c [] []::ds,Rc,by rw[Vx];omega,?_⟩
 have I:∀{S J H':Hp} {C:Nat->List Addr} {L:Tp},Rel Y f S J C ((.ref x::vs).map some) H' L->Ex B y S J->Rel Y T S (ov S U) As Z H' M/\Gw B U H S (ov S U) H'/\∀a,J a=none->ov S U a=none:=λ{S J H' C L} m t=>by
  have sU:Same U J:=(R.uh.trans n).trans t.u
  have su:Same U (ov S U):=λa o q=>by
   unfold ov;cases z:S a with
   |none=>exact q
   |some o'=>
     have h1:=sU a o q;have h2:=m.bu a o' z;rw[h1]at h2;cases h2;rfl
  have sh:Same H H':=(n.trans t.u).trans m.uh
  have uh:Same (ov S U) H':=λa o q=>by
   unfold ov at q;cases z:S a with
   |none=>rw[z]at q;exact sh a o (R.uh a o q)
   |some o'=>rw[z]at q;cases q;exact m.bh a _ z
  have bu:Same S (ov S U):=λa o q=>by unfold ov;rw[q]
  have new:∀a o,S a=some o->B a=some o\/H a=none\/fD o:=λa o q=>(t.nb a o q).imp id λz=>z.imp r id;refine⟨R.grow t.b su sh bu uh λi a g=>?_,⟨⟨t.b,su,λa o q=>?_⟩,sh,λa o q=>?_⟩,λa h=>?_⟩
  · unfold ov;cases z:S a with
    |none=>exact R.un i a g
    |some o=>
      obtain⟨o',q'⟩:=R.at g;rcases new a o z with q|q|q
      ·have:=R.bu a o q;rw[R.un i a g]at this;cases this
      ·rw[q]at q';cases q'
      ·have e1:=sh _ _ q';rw[m.bh a o z]at e1;cases e1;exact(R.nt g q' q).elim
  · rcases new a o q with q|q|q
    ·exact .inl q
    ·exact .inr (.inl (R.uh.free q))
    ·exact .inr (.inr q)
  · unfold ov at q;cases z:S a with
    |none=>rw[z]at q;exact .inl q
    |some o'=>
      rw[z]at q;cases q;rcases new a _ z with q|q
      ·exact .inl (R.bu a _ q)
      ·exact .inr q
  · unfold ov;cases z:S a with
    |none=>exact sU.free h
    |some o=>have:=m.bu a o z;rw[h]at this;cases this
 unfold gM at P;cases e:fm (.obj c [] []::ds) with
 |ok d G=>
   rw[e]at P;intro v S J C H' N m t n' k;obtain⟨R2,g2,X⟩:=I m t;cases d with
   |non=>
     have k:Dn Y S .non v:=k;rw[Dn]at k;refine⟨k,?_⟩;replace P:Po Y (KO Y (.ob sh)) E T B U As Z H M (match rg G 0 with|some d=>.ok d|none=>.bad) Q:=P;have l:=m.lo 0;rw[lN h0,h0]at l;cases e0:rg G 0 with
     |none=>rw[e0]at P;exact P.elim
     |some d=>
       rw[e0]at P l;have w:=hC l (v:=.ref x) rfl;exact P (.ref x) S _ H' (C 0) R2 g2 ⟨m.nd 0,λa g=>r (t.u.free (m.un 0 a g)),λa g=>X a (m.un 0 a g)⟩ w
   |_=>exact P.elim
 |exc c' G=>
   rw[e]at P;intro S J C H' m t;obtain⟨R2,g2,X⟩:=I m t;exact P S _ H' R2 g2
 |bad=>rw[e]at P;exact P
theorem Nc{c:Nat}{sh:List (Str×Sh)}{a:List Md}{e:List D->Out D}{ps:List Ap}{t:TA}{m:Tp->Res (List D)}(h:AJ Y E T ps t m)(g:ps.length+1=a.length)(h0:a.getD 0 .F= .O (.ob sh))
 (i:∀(j:Nat) p,ps[j]?=some p->sX T true p (a.getD (j+1) .F)=true):PJ Y (KO Y (.ob sh)) E T (Df (Y c) (wN Y a (KR Y .F) e) [] E t) (λM=>(m M).bind (gM c e)):=by
 intro B U As Z H M Q R P;refine h.bnd R P λds vs I U1 H1 k e1 A W=>?_;intro x dx f d b;rw[Wc];exact Jv k A g h0 i W x dx f d b
structure Pth (Y:Cm) (T:List Md) (t:TE) (get:Tp->Option D) (set:Tp->D->Tp):Prop where
 rd:∀{B U:Hp} {As:Nat->List Addr} {Z:St} {H:Hp} {M:Tp} {d:D},Rel Y T B U As Z H M->get M=some d->∃v A,(∀Q:VK,Q v H->t Z H Q)/\Ow Y B H d (.ct .fz) v A/\(∀a∈A,∃i,a∈As i)/\
  ∀I U1 H1,Rel Y T I U1 As Z H1 M->Same B I->Same H H1->∀a∈A,∀o' d',Ow Y I (upd H1 a o') d' (.ct .fz) v A->Rel Y T I U1 As Z (upd H1 a o') (set M d')
theorem Rel.mut(R:Rel Y T B U As Z H M){i:Nat}{a:Addr}{o':HO}{d d':D}{v:V}{sh:Sh}(g:T.getD i .F= .O sh)(f:rg Z i=some v)(hd:rg M i=some d)(c:a∈As i)(w:Ow Y B (upd H a o') d' sh v (As i)):
 Rel Y T B U As Z (upd H a o') (M.set i (some d')):=by
 have hi:i<M.length:=(VM.mp (ci hd)).1;refine⟨R.bu,λb u q=>?_,R.nd,R.dj,R.un,λj=>?_,by rw[VT];exact R.len,R.tb⟩
 ·rw[aE (br q (R.un i a c))];exact R.uh b u q
 · rw[dH];by_cases e:i=j
   ·subst e;rw[Vq ⟨rfl,hi⟩,g];exact⟨v,f,w⟩
   ·rw[on λz=>e z.1];exact(R.lo j).mono (Same.refl _) (Same.refl _) λb h=>aE (λz:b=a=>R.dj i j a e c (z▸h))
def cN(i:Nat):Tp->Option D:=λM=>rg M i
def fb(i:Nat):Tp->D->Tp:=λM d=>M.set i (some d)
theorem xj{i:Nat}(f:T.getD i .F= .O (.ct .fz)):Pth Y T (dD i) (cN i) (fb i) where
 rd:=λ{B U As Z H M d} R e=>by
  replace e:rg M i=some d:=e;have l:=R.lo i;rw[e,f]at l;obtain⟨v,c,w⟩:=l;exact⟨v,As i,λQ q=>⟨v,ci c,q⟩,w,λa b=>⟨i,b⟩,λI U1 H1 h _ _ a b o' d' g=>h.mut f c e b g⟩
theorem Owf.upd{sh:List (Str×Sh)}{f:Str}{B H:Hp}:∀{fs:List (Str×V)} {ds:List D} {A:List Addr} {d:D},Owf Y B H ds (fs.map (·.1)) sh (fs.map (·.2)) A->A.Nodup->bF (fs.map (·.1)) ds f=some d->
 ∃v A1,fs.lookup f=some v/\Ow Y B H d ((sh.lookup f).getD .fz) v A1/\(∀a∈A1,a∈A)/\∀I H1 d',Same B I->(∀b∈A,b∉A1->H1 b=H b)->Ow Y I H1 d' ((sh.lookup f).getD .fz) v A1->Owf Y I H1 (dI (fs.map (·.1)) ds f d') (fs.map (·.1)) sh (fs.map (·.2)) A
 |[],ds,A,d,h,nd,e=>by cases ds<;>cases e
 | p::fs,ds,A,d,h,nd,e=>by
   cases ds with
   |nil=>cases e
   |cons d0 ds=>
     rw[List.map_cons,List.map_cons,Owf]at h;obtain⟨n,E,x,r,s,y,J,h0,K,o,u⟩:=h;cases J;cases h0;subst K;obtain⟨F,j,g⟩:=List.nodup_append.mp nd;rw[List.map_cons]at e;unfold bF at e;by_cases q:p.1=f
     ·rw[Vq q]at e;cases e;rw[q]at o;refine⟨p.2,s,by rw[V4,<-q,WR],o,λa m=>VC _ m,λI H1 d' i k w=>?_⟩;rw[Vr,Vr,dI,Vq q,Owf];exact⟨p.1,_,p.2,_,s,y,rfl,rfl,rfl,by rw[q];exact w,Owf.mono i (λb c=>k b (Vt _ c) λz=>g b z b c rfl) u⟩
     ·rw[on q]at e;obtain⟨v,A1,G,C,t,L⟩:=Owf.upd u j e;have c:(f==p.1)=false:=V7.mpr λz=>q z.symm;refine⟨v,A1,by rw[V4,c];exact G,C,λa m=>Vt _ (t a m),λI H1 d' i k w=>?_⟩;rw[Vr,Vr,dI,on q,Owf];exact⟨p.1,_,p.2,_,s,y,rfl,rfl,rfl,Ow.mono i (λb c=>k b (VC _ c) λz=>g b c b (t b z) rfl) o,L I H1 d' i (λb c l=>k b (Vt _ c) l) w⟩
def fy(c:Nat)(f:Str)(i:Nat):Tp->Option D:=λM=>match rg M i with
 |some (.obj a ns vs)=>if a=c then bF ns vs f else none
 |_=>none
def fc(f:Str)(i:Nat):Tp->D->Tp:=λM d=>match rg M i with
 |some (.obj c ns vs)=>M.set i (some (.obj c ns (dI ns vs f d)))
 |_=>M
theorem gF{c:Nat}{f:Str}{i:Nat}{sh:List (Str×Sh)}(X:Cls K (Y c))(W:NoAttr K (Y c) f)(E:T.getD i .F= .O (.ob sh))(G:(sh.lookup f).getD .fz=.ct .fz):Pth Y T (qp K (dD i) f) (fy c f i) (fc f i) where
 rd:=λ{B U As Z H M d} R e=>by
  have l:=R.lo i;unfold fy at e;cases e0:rg M i with
  |none=>rw[e0]at e;cases e
  |some d0=>
    cases d0 with
    |obj k ns vs=>
      rw[e0]at e;replace e:(if k=c then bF ns vs f else none)=some d:=e;by_cases q:k=c
      · subst q;rw[Vq rfl]at e;rw[e0,E]at l;obtain⟨v,C,w⟩:=l;have x:Ow Y B H (.obj k ns vs) (.ob sh) v (As i):=w;rw[Ow]at x;obtain⟨a,dx,xs,A',rfl,L,h2,j,J⟩:=x;subst h2;have nd:=R.nd i;rw[j]at nd;obtain⟨n,m⟩:=VQ.mp nd;obtain⟨u,A1,V,A,t,cl⟩:=Owf.upd J m e;rw[G]at A;refine⟨u,A1,λQ q=>⟨.ref a,ci C,a,_,dx,xs,u,rfl,L,X,W,V,q⟩,A,λb h=>⟨i,by rw[j];exact Vw _ (t b h)⟩,λI U1 H1 R1 P g b h o' d' N=>?_⟩;have s:b∈As i:=by rw[j];exact Vw _ (t b h)
        have:fc f i M d'=M.set i (some (.obj k (xs.map (·.1)) (dI (xs.map (·.1)) vs f d'))):=by unfold fc;rw[e0]
        rw[this];refine R1.mut E C e0 s ?_;rw[j,Ow];have p:a≠b:=λz=>n (by rw[z];exact t b h);refine⟨a,dx,xs,A',rfl,by rw[aE p];exact g _ _ L,rfl,rfl,cl I _ d' P (λy S r=>?_) (by rw[G];exact N)⟩
        have:y≠b:=λz=>r (by rw[z];exact h)
        rw[aE this];obtain⟨o,D⟩:=Owf.at J S;rw[D,g _ _ D]
      ·rw[on q]at e;cases e
    |_=>rw[e0]at e;cases e
def Co(set:Tp->D->Tp)(M:Tp):Option (D×List D)->Out D
 |some (d,a)=>.ok d (set M (.lst a))
 |none=>.bad
def OT(set:Tp->D->Tp)(f:List D->D->Option (D×List D))(M:Tp)(xs:List D):Res D->Out D
 |.ok x=>Co set M (f xs x)
 |.exc c=>.exc c M
 |.bad=>.bad
def mQ(get:Tp->Option D)(set:Tp->D->Tp)(f:List D->D->Option (D×List D))(me:Tp->Res D):Tp->Out D:=λM=>match get M with
 |some (.lst xs)=>OT set f M xs (me M)
 |_=>.bad
theorem Ow.lst{d:D}{v:V}{A:List Addr}{ds:List D}(w:Ow Y B H d (.ct .fz) v A)(e:d=.lst ds):∃a xs,v=.ref a/\H a=some (.lst xs)/\A=[a]/\Dns Y B ds xs:=by
 subst e;rw[Ow]at w;obtain⟨a,xs,i,r,h,g,f⟩:=w;obtain⟨c,b⟩:=Ows.fz f;exact⟨a,xs,r,h,by rw[g,b],c⟩
theorem Ow.lst'{a:Addr}{ds:List D}{xs:List V}(h:H a=some (.lst xs))(d:Dns Y B ds xs):Ow Y B H (.lst ds) (.ct .fz) (.ref a) [a]:=by
 rw[Ow];exact⟨a,xs,[],rfl,h,rfl,Ows.of d⟩
section
variable{t:TE}{get:Tp->Option D}{set:Tp->D->Tp}
theorem F1{k:Kd}{r:V->List V->Hp->VK->Prop}{f:List D->D->Option (D×List D)}{te:TE}{me:Tp->Res D}(p:Pth Y T t get set)(G:PJ Y (KR Y k) E T te me)
 (C:∀(B U H:Hp) (a:Addr) (ds:List D) (xs:List V) (x:D) (u:V) (d:D) (j:List D) (Q:VK),Same B U->Same U H->H a=some (.lst xs)->Dns Y B ds xs->Dn Y (hp k B U H) x u->f ds x=some (d,j)->(∀v l,Dn Y B d v->Dns Y B j l->Q v (upd H a (.lst l)))->r (.ref a) [u] H Q):
 MJ Y (KR Y .F) E T (L3 K "list" r t (bL te dh)) (mQ get set f me):=by
 intro B U As Z H M Q R P;unfold mQ at P;cases e:get M with
 |none=>rw[e]at P;exact P.elim
 |some d0=>
   cases d0 with
   |lst ds=>
     rw[e]at P;replace P:Mo Y (KR Y .F) E T B U Z (OT set f M ds (me M)) Q:=P;obtain⟨v,A,z,w,W,O⟩:=p.rd R e;obtain⟨a,xs,rfl,o,rfl,J⟩:=w.lst rfl;refine z _ ⟨.inl ⟨rfl,xs,SqL.of o⟩,G B U As Z H M _ R ?_⟩;cases m:me M with
     |ok x=>
       rw[m]at P;replace P:Mo Y (KR Y .F) E T B U Z (Co set M (f ds x)) Q:=P;intro u I U1 H1 N i g S y;cases n:f ds x with
       |none=>rw[n]at P;exact P.elim
       |some L=>
         obtain⟨d,j⟩:=L;rw[n]at P;refine C I U1 H1 a ds xs x u d j Q i.bu i.uh (g.h _ _ o) (J.mono g.b) y n λv l s q=>?_;exact P v I U1 As _ [] (O I U1 H1 i g.b g.h a Vu _ _ (Ow.lst' aM q)) g.toEx NewM.nil s
     |exc c=>rw[m]at P;exact λI U1 H1 i g=>P I U1 As H1 i g.toEx
     |bad=>rw[m]at P;exact P.elim
   |_=>rw[e]at P;exact P.elim
def lX(xs:List D)(x:D):Option (D×List D):=if xs.length<aq then some (.non,xs++[x]) else none
theorem nV{te:TE}{me:Tp->Res D}(p:Pth Y T t get set)(g:PJ Y (KR Y .F) E T te me):MJ Y (KR Y .F) E T (L3 K "list" si t (bL te dh)) (mQ get set lX me):=
 F1 (f:=lX) p g λB U H a ds xs x u d i Q _ _ h c e b k=>by
  unfold lX at b;by_cases z:ds.length<aq
  ·rw[Vq z]at b;cases b;exact⟨a,xs,u,rfl,rfl,h,fJ (Wx (by rw[<-c.len];exact z)),k .non _ (by rw[Dn]) (c.append (Dns.one e))⟩
  ·rw[on z]at b;cases b
def EC(xs:List D)(x:D):Option (D×List D):=match x with
 |.int i=>if 0<=i/\i<xs.length/\xs.length<=aq then xs[i.toNat]?.map λd=>(d,xs.eraseIdx i.toNat) else none
 |_=>none
theorem Jz{te:TE}{me:Tp->Res D}(p:Pth Y T t get set)(m:PJ Y (KR Y .X) E T te me):MJ Y (KR Y .F) E T (L3 K "list" Et t (bL te dh)) (mQ get set EC me):=
 F1 (f:=EC) p m λB U H a ds xs x u d q Q _ _ n e c b k=>by
  cases x with
  |int i=>
    have c:Dn Y H (.int i) u:=c;rw[Dn]at c;subst c;replace b:(if 0<=i/\i<ds.length/\ds.length<=aq then ds[i.toNat]?.map λd=>(d,ds.eraseIdx i.toNat) else none)=some (d,q):=b;by_cases z:0<=i/\i<ds.length/\ds.length<=aq
    ·rw[if_pos z]at b;obtain⟨y,o,r⟩:=Option.map_eq_some_iff.mp b;cases r;obtain⟨w,l,s⟩:=e.get o;obtain⟨j,h,g⟩:=z;unfold aq at g;refine⟨a,xs,i,i.toNat,w,rfl,rfl,n,by omega,by omega,?_,l,k w _ s (e.erase _)⟩;refine(sR ?_).1;unfold oj;rw[if_pos j,if_pos (by rw[<-e.len];exact h)]
    ·rw[on z]at b;cases b
  |_=>cases b
def wF(i:Nat)(x:D)(M:Tp):Out D:=match rg M i with
 |some (.lst xs)=>Co (fb i) M (lX xs x)
 |_=>.bad
def HH(i:Nat)(me:Tp->Out D):Tp->Out D:=λM=>match rg M i with
 |some (.lst _)=>(me M).bind (wF i)
 |_=>.bad
theorem Ci{i:Nat}{te:TE}{me:Tp->Out D}(g:T.getD i .F= .O (.ct .fz))(q:MJ Y (KR Y .F) E T te me):MJ Y (KR Y .F) E T (L3 K "list" si (dD i) (bL te dh)) (HH i me):=by
 intro B U As Z H M Q R P;unfold HH at P;cases e:rg M i with
 |none=>rw[e]at P;exact P.elim
 |some d0=>
   cases d0 with
   |lst ds=>
     rw[e]at P;replace P:Mo Y (KR Y .F) E T B U Z ((me M).bind (wF i)) Q:=P;have l:=R.lo i;rw[e,g]at l;obtain⟨v,f,w⟩:=l;obtain⟨a,xs,rfl,s,_,C⟩:=Ow.lst w rfl;refine⟨.ref a,ci f,.inl ⟨rfl,xs,SqL.of s⟩,q.bnd R P λx G u I U1 h H1 N n e1 A p W=>?_⟩;have j:=n.lo i;unfold wF at W;cases b:rg G i with
     |none=>rw[b]at W;exact W.elim
     |some y=>
       cases y with
       |lst c=>
         rw[b]at W;rw[b,g,f]at j;have o:=hC j rfl;obtain⟨J,d,t,r,m,k⟩:=Ow.lst o rfl;cases t;replace W:Mo Y (KR Y .F) E T I U1 Z (Co (fb i) G (lX c x)) Q:=W;unfold lX at W;by_cases z:c.length<aq
         ·rw[Vq z]at W;refine⟨a,d,u,rfl,rfl,r,fJ (Wx (by rw[<-k.len];exact z)),?_⟩;refine W .non I U1 h _ [] (n.mut g f b (by rw[m];exact Vu) ?_) (Ex.refl _ _) NewM.nil (show Dn Y I .non .non by rw[Dn]);rw[m];exact Ow.lst' aM (k.append (Dns.one p))
         ·rw[on z]at W;exact W.elim
       |_=>rw[b]at W;exact W.elim
   |_=>rw[e]at P;exact P.elim
end
end
section
variable{Y:Cm}{E:XK}{Kr:KT D V}{pr:Nat->Bool}{T:List Md}{B U H:Hp}{As:Nat->List Addr}{Z:St}{M:Tp}{K:F0}
def mE(set:Tp->D->Tp)(x d:D)(M:Tp):Res D->SO
 |.ok k=>(match rp d k x with|some d'=>.nx (set M d')|none=>.bad)
 |.exc c=>.exc c M
 |.bad=>.bad
def gm(get:Tp->Option D)(set:Tp->D->Tp)(mk:Tp->Res D)(b:Tp->Out D):Tp->SO:=λM=>gD (b M) λx a=>match get a with
 |some d=>mE set x d a (mk a)
 |none=>.bad
section
variable{W:Type}[DecidableEq W]
theorem ng{kvs:List (W×V)}{k:W}:(kvs.any λa=>decide (a.1=k))=cL (kvs.map (·.1)) k:=by
 unfold cL;rw[List.any_map];rfl
theorem uJ{kvs:List (W×V)}{k:W}{v:V}(h:cL (kvs.map (·.1)) k=true):(fI kvs k v).map (·.1)=kvs.map (·.1):=by
 unfold fI;rw[ng,if_pos h,List.map_map];refine List.map_congr_left λp _=>?_;show(if p.1=k then (p.1,v) else p).1=p.1;split<;>rfl
theorem fL{kvs:List (W×V)}{k:W}{v:V}(h:¬ cL (kvs.map (·.1)) k=true):fI kvs k v=kvs++[(k,v)]:=by
 unfold fI;rw[ng,if_neg h]
theorem nz{G:Hp}{x:D}{v:V}{k:W}(b:Dn Y G x v):∀{kvs:List (W×V)} {ds:List D},Dns Y G ds (kvs.map (·.2))->Dns Y G (iQ (kvs.map (·.1)) ds k x) ((kvs.map λa=>if a.1=k then (a.1,v) else a).map (·.2))
 |[],ds,h=>by cases ds<;>exact(by rw[List.map_nil,List.map_nil,List.map_nil];unfold iQ;rw[Dns])
 | p::kvs,ds,h=>by
   cases ds with
   |nil=>rw[Dns]at h;cases h
   |cons d ds=>
     rw[Vr,Dns]at h;obtain⟨y,r,e,f,c⟩:=h;cases e;rw[Vr,Vr,Vr,iQ,Dns];refine⟨_,_,rfl,?_,nz b c⟩;by_cases q:p.1=k
     ·rw[Vq q,Vq q];exact b
     ·rw[on q,on q];exact f
end
theorem Ow.dT{d:D}{v:V}{A:List Addr}{b:List (List aP)}{ds:List D}(w:Ow Y B H d (.ct .fz) v A)(e:d=.dT b ds):∃(a:Addr) (kvs:List (List aP×V)),v=.ref a/\H a=some (.dT kvs)/\kvs.map (·.1)=b/\A=[a]/\Dns Y B ds (kvs.map (·.2)):=by
 subst e;rw[Ow]at w;obtain⟨a,xs,k,r,j,i,h,g⟩:=w;obtain⟨f,c⟩:=Ows.fz g;exact⟨a,xs,r,j,i,by rw[h,c],f⟩
theorem Ow.dK{d:D}{v:V}{A:List Addr}{b:List aP}{ds:List D}(w:Ow Y B H d (.ct .fz) v A)(e:d=.dK b ds):∃(a:Addr) (kvs:List (aP×V)),v=.ref a/\H a=some (.dK kvs)/\kvs.map (·.1)=b/\A=[a]/\Dns Y B ds (kvs.map (·.2)):=by
 subst e;rw[Ow]at w;obtain⟨a,xs,k,r,j,i,h,g⟩:=w;obtain⟨f,c⟩:=Ows.fz g;exact⟨a,xs,r,j,i,by rw[h,c],f⟩
theorem Ow.dT'{a:Addr}{kvs:List (List aP×V)}{ds:List D}(h:H a=some (.dT kvs))(d:Dns Y B ds (kvs.map (·.2))):Ow Y B H (.dT (kvs.map (·.1)) ds) (.ct .fz) (.ref a) [a]:=by
 rw[Ow];exact⟨a,kvs,[],rfl,h,rfl,rfl,Ows.of d⟩
theorem Ow.dK'{a:Addr}{kvs:List (aP×V)}{ds:List D}(h:H a=some (.dK kvs))(d:Dns Y B ds (kvs.map (·.2))):Ow Y B H (.dK (kvs.map (·.1)) ds) (.ct .fz) (.ref a) [a]:=by
 rw[Ow];exact⟨a,kvs,[],rfl,h,rfl,rfl,Ows.of d⟩
theorem JS{d k x d':D}{v u w:V}{A:List Addr}(p:Ow Y B H d (.ct .fz) v A)(m:Dn Y H k u)(j:Dn Y B x w)(e:rp d k x=some d'):∃a o',v=.ref a/\a∈A/\DPut H a u w (upd H a o')/\Ow Y B (upd H a o') d' (.ct .fz) v A:=by
 cases d with
 |dT c vs=>
   obtain⟨a,kvs,rfl,n,i,rfl,h⟩:=p.dT rfl;cases k with
   |tup r=>
     replace e:((bV r).bind λk=>if c.length<aq then some (if cL c k=true then D.dT c (iQ c vs k x) else .dT (c++[k]) (vs++[x])) else none)=some d':=e;obtain⟨f,o,e⟩:=Xw.mp e;rw[Dn]at m;obtain⟨b,xs,rfl,y,s⟩:=m;have ex:=fY o s;subst ex;by_cases z:c.length<aq
     · rw[Vq z]at e;cases e;have l:kvs.length<sizeLine:=fJ (Wx (by rw[<-i,Vs]at z;exact z));refine⟨a,_,rfl,Vu,DPut.t n y l,?_⟩;subst i;by_cases q:cL (kvs.map (·.1)) f=true
       · rw[if_pos q];have hp:fI kvs f w=kvs.map λg=>if g.1=f then (g.1,w) else g:=by unfold fI;rw[ng,if_pos q]
         have:=Ow.dT' (Y:=Y) (B:=B) (H:=upd H a (.dT (fI kvs f w))) (ds:=iQ (kvs.map (·.1)) vs f x) aM (by rw[hp];exact nz j h)
         rw[uJ q]at this;exact this
       · rw[on q]
         have:=Ow.dT' (Y:=Y) (B:=B) (H:=upd H a (.dT (fI kvs f w))) (ds:=vs++[x]) aM (by rw[fL q,V9];exact h.append (Dns.one j))
         rw[fL q,V9]at this;rw[fL q];exact this
     ·rw[on z]at e;cases e
   |_=>cases e
 |dK c vs=>
   obtain⟨a,kvs,rfl,n,i,rfl,h⟩:=p.dK rfl;replace e:((fk k).bind λk=>if c.length<aq then some (if cL c k=true then D.dK c (iQ c vs k x) else .dK (c++[k]) (vs++[x])) else none)=some d':=by cases k<;>exact e
   obtain⟨f,o,e⟩:=Xw.mp e;have ex:=og o m;subst ex;by_cases z:c.length<aq
   · rw[Vq z]at e;cases e;have l:kvs.length<sizeLine:=fJ (Wx (by rw[<-i,Vs]at z;exact z));refine⟨a,_,rfl,Vu,DPut.k n l,?_⟩;subst i;by_cases q:cL (kvs.map (·.1)) f=true
     · rw[if_pos q];have hp:fI kvs f w=kvs.map λg=>if g.1=f then (g.1,w) else g:=by unfold fI;rw[ng,if_pos q]
       have:=Ow.dK' (Y:=Y) (B:=B) (H:=upd H a (.dK (fI kvs f w))) (ds:=iQ (kvs.map (·.1)) vs f x) aM (by rw[hp];exact nz j h)
       rw[uJ q]at this;exact this
     · rw[on q]
       have:=Ow.dK' (Y:=Y) (B:=B) (H:=upd H a (.dK (fI kvs f w))) (ds:=vs++[x]) aM (by rw[fL q,V9];exact h.append (Dns.one j))
       rw[fL q,V9]at this;rw[fL q];exact this
   ·rw[on z]at e;cases e
 |_=>cases k<;>cases e
section
variable{t:TE}{get:Tp->Option D}{set:Tp->D->Tp}{tk tv:TE}{mk:Tp->Res D}{mv:Tp->Out D}
theorem fP(p:Pth Y T t get set)(Q:PJ Y (KR Y .X) E T tk mk)(K:MJ Y (KR Y .F) E T tv mv):SJ Y E Kr pr T (K4 t tk tv) (gm get set mk mv):=by
 intro B U As Z H M D R P;refine K.bndS R P λx f w I U1 i H1 N G e1 n1 J W=>?_;cases e:get f with
 |none=>rw[e]at W;exact W.elim
 |some d=>
   rw[e]at W;replace W:So Y E Kr pr T I U1 Z (mE set x d f (mk f)) D:=W;obtain⟨v,A,O,z,hA,V⟩:=p.rd G e;refine O _ (Q I U1 i Z H1 f _ G ?_);cases s:mk f with
   |ok k=>
     rw[s]at W;replace W:So Y E Kr pr T I U1 Z (match rp d k x with|some d'=>.nx (set f d')|none=>.bad) D:=W;intro u j l m N2 R2 g n2 L;cases y:rp d k x with
     |none=>rw[y]at W;exact W.elim
     |some d'=>
       rw[y]at W
       have q:Ow Y j m d (.ct .fz) v A:=Ow.mono g.b (λa r=>by
        obtain⟨o,C⟩:=Ow.at z r
        rw[C,g.h _ _ C]) z
       obtain⟨a,o',S,r,dp,n⟩:=JS q L (Dn.mono g.b J) y;exact⟨a,_,S,dp,W Z j l i _ (V j l m R2 g.b g.h a r o' d' n) g.toEx (Kp.refl _ _)⟩
   |exc c=>rw[s]at W;exact λj l m R2 g=>W Z j l i m R2 g.toEx (Kp.refl _ _)
   |bad=>rw[s]at W;exact W.elim
def Aj(set:Tp->D->Tp)(x:D)(xs:List D)(M:Tp):Res D->SO
 |.ok (.int i)=>(match oj xs.length i with|some j=>.nx (set M (.lst (xs.set j x)))|none=>.bad)
 |.ok _=>.bad
 |.exc c=>.exc c M
 |.bad=>.bad
def nX(get:Tp->Option D)(set:Tp->D->Tp)(mk:Tp->Res D)(mv:Tp->Out D):Tp->SO:=λM=>gD (mv M) λx a=>match get a with
 |some (.lst xs)=>Aj set x xs a (mk a)
 |_=>.bad
theorem DE(p:Pth Y T t get set)(L:PJ Y (KR Y .X) E T tk mk)(J:MJ Y (KR Y .F) E T tv mv):SJ Y E Kr pr T (wU tv (Tf t tk K7)) (nX get set mk mv):=by
 intro B U As Z H M D R P;refine J.bndS R P λx f w I U1 l H1 N z e1 V G W=>?_;cases e:get f with
 |none=>rw[e]at W;exact W.elim
 |some d=>
   cases d with
   |lst xs=>
     rw[e]at W;replace W:So Y E Kr pr T I U1 Z (Aj set x xs f (mk f)) D:=W;obtain⟨v,A,K,C,hA,Q⟩:=p.rd z e;obtain⟨a,vs,rfl,O,rfl,y⟩:=C.lst rfl;refine K _ (L I U1 l Z H1 f _ z ?_);cases r:mk f with
     |ok k=>
       rw[r]at W;intro u q n o N2 R2 g S m;cases k with
       |int i=>
         replace W:So Y E Kr pr T I U1 Z (match oj xs.length i with|some j=>.nx (set f (.lst (xs.set j x)))|none=>.bad) D:=W;have m:Dn Y o (.int i) u:=m;rw[Dn]at m;cases s:oj xs.length i with
         |none=>rw[s]at W;exact W.elim
         |some j=>
           rw[s]at W;refine⟨a,vs,i,j,rfl,m,g.h _ _ O,by rw[<-y.len];exact s,?_⟩;exact W Z q n l _ (Q q n o R2 g.b g.h a Vu _ _ (Ow.lst' aM (Dns.set (Dn.mono g.b G) j (y.mono g.b)))) g.toEx (Kp.refl _ _)
       |_=>exact W.elim
     |exc c=>rw[r]at W;exact λq n o R2 g=>W Z q n l o R2 g.toEx (Kp.refl _ _)
     |bad=>rw[r]at W;exact W.elim
   |_=>rw[e]at W;exact W.elim
end
theorem qH{f:Str}{y:V}:∀{fs:List (Str×V)},(fQ f y fs).map (·.1)=if cL (fs.map (·.1)) f=true then fs.map (·.1) else fs.map (·.1)++[f]
 |[]=>rfl
 | p::fs=>by
   obtain⟨g,z⟩:=p;unfold fQ cL;rw[List.map_cons,List.any_cons];by_cases q:g=f
   ·rw[Vq q,WE q,Bool.true_or,Vq rfl,Vr]
   · rw[if_neg q,decide_eq_false q,Bool.false_or,List.map_cons,qH];unfold cL;split
     ·rfl
     ·rw[Xl]
theorem Owf.put{sh:List (Str×Sh)}{f:Str}{x:D}{y:V}{N:List Addr}(s:Ow Y B H x ((sh.lookup f).getD .fz) y N)(v:N.Nodup):∀{fs:List (Str×V)} {ds:List D} {A:List Addr},Owf Y B H ds (fs.map (·.1)) sh (fs.map (·.2)) A->A.Nodup->(∀a∈N,a∉A)->
 ∃i,Owf Y B H (if cL (fs.map (·.1)) f=true then dI (fs.map (·.1)) ds f x else ds++[x]) ((fQ f y fs).map (·.1)) sh ((fQ f y fs).map (·.2)) i/\i.Nodup/\∀a∈i,a∈A\/a∈N
 | [],ds,A,h,nd,hd=>by
   cases ds with
   |nil=>
     refine⟨N,?_,v,λa c=>.inr c⟩;show Owf Y B H [x] [f] sh [y] N;rw[Owf];exact⟨f,[],y,[],N,[],rfl,rfl,by rw[Wc],s,by rw[Owf];exact⟨rfl,rfl⟩⟩
   |cons d ds=>
     rw[Owf]at h;obtain⟨_,_,_,_,_,_,e,_⟩:=h;cases e
 | p::fs,ds,A,h,nd,hd=>by
   obtain⟨g,z⟩:=p;cases ds with
   |nil=>
     rw[Owf]at h;cases h.1
   |cons d ds=>
     rw[List.map_cons,List.map_cons,Owf]at h;obtain⟨n,J,u,r,E,I,K,h0,M,L,G⟩:=h;cases K;cases h0;subst M;obtain⟨o,j,m⟩:=List.nodup_append.mp nd;unfold fQ;by_cases q:g=f
     · have t:cL (((g,z)::fs).map (·.1)) f=true:=by
        unfold cL;rw[List.map_cons,List.any_cons,decide_eq_true q,Bool.true_or]
       rw[Vq q,t,Vq rfl,Vr,dI,Vq q,Vr,Vr];refine⟨N++I,?_,VZ.mpr ⟨v,j,λa c b k e=>hd a c (Vt _ (e▸k))⟩,λa c=>?_⟩
       ·rw[Owf];exact⟨g,_,y,_,N,I,rfl,rfl,rfl,by rw[q];exact s,G⟩
       · rcases VH.mp c with z|z
         ·exact .inr z
         ·exact .inl (Vt _ z)
     · obtain⟨i,w,l,F⟩:=Owf.put s v G j (λa c k=>hd a c (Vt _ k))
       have t:cL (((g,z)::fs).map (·.1)) f=cL (fs.map (·.1)) f:=by
        unfold cL;rw[List.map_cons,List.any_cons,decide_eq_false q,Bool.false_or]
       rw[on q,t,Vr,Vr,Vr,dI,on q]
       have C:∀a∈E,∀b∈i,a≠b:=λa c b k e=>by
        rcases F b k with z|z
        ·exact m a c b z e
        ·exact hd b z (VC _ (e▸c))
       refine⟨E++i,?_,VZ.mpr ⟨o,l,C⟩,λa c=>?_⟩
       · have:(if cL (fs.map (·.1)) f=true then d::dI (fs.map (·.1)) ds f x else (d::ds)++[x])=d::(if cL (fs.map (·.1)) f=true then dI (fs.map (·.1)) ds f x else ds++[x]):=by split<;>rfl
         rw[this,Owf];exact⟨g,_,z,_,E,i,rfl,rfl,rfl,L,w⟩
       · rcases VH.mp c with z|z
         ·exact .inl (VC _ z)
         · rcases F a z with z|z
           ·exact .inl (Vt _ z)
           ·exact .inr z
def cR(c:Nat)(f:Str)(i:Nat)(me:Tp->Out D):Tp->SO:=λM=>gD (me M) λx a=>match rg a i with
 |some d=>(match l9 c f x d with|some d'=>.nx (a.set i (some d'))|none=>.bad)
 |none=>.bad
theorem K2{K':KT D V}{c:Nat}{f:Str}{i:Nat}{sh:List (Str×Sh)}{te:TE}{me:Tp->Out D}(hc:Cls K (Y c))(hn:NoAttr K (Y c) f)(hm:T.getD i .F= .O (.ob sh))(he:MJ Y K' E T te me)
 (r:∀B U H d v N,K' d v B U H N->∃N',(N'=[]\/N'=N)/\Ow Y B H d ((sh.lookup f).getD .fz) v N'):SJ Y E Kr pr T (IX K (dD i) te f) (cR c f i me):=by
 intro B U As Z H M D R P;refine he.bndS R P λx s y I U1 g H1 N m e1 n1 hx W=>?_;obtain⟨N',hN,ow⟩:=r _ _ _ _ _ _ hx
 have J:NewM N' U1 g:=by
  rcases hN with e|e
  ·subst e;exact NewM.nil
  ·subst e;exact n1
 have l:=m.lo i;cases e:rg s i with
 |none=>rw[e]at W;exact W.elim
 |some d=>
   rw[e]at W;replace W:So Y E Kr pr T I U1 Z (match l9 c f x d with|some d'=>.nx (s.set i (some d'))|none=>.bad) D:=W;rw[e,hm]at l;obtain⟨v,hv,w⟩:=l;cases d with
   |obj p ns vs=>
     have ep:l9 c f x (.obj p ns vs)=if p=c/\ns.length<900 then some (if cL ns f=true then .obj p ns (dI ns vs f x) else .obj p (ns++[f]) (vs++[x])) else none:=rfl
     rw[ep]at W;by_cases q:p=c/\ns.length<900
     · rw[Vq q]at W;obtain⟨q1,q2⟩:=q;subst q1;have w:Ow Y I H1 (.obj p ns vs) (.ob sh) v (g i):=w;rw[Ow]at w;obtain⟨a,dx,fs,A',rfl,h1,h2,X,h4⟩:=w;subst h2;have nd:=m.nd i;rw[X]at nd;obtain⟨nd1,nd2⟩:=VQ.mp nd;have n:a∈g i:=by rw[X];exact Vu
       obtain⟨o,w2,nda,hA⟩:=Owf.put ow J.nd h4 nd2 (λb h A=>J.ap b h i (by rw[X];exact Vw _ A))
       have S:a∉o:=λz=>by
        rcases hA a z with z|z
        ·exact nd1 z
        ·exact J.ap a z i n
       refine⟨.ref a,ci hv,a,_,dx,fs,rfl,h1,hc,hn,by rw[Vs]at q2;omega,?_⟩
       have w3:Ow Y I (upd H1 a (.ins (Y p) dx (fQ f y fs))) (if cL (fs.map (·.1)) f=true then .obj p (fs.map (·.1)) (dI (fs.map (·.1)) vs f x) else .obj p (fs.map (·.1)++[f]) (vs++[x])) (.ob sh) (.ref a) (a::o):=by
        have C:=Owf.mono (H':=upd H1 a (.ins (Y p) dx (fQ f y fs))) (Same.refl I) (λb h=>aE (λz:b=a=>S (z▸h))) w2;have G:=qH (f:=f) (y:=y) (fs:=fs);by_cases k:cL (fs.map (·.1)) f=true
        ·rw[Vq k]at G C ⊢;rw[Ow];rw[G]at C;exact⟨a,dx,_,o,rfl,aM,G,rfl,C⟩
        ·rw[on k]at G C ⊢;rw[Ow];rw[G]at C;exact⟨a,dx,_,o,rfl,aM,G,rfl,C⟩
       have hi:i<s.length:=(VM.mp (ci e)).1;refine W Z I U1 (λj=>if j=i then a::o else g j) _ ⟨m.bu,λb u z=>?_,λj=>?_,λj k b Q h r=>?_,λj b h=>?_,λj=>?_,by rw[VT];exact m.len,m.tb⟩ (Ex.refl _ _) (Kp.refl _ _)
       ·rw[aE (br z (m.un i a n))];exact m.uh b u z
       · show(if j=i then a::o else g j).Nodup;split
         ·exact VQ.mpr ⟨S,nda⟩
         ·exact m.nd j
       · replace h:b∈(if j=i then a::o else g j):=h;replace r:b∈(if k=i then a::o else g k):=r
         have L:∀{j},j≠i->b∈a::o->b∈g j->False:=λ{j} hj A t=>by
          rcases VA.mp A with z|z
          ·exact m.dj i j b (W6 hj) (by rw[z];exact n) t
          · rcases hA b z with z|z
            ·exact m.dj i j b (W6 hj) (by rw[X];exact Vw _ z) t
            ·exact J.ap b z j t
         split at h
         · rename_i z1;split at r
           ·rename_i z2;exact Q (z1.trans z2.symm)
           ·rename_i z2;exact L z2 h r
         · rename_i z1;split at r
           ·exact L z1 r h
           ·exact m.dj j k b Q h r
       · replace h:b∈(if j=i then a::o else g j):=h;split at h
         · rcases VA.mp h with z|z
           ·rw[z];exact m.un i a n
           · rcases hA b z with z|z
             ·exact m.un i b (by rw[X];exact Vw _ z)
             ·exact J.un b z
         ·exact m.un j b h
       · rw[dH];show Lo Y I U1 _ (T.getD j .F) _ _ (if j=i then a::o else g j);by_cases z:i=j
         ·subst z;rw[Vq ⟨rfl,hi⟩,Vq rfl,hm];exact⟨.ref a,hv,w3⟩
         ·rw[on λy=>z y.1,on λy=>z y.symm];exact(m.lo j).mono (Same.refl _) (Same.refl _) λb h=>aE (λy:b=a=>m.dj i j a z n (y▸h))
     ·rw[on q]at W;exact W.elim
   |_=>exact W.elim
theorem ML{c:Nat}{f:Str}{i:Nat}{sh:List (Str×Sh)}{te:TE}{me:Tp->Out D}(h:Cls K (Y c))(a:NoAttr K (Y c) f)(b:T.getD i .F= .O (.ob sh))(e:(sh.lookup f).getD .fz=.fz)(g:MJ Y (KR Y .F) E T te me):SJ Y E Kr pr T (IX K (dD i) te f) (cR c f i me):=
 K2 h a b g λB U H d v N k=>⟨[],.inl rfl,by rw[e,Ow];exact⟨k,rfl⟩⟩
theorem gu{c:Nat}{f:Str}{i:Nat}{sh:List (Str×Sh)}{s:Sh}{te:TE}{me:Tp->Out D}(h:Cls K (Y c))(a:NoAttr K (Y c) f)(b:T.getD i .F= .O (.ob sh))(e:(sh.lookup f).getD .fz=s)(g:MJ Y (KO Y s) E T te me):SJ Y E Kr pr T (IX K (dD i) te f) (cR c f i me):=
 K2 h a b g λB U H d v N k=>⟨N,.inr rfl,by rw[e];exact k⟩
def dU(Y:Cm)(T:List Md)(Kr:KT D V)(a:List D->Out D):Sp:=λvs H Q _=>wN Y T Kr a vs H Q E0
def qJ(T:List Md)(a:Nat):Nat->Bool:=λj=>decide (j<a)&&(match T.getD j .F with | .O _=>true|_=>false)
theorem xa{W:Type}{l:List (Option W)}{n i:Nat}:rg (l++List.replicate n none) i=rg l i:=by
 unfold rg;by_cases h:i<l.length
 ·rw[Wq h]
 · rw[Wl (by omega),VP (show l.length<=i by omega)];by_cases a:i-l.length<n
   ·rw[Xu,Vq a];rfl
   ·rw[Xu,on a]
def iO(k:Nat)(body:Tp->SO)(ds:List D):Out D:=match body (ds.map some++List.replicate (k-ds.length) none) with
 |.rt d M=>.ok d M
 |.exc c M=>.exc c M
 |_=>.bad
theorem Rel.enter{more:List Md}{vs:List V}{ds:List D}{n:Nat}(R:Rel Y T B U As (vs.map some) H (ds.map some))(a:vs.length=T.length):Rel Y (T++more) B U As (vs.map some++List.replicate n none) H (ds.map some++List.replicate n none):=by
 have hd:ds.length=vs.length:=by have:=R.len;rw[Vs,Vs]at this;exact this
 refine⟨R.bu,R.uh,R.nd,R.dj,R.un,λi=>?_,by rw[Vy,Vy,R.len,Xf,Xf],R.tb⟩;rw[xa,xa];have l:=R.lo i;by_cases h:i<T.length
 ·rw[VL,Wq h,<-VL];exact l
 · have:rg (ds.map some) i=none:=by rw[eJ,VP (by omega)]
   rw[this]at l ⊢;exact l
theorem Rel.leave{more:List Md}{vs:List V}{d:St}{G:Tp}{n:Nat}(h:vs.length=T.length)(R:Rel Y (T++more) B U As d H G)(k:Kp (qJ T T.length) (vs.map some++List.replicate n none) d):
 ∃C,Rel Y T B U C (vs.map some) H (gh T G)/\∀N,NewM N U As->NewM N U C:=by
 refine⟨λi=>if qJ T T.length i=true then As i else [],⟨R.bu,R.uh,λi=>?_,λi j a g b f=>?_,λi a b=>?_,λi=>?_,?_,R.tb⟩,λN n=>⟨n.nd,n.un,λa b i=>?_⟩⟩
 · show(if qJ T T.length i=true then As i else []).Nodup;split
   ·exact R.nd i
   ·exact Wk
 · replace b:a∈(if qJ T T.length i=true then As i else []):=b;replace f:a∈(if qJ T T.length j=true then As j else []):=f;split at b
   · split at f
     ·exact R.dj i j a g b f
     ·cases f
   ·cases b
 · replace b:a∈(if qJ T T.length i=true then As i else []):=b;split at b
   ·exact R.un i a b
   ·cases b
 · show Lo Y B U H (T.getD i .F) (rg (gh T G) i) (rg (vs.map some) i) (if qJ T T.length i=true then As i else []);by_cases hi:i<T.length
   · have m:(T++more).getD i .F=T.getD i .F:=by
      rw[VL,Wq hi,<-VL]
     cases c:T.getD i .F with
     |O s=>
       have hp:qJ T T.length i=true:=by unfold qJ;rw[c,decide_eq_true hi];rfl
       rw[Vq hp,lN c];have l:=R.lo i;rw[m,c,k i hp,xa]at l;exact l
     |F=>
       have hp:qJ T T.length i=false:=by unfold qJ;rw[c];simp
       have e:rg (gh T G) i=none:=by
        unfold gh rg;rw[List.getElem?_map,List.getElem?_range hi];show(some (match T.getD i .F with | .O _=>_|_=>none)).join=none;rw[c];rfl
       rw[hp,e];exact rfl
     |R=>
       have hp:qJ T T.length i=false:=by unfold qJ;rw[c];simp
       have e:rg (gh T G) i=none:=by
        unfold gh rg;rw[List.getElem?_map,List.getElem?_range hi];show(some (match T.getD i .F with | .O _=>_|_=>none)).join=none;rw[c];rfl
       rw[hp,e];exact rfl
   · have hp:qJ T T.length i=false:=by unfold qJ;rw[decide_eq_false hi];rfl
     have e:rg (gh T G) i=none:=by
      unfold gh rg;rw[List.getElem?_eq_none (by rw[List.length_map,List.length_range];omega)];rfl
     rw[hp,e];exact rfl
 ·unfold gh;rw[List.length_map,List.length_map,List.length_range,h]
 · show a∉(if qJ T T.length i=true then As i else []);split
   ·exact n.ap a b i
   ·simp
theorem JN{more:List Md}{t:TS}{body:Tp->SO}{N:List Str}{vs:List V}{Q:VK}{l:List D->Out D}(q:SJ Y E0 Kr (qJ T T.length) (T++more) t body)(s:N.length=T.length+more.length)(k:l=run N.length body)(p:∀B U H,Kr .non .non B U H [])
 (h:wN Y T Kr l vs H Q E0):t {nx:=λ_ H'=>Q .non H',rt:=Q} (L2.iu N vs) H:=by
 obtain⟨B,U,As,ds,R,i,P⟩:=h;subst k;have hd:ds.length=vs.length:=by have:=R.len;rw[Vs,Vs]at this;exact this
 unfold L2.iu;refine q B U As _ H (ds.map some++List.replicate (N.length-vs.length) none) _ (R.enter i) ?_;unfold run at P;rw[hd]at P;cases e:body (ds.map some++List.replicate (N.length-vs.length) none) with
 |nx G=>
   rw[e]at P;intro b S J C H' g f k';obtain⟨a,R2,j⟩:=g.leave i k';exact P .non S J a H' [] R2 f NewM.nil (p _ _ _)
 |rt d G=>
   rw[e]at P;intro v b S J C H' r g f k' n o;obtain⟨a,R2,j⟩:=g.leave i k';exact P v S J a H' r R2 f (j _ n) o
 |exc c G=>
   rw[e]at P;intro b S J C H' g f k' m;obtain⟨a,R2,j⟩:=g.leave i k';exact P S J a H' R2 f m
 |bk G=>rw[e]at P;exact P.elim
 |ct G=>rw[e]at P;exact P.elim
 |bad=>rw[e]at P;exact P.elim
theorem GE{more:List Md}{t:TS}{body:Tp->SO}{N:List Str}{vs:List V}{Q:VK}{l:List D->Out D}(p:SJ Y E0 Kr (qJ T T.length) (T++more) t body)(r:N.length=T.length+more.length)(g:l=iO N.length body)
 (h:wN Y T Kr l vs H Q E0):t {nx:=λ_ H'=>Q .non H',rt:=Q} (L2.iu N vs) H:=by
 obtain⟨B,U,As,ds,R,f,P⟩:=h;subst g;have hd:ds.length=vs.length:=by have:=R.len;rw[Vs,Vs]at this;exact this
 unfold L2.iu;refine p B U As _ H (ds.map some++List.replicate (N.length-vs.length) none) _ (R.enter f) ?_;unfold iO at P;rw[hd]at P;cases e:body (ds.map some++List.replicate (N.length-vs.length) none) with
 |nx G=>rw[e]at P;exact P.elim
 |rt d G=>
   rw[e]at P;intro v b S J C H' q j i k' n o;obtain⟨a,R2,k⟩:=j.leave f k';exact P v S J a H' q R2 i (k _ n) o
 |exc c G=>
   rw[e]at P;intro b S J C H' j i k' m;obtain⟨a,R2,k⟩:=j.leave f k';exact P S J a H' R2 i m
 |bk G=>rw[e]at P;exact P.elim
 |ct G=>rw[e]at P;exact P.elim
 |bad=>rw[e]at P;exact P.elim
theorem zm{vs:List V}{Q:VK}{b:List D->Out D}(h:wN Y T Kr b vs H Q E):vs.length=T.length:=by
 obtain⟨_,_,_,_,_,a,_⟩:=h;exact a
end
end Mi
namespace Mi
open PySem PySem.Spec L2
mutual
def toPy:D->Option PyData
 |.non=>some .none
 |.bl b=>some (.bool b)
 |.int i=>some (.int i)
 |.str x=>some (.str x)
 |.lst xs=>(toPys xs).map .list
 |.scr xs=>(toPys xs).map .list
 |.tup xs=>(toPys xs).map .tuple
 |.ty _=>none
 |.dK _ _=>none
 |.dT _ _=>none
 |.obj _ _ _=>none
def toPys:List D->Option (List PyData)
 |[]=>some []
 | d::r=>match toPy d,toPys r with
   |some p,some q=>some (p::q)
   |_,_=>none
end
section
variable{Y:Cm}{E:XK}{Kr:KT D V}{pr:Nat->Bool}{T:List Md}{B U H:Hp}{As:Nat->List Addr}{Z:St}{M:Tp}{K:F0}
mutual
theorem den_of:∀{d:D} {p:PyData} {v:V},toPy d=some p->Dn Y H d v->L2.Den Y.K H p v
 |.non,p,v,e,h=>by rw[Dn]at h;cases e;rw[L2.Den];exact h
 |.bl _,p,v,e,h=>by rw[Dn]at h;cases e;rw[L2.Den];exact h
 |.int _,p,v,e,h=>by rw[Dn]at h;cases e;rw[L2.Den];exact h
 |.str _,p,v,e,h=>by rw[Dn]at h;cases e;rw[L2.Den];exact h
 | .lst xs,p,v,e,h=>by
   rw[Dn]at h;obtain⟨a,b,rfl,f,c⟩:=h;rw[toPy]at e;obtain⟨ps,e1,rfl⟩:=VJ.mp e;rw[L2.Den];exact⟨a,b,rfl,SqL.of f,dens_of e1 c⟩
 | .scr xs,p,v,e,h=>by
   rw[Dn]at h;obtain⟨a,b,rfl,f,c⟩:=h;rw[toPy]at e;obtain⟨ps,e1,rfl⟩:=VJ.mp e;rw[L2.Den];exact⟨a,b,rfl,f.sq,dens_of e1 c⟩
 | .tup xs,p,v,e,h=>by
   rw[Dn]at h;obtain⟨a,b,rfl,f,c⟩:=h;rw[toPy]at e;obtain⟨ps,e1,rfl⟩:=VJ.mp e;rw[L2.Den];exact⟨a,b,rfl,SqT.of f,dens_of e1 c⟩
 |.ty _,p,v,e,h=>by cases e
 |.dK _ _,p,v,e,h=>by cases e
 |.dT _ _,p,v,e,h=>by cases e
 |.obj _ _ _,p,v,e,h=>by cases e
theorem dens_of:∀{ds:List D} {ps:List PyData} {xs:List V},toPys ds=some ps->Dns Y H ds xs->L2.Dens Y.K H ps xs
 |[],ps,xs,e,h=>by rw[Dns]at h;rw[toPys]at e;cases e;rw[L2.Dens];exact h
 | d::ds,ps,xs,e,h=>by
   rw[Dns]at h;obtain⟨x,r,rfl,c,b⟩:=h;rw[toPys]at e;cases e1:toPy d with
   |none=>rw[e1]at e;cases e
   |some p=>
     cases a:toPys ds with
     |none=>rw[e1,a]at e;cases e
     |some q=>
       rw[e1,a]at e;cases e;rw[L2.Dens];exact⟨x,r,rfl,den_of e1 c,dens_of a b⟩
end
def GG(neg:Bool)(x y:D):Res D:=match toPy x,toPy y with
 |some p,some q=>if SeqAt.shaped p=true/\SeqAt.shaped q=true then .ok (.bl (neg.xor (PyData.eqv p q))) else .bad
 |_,_=>.bad
theorem lB{neg:Bool}:S2 Y (Ev Y.K neg) (GG neg):=by
 intro H x y v u b a;unfold GG;cases e1:toPy x with
 |none=>trivial
 |some p=>
   cases c:toPy y with
   |none=>trivial
   |some q=>
     dsimp only;by_cases z:SeqAt.shaped p=true/\SeqAt.shaped q=true
     ·rw[Vq z];refine⟨.bl _,λ_=>by rw[Dn],λQ h=>⟨p,q,den_of e1 b,den_of c a,z.1,z.2,?_⟩⟩;cases neg<;>simpa using h
     ·rw[on z];trivial
def Ly(x y:D):Res D:=match toPy x,toPy y with
 |some p,some (.list xs)=>if SeqAt.shaped p=true/\SeqAt.shaped (.list xs)=true/\(xs.all λz=>SeqAt.noMix z p)=true then .ok (.bl (decide (countIn p xs≠0))) else .bad
 |_,_=>.bad
theorem K1:S2 Y (λx y H Q=>∃d xs,L2.Den Y.K H d x/\L2.Den Y.K H (.list xs) y/\SeqAt.shaped d=true/\SeqAt.shaped (.list xs)=true/\(∀z∈xs,SeqAt.noMix z d=true)/\Q (.bl (decide (countIn d xs≠0))) H) Ly:=by
 intro H x y v u b a;unfold Ly;cases e1:toPy x with
 |none=>trivial
 |some p=>
   cases c:toPy y with
   |none=>trivial
   |some q=>
     cases q with
     |list xs=>
       dsimp only;by_cases z:SeqAt.shaped p=true/\SeqAt.shaped (.list xs)=true/\(xs.all λz=>SeqAt.noMix z p)=true
       ·rw[Vq z];exact⟨.bl _,λ_=>by rw[Dn],λQ h=>⟨p,xs,den_of e1 b,den_of c a,z.1,z.2.1,λy a=>WB.mp z.2.2 y a,h⟩⟩
       ·rw[on z];trivial
     |_=>trivial
def wP:D->Option String
 |.non=>some "NoneType" | .bl _=>some "bool" | .int _=>some "int" | .str _=>some "str" | .lst _=>some "list" | .tup _=>some "tuple" | .dK _ _=>some "dict" | .dT _ _=>none
 |.ty _=>none | .obj _ _ _=>none | .scr _=>none
def kit(t n:String):Option Bool:=PySem.W.kitOne [] (.type t) (.type n)
def Qu(x y:D):Res D:=match y,wP x with
 |.ty n,some t=>(match kit t n with|some b=>.ok (.bl b)|none=>.bad)
 |_,_=>.bad
theorem BF{d:D}{v:V}{t:String}(e:wP d=some t)(h:Dn Y H d v):TyOf K H v (.type t):=by
 cases d with
 |non=>rw[Dn]at h;cases e;subst h;exact .non
 |bl b=>rw[Dn]at h;cases e;subst h;exact .bl b
 |int i=>rw[Dn]at h;cases e;subst h;exact .int i
 |str x=>rw[Dn]at h;cases e;subst h;exact .str x
 |lst _=>rw[Dn]at h;cases e;obtain⟨a,xs,rfl,c,_⟩:=h;exact .lst c
 |scr _=>cases e
 |tup _=>rw[Dn]at h;cases e;obtain⟨a,xs,rfl,c,_⟩:=h;exact .tup c
 |dK _ _=>rw[Dn]at h;cases e;obtain⟨a,xs,rfl,c,_⟩:=h;exact .dK c
 |dT _ _=>cases e
 |ty _=>cases e
 |obj _ _ _=>cases e
theorem K0:S2 Y (λv u H Q=>∃x c t b,[v,u]=[x,.ty c]/\TyOf K H x t/\PySem.W.kitOne K t (.type c)=some b/\Q (.bl b) H) Qu:=by
 intro H x y v u d a;unfold Qu;cases y with
 |ty n=>
   cases e:wP x with
   |none=>trivial
   |some t=>
     dsimp only;cases f:kit t n with
     |none=>trivial
     |some b=>
       rw[Dn]at a;subst a;exact⟨.bl b,λ_=>by rw[Dn],λQ h=>⟨v,n,_,b,rfl,BF e d,f,h⟩⟩
 |_=>trivial
def UV(d:D)(M:Tp):Out Bool:=match d with | .bl b=>.ok b M|_=>.bad
def HJ(a b:Tp->Out D):Tp->Out D:=λM=>(a M).bind λx M=>(UV x M).bind λc M=>if c=true then b M else .ok (.bl false) M
theorem S0{k:Kd}{d tb:TE}{f e:Tp->Out D}(i:MJ Y (KR Y .X) E T d f)(h:MJ Y (KR Y k) E T tb e):MJ Y (KR Y k) E T (Dp d tb) (HJ f e):=by
 intro B U As Z H M Q R P;refine i.bnd R P λx G v I U1 a H1 N g e1 j c W=>?_;cases x with
 |bl b=>
   have c:Dn Y H1 (.bl b) v:=c;rw[Dn]at c;refine⟨b,c,?_⟩;cases b with
   |true=>exact h I U1 a Z H1 G Q g W
   |false=>exact W _ I U1 a H1 [] g (Ex.refl _ _) NewM.nil (show Dn Y _ (.bl false) _ by rw[Dn])
 |_=>exact W.elim
def C4(i:Nat):Tp->Out D:=λM=>match rg M i with|some d=>.ok d (M.set i none)|none=>.bad
theorem Rel.take(R:Rel Y T B U As Z H M)(i:Nat):Rel Y T B U (λj=>if j=i then [] else As j) Z H (M.set i none)/\∀a∈As i,U a=none/\∀j,a∉(λj=>if j=i then [] else As j) j:=by
 refine⟨⟨R.bu,R.uh,λj=>?_,λj k a f b d=>?_,λj a b=>?_,λj=>?_,by rw[VT];exact R.len,R.tb⟩,λa b=>⟨R.un i a b,λj c=>?_⟩⟩
 · show(if j=i then [] else As j).Nodup;split
   ·exact Wk
   ·exact R.nd j
 · replace b:a∈(if j=i then [] else As j):=b;replace d:a∈(if k=i then [] else As k):=d;split at b
   ·cases b
   · split at d
     ·cases d
     ·exact R.dj j k a f b d
 · replace b:a∈(if j=i then [] else As j):=b;split at b
   ·cases b
   ·exact R.un j a b
 · show Lo Y B U H (T.getD j .F) (rg (M.set i none) j) (rg Z j) (if j=i then [] else As j);rw[dH];by_cases e:i=j
   · subst e;rw[Vq rfl];by_cases h:i<M.length
     ·rw[Vq ⟨rfl,h⟩];exact rfl
     · rw[on λz=>h z.2]
       have:rg M i=none:=by unfold rg;rw[List.getElem?_eq_none (by omega)];rfl
       rw[this];exact rfl
   ·rw[on λz=>e z.1,on λz=>e z.symm];exact R.lo j
 · replace c:a∈(if j=i then [] else As j):=c;split at c
   ·cases c
   ·rename_i z;exact R.dj i j a (λq=>z q.symm) b c
theorem u7{i:Nat}{s:Sh}(g:T.getD i .F= .O s):MJ Y (KO Y s) E T (dD i) (C4 i):=by
 intro B U As Z H M Q R P;unfold C4 at P;have l:=R.lo i;cases e:rg M i with
 |none=>rw[e]at P;exact P.elim
 |some d=>
   rw[e]at P;rw[e,g]at l;obtain⟨v,f,w⟩:=l;obtain⟨R2,c⟩:=R.take i;exact⟨v,ci f,P v B U _ H (As i) R2 (Ex.refl _ _) ⟨R.nd i,λa b=>(c a b).1,λa b=>(c a b).2⟩ w⟩
def bx:D->Bool | .int _=>true | .bl _=>true | .non=>true | .str _=>true|_=>false
def l6:D->Bool
 |.lst xs=>xs.all bx
 |.scr xs=>xs.all bx
 |.tup xs=>xs.all bx
 |.dK _ xs=>xs.all bx
 |.dT _ xs=>xs.all bx
 |.obj _ _ xs=>xs.all bx
 |d=>bx d
def qu(m:Tp->Res D):Tp->Res D:=λM=>(m M).bind λd=>if l6 d=true then .ok d else .bad
theorem gc{G a:Hp}{d:D}{v:V}(h:bx d=true)(q:Dn Y G d v):Dn Y a d v:=by
 cases d with
 |int _=>rw[Dn]at q ⊢;exact q
 |bl _=>rw[Dn]at q ⊢;exact q
 |non=>rw[Dn]at q ⊢;exact q
 |str _=>rw[Dn]at q ⊢;exact q
 |_=>cases h
theorem fe{G c:Hp}:∀{ds:List D} {xs:List V},ds.all bx=true->Dns Y G ds xs->Dns Y c ds xs
 |[],_,_,q=>by rw[Dns]at q ⊢;exact q
 | d::ds,_,h,q=>by
   rw[List.all_cons,Xk]at h;rw[Dns]at q ⊢;obtain⟨x,r,e,b,a⟩:=q;exact⟨x,r,e,gc h.1 b,fe h.2 a⟩
theorem cS{k k':Kd}{t:TE}{m:Tp->Res D}(h:PJ Y (KC Y k) E T t m):PJ Y (KC Y k') E T t (qu m):=by
 intro B U As Z H M Q R P;refine h.bnd R P λx v I U1 H1 L _ i e1 j e W=>?_;by_cases z:l6 x=true
 · rw[Vq z]at W;refine W v I U1 H1 [] i (Gw.refl _ _ _) New.nil ?_;cases x with
   |lst ds=>obtain⟨a,xs,r,d,b⟩:=e;exact⟨a,xs,r,d,fe z b⟩
   |scr ds=>obtain⟨a,xs,r,d,b⟩:=e;exact⟨a,xs,r,d,fe z b⟩
   |tup ds=>obtain⟨a,xs,r,d,b⟩:=e;exact⟨a,xs,r,d,fe z b⟩
   |dK g ds=>obtain⟨a,xs,r,d,b,f⟩:=e;exact⟨a,xs,r,d,b,fe z f⟩
   |dT g ds=>obtain⟨a,xs,r,d,b,f⟩:=e;exact⟨a,xs,r,d,b,fe z f⟩
   |obj c ns ds=>obtain⟨a,dx,xs,r,d,b,f⟩:=e;exact⟨a,dx,xs,r,d,b,fe z f⟩
   |int _=>exact gc (G:=hp k I U1 H1) z e
   |bl _=>exact gc (G:=hp k I U1 H1) z e
   |non=>exact gc (G:=hp k I U1 H1) z e
   |str _=>exact gc (G:=hp k I U1 H1) z e
   |ty _=>cases z
 ·rw[on z]at W;exact W.elim
theorem rS{k:Kd}{t:TE}{m:Tp->Res D}(h:PJ Y (KR Y .X) E T t m):PJ Y (KR Y .F) E T t (λM=>(m M).bind λd=>if bx d=true then .ok d else .bad):=by
 intro B U As Z H M Q R P;refine h.bnd R P λx v I U1 H1 L _ b e1 c a W=>?_;by_cases z:bx x=true
 ·rw[Vq z]at W;exact W v I U1 H1 [] b (Gw.refl _ _ _) New.nil (gc z a)
 ·rw[on z]at W;exact W.elim
def kD:aP->D | .inl i=>.int i | .inr x=>.str x
def Am:D->Res D | .dT a _=>.ok (.lst (a.map λk=>.tup (k.map kD)))|_=>.bad
theorem tm{G:Hp}:∀k:List aP,Dns Y G (k.map kD) (k.map kV)
 |[]=>by rw[Wt,Wt,Dns]
 | x::k=>by
   rw[Vr,Vr,Dns];refine⟨_,_,rfl,?_,tm k⟩;cases x with
   |inl i=>show Dn Y G (.int i) (.int i);rw[Dn]
   |inr i=>show Dn Y G (.str i) (.str i);rw[Dn]
theorem Dns.of_get{G:Hp}:∀{ds:List D} {xs:List V},ds.length=xs.length->(∀(i:Nat) d x,ds[i]?=some d->xs[i]?=some x->Dn Y G d x)->Dns Y G ds xs
 | [],xs,h,_=>by
   rw[Dns];exact V2.mp h.symm
 |d::ds,[],h,_=>by cases h
 | d::ds,x::xs,h,k=>by
   rw[Dns];exact⟨x,xs,rfl,k 0 d x rfl rfl,Dns.of_get (by simpa using h) λi d x e1 a=>k (i+1) d x (by simpa using e1) (by simpa using a)⟩
theorem zW{k:Kd}{p:TE}{r:Tp->Res D}(h:PJ Y (KC Y k) E T p r):PJ Y (KO Y (.ct .fz)) E T (Ie (λxs H Q=>∃a kvs,xs=[.ref a]/\Rd H a (.dT kvs)/\
 ∀(g:List Addr) (l:Addr),g.length=kvs.length->(∀(i:Nat) k v b,kvs[i]?=some (k,v)->g[i]?=some b->H b=some (.tup (k.map kV)))->H l=none->Q (.ref l) (upd H l (.lst (g.map V.ref)))) (bL p dh)) (un Am r):=by
 intro B U As Z H M Q R P;refine h.bnd R P λx v I U1 H1 L _ f e1 X O W=>?_;cases x with
 |dT g ds=>
   obtain⟨a,kvs,rfl,K,u,h3⟩:=O;refine⟨a,kvs,rfl,K,λbs l F s C=>?_⟩
   have c:∀b∈bs,∃o,H1 b=some o/\fD o:=λb m=>by
    obtain⟨i,hi,e⟩:=XJ m;have J:bs[i]?=some b:=by rw[<-e];exact VI hi
    have G:kvs[i]?=some (kvs[i]'(by omega)):=VI (by omega);exact⟨_,s i _ _ b (by rw[G]) J,_,rfl⟩
   have R2:Rel Y T (Mi.frz I H1 bs) (Mi.frz U1 H1 bs) As Z H1 M:=f.grow (bO f.bh) (bO f.uh) (Same.refl _) (kL f.bu) (m8 f.uh) λi a h=>by
    unfold Mi.frz;split
    ·rename_i z;obtain⟨o,e,t⟩:=c a z;exact(f.nt h e t).elim
    ·exact f.un i a h
   have N:Gw I U1 H1 (Mi.frz I H1 bs) (Mi.frz U1 H1 bs) H1:=by
    refine⟨⟨bO f.bh,bO f.uh,λa o q=>?_⟩,Same.refl _,λa o q=>?_⟩
    · unfold Mi.frz at q;split at q
      ·rename_i z;obtain⟨o',e,t⟩:=c a z;rw[e]at q;cases q;exact .inr (.inr t)
      ·exact .inl q
    · unfold Mi.frz at q;split at q
      ·rename_i z;obtain⟨o',e,t⟩:=c a z;rw[e]at q;cases q;exact .inr (.inr t)
      ·exact .inl q
   have S:Po Y (KO Y (.ct .fz)) E T (Mi.frz I H1 bs) (Mi.frz U1 H1 bs) As Z H1 M (.ok (.lst (g.map λk=>.tup (k.map kD)))) Q:=Po.at W N;refine fi R2 S (Dns.of_get (by rw[List.length_map,List.length_map,F,<-u,List.length_map]) λi d x y ex=>?_) C;rw[List.getElem?_map]at y ex;obtain⟨kk,w,rfl⟩:=Option.map_eq_some_iff.mp y;obtain⟨b,A,rfl⟩:=Option.map_eq_some_iff.mp ex;rw[<-u,List.getElem?_map]at w;obtain⟨j,n,rfl⟩:=Option.map_eq_some_iff.mp w;have m:=s i j.1 j.2 b n A;rw[Dn];refine⟨b,_,rfl,?_,tm j.1⟩;unfold Mi.frz;rw[if_pos (List.mem_of_getElem? A)];exact m
 |_=>exact W.elim
def cF:List D->Option (List Int)
 |[]=>some []
 |.int i::r=>(cF r).map (i::·)
 |_::_=>none
theorem hV{G:Hp}:∀{ds:List D} {ns:List Int} {xs:List V},cF ds=some ns->Dns Y G ds xs->xs=ns.map V.int
 |[],ns,xs,e,h=>by rw[Dns]at h;cases e;rw[h];rfl
 | d::ds,ns,xs,e,h=>by
   rw[Dns]at h;obtain⟨x,r,rfl,a,b⟩:=h;cases d with
   |int i=>
     rw[cF]at e;obtain⟨T,e1,rfl⟩:=VJ.mp e;rw[Dn]at a;rw[hV e1 b,a,Vr]
   |_=>cases e
def dM:List Int->Int->Int
 |[],m=>m
 |x::r,m=>dM r (if x<m then x else m)
def gK:List Int->Int->Int
 |[],m=>m
 |x::r,m=>gK r (if m<x then x else m)
theorem i3:∀(l:List Int) (m:Int),(dM l m=m\/dM l m∈l)/\dM l m<=m/\∀x∈l,dM l m<=x
 |[],m=>⟨.inl rfl,Int.le_refl _,λ_ h=>(nomatch h)⟩
 | x::r,m=>by
   unfold dM;obtain⟨a,b,d⟩:=i3 r (if x<m then x else m);refine⟨?_,?_,λy c=>?_⟩
   · rcases a with a|a
     · by_cases z:x<m
       ·rw[Vq z]at a ⊢;exact .inr (by rw[a];exact Vu)
       ·rw[on z]at a ⊢;exact .inl a
     ·exact .inr (Vw _ a)
   ·split at b<;>split<;>omega
   · rcases VA.mp c with z|z
     ·subst z;split at b<;>split<;>omega
     ·exact d y z
theorem jO:∀(l:List Int) (m:Int),(gK l m=m\/gK l m∈l)/\m<=gK l m/\∀x∈l,x<=gK l m
 |[],m=>⟨.inl rfl,Int.le_refl _,λ_ h=>(nomatch h)⟩
 | x::r,m=>by
   unfold gK;obtain⟨a,b,d⟩:=jO r (if m<x then x else m);refine⟨?_,?_,λy c=>?_⟩
   · rcases a with a|a
     · by_cases z:m<x
       ·rw[Vq z]at a ⊢;exact .inr (by rw[a];exact Vu)
       ·rw[on z]at a ⊢;exact .inl a
     ·exact .inr (Vw _ a)
   ·split at b<;>split<;>omega
   · rcases VA.mp c with z|z
     ·subst z;split at b<;>split<;>omega
     ·exact d y z
def oA(f:List Int->Int->Int)(x d:D):Res D:=match x with
 |.lst ds=>(match cF ds with|some []=>(if bx d=true then .ok d else .bad)|some (n::ns)=>.ok (.int (f ns n))|none=>.bad)
 |_=>.bad
theorem Lc{f:List Int->Int->Int}{ok:Int->Int->Prop}(sp:∀ns n m,m∈n::ns->(∀x∈n::ns,ok m x)->m=f ns n){q o:TE}{s r:Tp->Res D}(C:PJ Y (KR Y .X) E T q s)(hd:PJ Y (KR Y .X) E T o r):
 PJ Y (KR Y .F) E T (Do (λxs A H Q=>∃p ns d,xs=[.ref p]/\A=[d]/\SqL K H p (ns.map V.int)/\(ns=[]->Q d H)/\∀m∈ns,(∀x∈ns,ok m x)->Q (.int m) H) (bL q dh) (bL o dh)) (bn (oA f) s r):=by
 intro B U As Z H M Q R P;refine C.bnd R P λx v I U1 H1 L _ N e1 S e W=>hd.bnd N W λy u j g i N2 _ R2 w O J b=>?_;have e:Dn Y H1 x v:=e;cases x with
 |lst ds=>
   rw[Dn]at e;obtain⟨a,xs,rfl,t,G⟩:=e;replace b:Po Y (KR Y .F) E T j g As Z i M (match cF ds with|some []=>(if bx y=true then .ok y else .bad)|some (n::ns)=>.ok (.int (f ns n))|none=>.bad) Q:=b;cases c:cF ds with
   |none=>rw[c]at b;exact b.elim
   |some ns=>
     have ex:=hV c G;subst ex;cases ns with
     |nil=>
       rw[c]at b;replace b:Po Y (KR Y .F) E T j g As Z i M (if bx y=true then .ok y else .bad) Q:=b;by_cases z:bx y=true
       ·rw[Vq z]at b;exact⟨a,[],u,rfl,rfl,SqL.of (w.h _ _ t),λ_=>b u j g i [] R2 (Gw.refl _ _ _) New.nil (gc z J),λm k=>(nomatch k)⟩
       ·rw[on z]at b;exact b.elim
     |cons n ns=>
       rw[c]at b;refine⟨a,n::ns,u,rfl,rfl,SqL.of (w.h _ _ t),(λz=>by cases z),λm k l=>?_⟩;rw[sp ns n m k l];exact b _ j g i [] R2 (Gw.refl _ _ _) New.nil (show Dn Y _ (.int (f ns n)) _ by rw[Dn])
 |_=>exact b.elim
theorem Na{c b:TE}{f e:Tp->Res D}(k:PJ Y (KR Y .X) E T c f)(hd:PJ Y (KR Y .X) E T b e):
 PJ Y (KR Y .F) E T (Do (λxs g H Q=>∃p ns d,xs=[.ref p]/\g=[d]/\SqL K H p (ns.map V.int)/\(ns=[]->Q d H)/\∀m∈ns,(∀x∈ns,m<=x)->Q (.int m) H) (bL c dh) (bL b dh)) (bn (oA dM) f e):=Lc (ok:=λm x=>m<=x) (λns n m j a=>by
 obtain⟨i,s2,h⟩:=i3 ns n;have l2:=a _ (i.elim (λz=>by rw[z];exact Vu) (Vw _));rcases VA.mp j with z|z
 ·rw[z]at l2 ⊢;omega
 ·have:=h m z;omega) k hd
theorem Nb{c b:TE}{f e:Tp->Res D}(k:PJ Y (KR Y .X) E T c f)(hd:PJ Y (KR Y .X) E T b e):
 PJ Y (KR Y .F) E T (Do (λxs g H Q=>∃p ns d,xs=[.ref p]/\g=[d]/\SqL K H p (ns.map V.int)/\(ns=[]->Q d H)/\∀m∈ns,(∀x∈ns,x<=m)->Q (.int m) H) (bL c dh) (bL b dh)) (bn (oA gK) f e):=Lc (ok:=λm x=>x<=m) (λns n m j a=>by
 obtain⟨i,s2,h⟩:=jO ns n;have l2:=a _ (i.elim (λz=>by rw[z];exact Vu) (Vw _));rcases VA.mp j with z|z
 ·rw[z]at l2 ⊢;omega
 ·have:=h m z;omega) k hd
def n5:D->Res D
 |.lst ds=>(match cF ds with|some ns=>(if ns.length<4000 then .ok (.int (dd ns).length) else .bad)|none=>.bad)
 |_=>.bad
theorem EQ{d:TE}{e:Tp->Res D}(h:PJ Y (KR Y .X) E T d e):PJ Y (KR Y .F) E T
 (Ie (λxs H Q=>∃a S n,xs=[.ref a]/\H a=some (.set S n)/\Q (.int n) H) (bL (Ie (λxs H Q=>∃p ns,xs=[.ref p]/\SqL K H p (ns.map V.int)/\ns.length<4000/\∀q,H q=none->Q (.ref q) (upd H q (.set (λk=>(dd ns).any (·==k)) (dd ns).length))) (bL d dh)) dh)) (un n5 e):=by
 intro B U As Z H M Q R P;refine h.bnd R P λx v I U1 H1 L _ g e1 l b W=>?_;have b:Dn Y H1 x v:=b;cases x with
 |lst ds=>
   rw[Dn]at b;obtain⟨a,xs,rfl,j,i⟩:=b;replace W:Po Y (KR Y .F) E T I U1 As Z H1 M (match cF ds with|some ns=>(if ns.length<4000 then .ok (.int (dd ns).length) else .bad)|none=>.bad) Q:=W;cases c:cF ds with
   |none=>rw[c]at W;exact W.elim
   |some ns=>
     have ex:=hV c i;subst ex;rw[c]at W;replace W:Po Y (KR Y .F) E T I U1 As Z H1 M (if ns.length<4000 then .ok (.int (dd ns).length) else .bad) Q:=W;by_cases z:ns.length<4000
     ·rw[Vq z]at W;exact⟨a,ns,rfl,SqL.of j,z,λq f=>⟨q,_,_,rfl,aM,W _ I U1 _ [] (g.new f) (Gw.newO g f) New.nil (show Dn Y _ (.int _) _ by rw[Dn])⟩⟩
     ·rw[on z]at W;exact W.elim
 |_=>exact W.elim
def vd:D->Option (Int×Int×List Int)
 |.tup [.int a,.int b,.lst xs]=>(cF xs).map λns=>(a,b,ns)
 |_=>none
theorem Ct{x:D}{a b:Int}{ns:List Int}(h:vd x=some (a,b,ns)):∃xs,x=.tup [.int a,.int b,.lst xs]/\cF xs=some ns:=by
 unfold vd at h;split at h
 ·obtain⟨T,e,c⟩:=VJ.mp h;cases c;exact⟨_,rfl,e⟩
 ·cases h
theorem fZ{x:D}{v:V}{a b:Int}{ns:List Int}(e:vd x=some (a,b,ns))(c:Dn Y H x v):∃p l,v=.ref p/\SqT K H p [.int a,.int b,.ref l]/\SqL K H l (ns.map V.int):=by
 obtain⟨xs,rfl,q⟩:=Ct e;rw[Dn]at c;obtain⟨p,s,rfl,o,i⟩:=c;rw[Dns]at i;obtain⟨w,A,rfl,m,h⟩:=i;rw[Dns]at h;obtain⟨u,z,rfl,k,g⟩:=h;rw[Dns]at g;obtain⟨t,y,rfl,j,f⟩:=g;rw[Dns]at f;rw[Dn]at m;rw[Dn]at k;rw[Dn]at j;obtain⟨l,r,rfl,d,n⟩:=j;subst m k f;rw[hV q n]at d;exact⟨p,l,rfl,SqT.of o,SqL.of d⟩
def xA(x y:D):Res D:=match toPy x,toPy y with
 |some p,some (.list xs)=>if SeqAt.shaped p=true/\SeqAt.shaped (.list xs)=true/\(xs.all λz=>SeqAt.noMix z p)=true then .ok (.bl (!decide (countIn p xs≠0))) else .bad
 |_,_=>.bad
def Eu(K:F0):R2:=λx y H Q=>∃d xs,L2.Den K H d x/\L2.Den K H (.list xs) y/\SeqAt.shaped d=true/\SeqAt.shaped (.list xs)=true/\(∀z∈xs,SeqAt.noMix z d=true)/\Q (.bl (!decide (countIn d xs≠0))) H
theorem MB:S2 Y (Eu Y.K) xA:=by
 intro H x y v u b a;unfold xA;cases e1:toPy x with
 |none=>trivial
 |some p=>
   cases c:toPy y with
   |none=>trivial
   |some q=>
     cases q with
     |list xs=>
       dsimp only;by_cases z:SeqAt.shaped p=true/\SeqAt.shaped (.list xs)=true/\(xs.all λz=>SeqAt.noMix z p)=true
       ·rw[Vq z];exact⟨.bl _,λ_=>by rw[Dn],λQ h=>⟨p,xs,den_of e1 b,den_of c a,z.1,z.2.1,λy a=>WB.mp z.2.2 y a,h⟩⟩
       ·rw[on z];trivial
     |_=>trivial
theorem B9{X:Cx}(j:X.A.units+65<cLine):lj X (compareOp .NotIn) (Eu X.K):=by
 intro G s Z H x y v u Q I e c h;obtain⟨d,xs,hd,k,b,a,i,q⟩:=h;obtain⟨l,g⟩:=den_reads I d hd e;obtain⟨bs,f⟩:=den_reads I _ k c;exact PyProof.Rows.notIn_list_dataH f g a b j i ⟨.bl _,H,I,rfl,q⟩
theorem O6{A:Around}{k:Nat}(a:Room k A):A.units+65<cLine:=by have:=a.un;omega
end
end Mi
namespace Mi
open PySem L2
def jB:List Ap->List Md->Bool
 |[],[]=>true
 |p::ps,m::r=>sX [] true p m&&jB ps r
 |_,_=>false
theorem fM:∀{ps:List Ap} {mc:List Md},jB ps mc=true->ps.length=mc.length
 |[],[],_=>rfl
 |[],_::_,h=>by cases h
 |_::_,[],h=>by cases h
 | p::ps,m::r,h=>by
   have h:(sX [] true p m&&jB ps r)=true:=h;rw[Xk]at h;rw[Vx,Vx,fM h.2]
theorem fN{T:List Md}:∀{ps:List Ap} {mc:List Md},jB ps mc=true->∀(j:Nat) p,ps[j]?=some p->sX T true p (mc.getD j .F)=true
 |[],_,_,_,_,e=>by cases e
 |_::_,[],h,_,_,_=>by cases h
 | p::ps,m::r,h,j,q,e=>by
   have h:(sX [] true p m&&jB ps r)=true:=h;rw[Xk]at h;cases j with
   |zero=>
     cases e
     have:=h.1
     cases p <;> cases m <;> first | exact this | cases this
   |succ j=>rw[WN];exact fN h.2 j q (by simpa using e)
def pc(b:List D->Out D)(a:Tp->Res (List D)):Tp->Res D:=λM=>(a M).bind (f9 b)
def pm(c:Nat)(b:Str)(d:List D->Out D)(o:Tp->Res D)(a:Tp->Res (List D)):Tp->Res D:=λM=>(o M).bind λo=>if bH c b o=true then (a M).bind λds=>f9 d (o::ds) else .bad
def pk(c:Nat)(b:List D->Out D)(a:Tp->Res (List D)):Tp->Res D:=λM=>(a M).bind (gM c b)
def mc(ps:List Ap)(b:List D->Out D)(a:Tp->Res (List D)):Tp->Out D:=λM=>((a M).up M).bind (cC ps b)
def mm(c:Nat)(b:Str)(ps:List Ap)(d:List D->Out D)(o:Tp->Res D)(a:Tp->Res (List D)):Tp->Out D:=λM=>((o M).up M).bind λo M=>if bH c b o=true then ((a M).up M).bind λds M=>cC ps d (o::ds) M else .bad
section
variable{Y:Cm}{Kr:KT D V}{pr:Nat->Bool}{T:List Md}{K:F0}
theorem fT{a:List Md}{c:List D->Out D}{ps:List Ap}{t:TA}{m:Tp->Res (List D)}(h:AJ Y E0 T ps t m)(b:jB ps a=true):PJ Y (KR Y .F) E0 T (qB (dU Y a (KR Y .F) c) [] E0 t) (pc c m):=
 EU h (fM b) (fN b) λ_ _ _ _ _ _ _ h=>h
theorem iS{s:Sh}{a:List Md}{c:List D->Out D}{ps:List Ap}{t:TA}{m:Tp->Res (List D)}(h:AJ Y E0 T ps t m)(b:jB ps a=true):PJ Y (KO Y s) E0 T (qB (dU Y a (KO Y s) c) [] E0 t) (pc c m):=
 EU h (fM b) (fN b) λ_ _ _ _ _ _ _ h=>h
theorem ff{c:Nat}{d:Str}{a:List Md}{g:List D->Out D}{p:Ap}{ps:List Ap}{b:TE}{e:Tp->Res D}{t:TA}{m:Tp->Res (List D)}(i:A1J Y E0 T p b e)(h:AJ Y E0 T ps t m)(f:jB (p::ps) a=true):
 PJ Y (KR Y .F) E0 T (iL (Y c) d (dU Y a (KR Y .F) g) [] E0 b t) (pm c d g e m):=EO i h (fM f) (fN f) λ_ _ _ _ _ _ _ h=>h
theorem gv{s:Sh}{c:Nat}{d:Str}{a:List Md}{g:List D->Out D}{p:Ap}{ps:List Ap}{b:TE}{e:Tp->Res D}{t:TA}{m:Tp->Res (List D)}(i:A1J Y E0 T p b e)(h:AJ Y E0 T ps t m)(f:jB (p::ps) a=true):
 PJ Y (KO Y s) E0 T (iL (Y c) d (dU Y a (KO Y s) g) [] E0 b t) (pm c d g e m):=EO i h (fM f) (fN f) λ_ _ _ _ _ _ _ h=>h
theorem EE{c:Nat}{sh:List (Str×Sh)}{a:List Md}{d:List D->Out D}{ps:List Ap}{t:TA}{m:Tp->Res (List D)}(h:AJ Y E0 T ps t m)(b:jB ps a=true):
 PJ Y (KO Y (.ob sh)) E0 T (Df (Y c) (dU Y (.O (.ob sh)::a) (KR Y .F) d) [] E0 t) (pk c d m):=
 Nc h (by rw[Vx,fM b]) rfl λj p e=>by rw[WN];exact fN b j p e
theorem Ae{a:List Md}{b:List D->Out D}{ps:List Ap}{t:TA}{m:Tp->Res (List D)}(h:AJ Y E0 T ps t m)(c:fitM T ps a)(hd:(dG ps).Nodup)(d:∀i∈j5 ps,i∉dG ps):
 MJ Y (KR Y .F) E0 T (qB (dU Y a (KR Y .F) b) [] E0 t) (mc ps b m):=OQ h c hd d λ_ _ _ _ _ _ _ h=>h
theorem c8{c:Nat}{d:Str}{a:List Md}{f:List D->Out D}{p:Ap}{ps:List Ap}{b:TE}{e:Tp->Res D}{t:TA}{m:Tp->Res (List D)}(k:A1J Y E0 T p b e)(h:AJ Y E0 T ps t m)(g:fitM T (p::ps) a)(hd:(dG (p::ps)).Nodup)
 (j:∀i∈j5 (p::ps),i∉dG (p::ps)):MJ Y (KR Y .F) E0 T (iL (Y c) d (dU Y a (KR Y .F) f) [] E0 b t) (mm c d (p::ps) f e m):=OH k h g hd j λ_ _ _ _ _ _ _ h=>h
theorem Rj{B U H:Hp}{N:List Addr}:KR Y .F .non .non B U H N:=show Dn Y B .non .non by rw[Dn]
end
theorem rA{Y:Cm}{G:Hp}:∀ns:List Int,Dns Y G (ns.map D.int) (ns.map V.int)
 |[]=>by rw[Wt,Wt,Dns]
 | n::r=>by
   rw[Vr,Vr,Dns];exact⟨_,_,rfl,by rw[Dn],rA r⟩
theorem OW{Y:Cm}{b:List D->Out D}(h:∀ns:List Int,ns.length<=63->∃M,b [.scr (ns.map D.int)]=.ok (.bl true) M){vs:List V}{H:Hp}{Q:VK}{a:Addr}{ns:List Int}(c:vs=[.ref a])(f:SqF Y.K H a (ns.map V.int))(j:ns.length<=63)(d:∀p∈Y.tb,∃l,H p.1=some (.tbl l)/\p.2∈l)(g:∀H',Q (.bl true) H'):
 wN Y [.R] (KR Y .F) b vs H Q E0:=by
 subst c;obtain⟨M,e⟩:=h ns j;refine⟨H,H,λ_=>[],[.scr (ns.map D.int)],⟨Same.refl _,Same.refl _,λ_=>Wk,λ_ _ _ _ z=>(nomatch z),λ_ _ z=>(nomatch z),λi=>?_,rfl,d⟩,rfl,?_⟩
 · rw[eJ,eJ];cases i with
   |zero=>exact⟨.ref a,rfl,by show Dn Y H (.scr _) _;rw[Dn];exact⟨a,_,rfl,f,rA ns⟩,rfl⟩
   |succ i=>exact rfl
 ·rw[e];intro v S J C H' N o n m k;have k:Dn Y S (.bl true) v:=k;rw[Dn]at k;rw[k];exact g H'
theorem L6{K:F0}{H:Hp}{a:Addr}{xs:List V}{T:Tbs}(o:HW T H)(h:SqL K H a xs):SqF K H a xs:=by
 rcases h with (h|h)|h
 · rcases o.2 a with z|⟨ob,b,z⟩|z
   ·rw[z]at h;cases h
   ·rw[z]at h;cases h
   ·rw[z]at h;cases h
 ·exact .inl h
 ·exact .inr h
theorem QE{H:Hp}{T:Tbs}(o:HW T H):∀p∈T,∃l,H p.1=some (.tbl l)/\p.2∈l:=λp hp=>⟨_,o.1 p hp,Tbs.mem.mpr hp⟩
def ql(m:Tp->Res D):Tp->Res D:=λM=>(m M).bind λd=>if bx d=true then .ok d else .bad
def BV(xs:List D)(x:D):Option (D×List D):=match toPy x,toPys xs with
 |some d,some ds=>if SeqAt.shaped d=true/\ds.all SeqAt.shaped=true then (ds.findIdx? λe=>PyData.eqv e d).map λj=>(.non,xs.eraseIdx j) else none
 |_,_=>none
def d4:List (List aP)->List D->List aP->List (List aP)×List D
 |k::a,d::ds,j=>if k=j then d4 a ds j else (k::(d4 a ds j).1,d::(d4 a ds j).2)
 |_,_,_=>([],[])
def AC:D->D->Option (D×D)
 |.dT a vs,.tup k=>(bV k).bind λk=>(bF a vs k).map λx=>(x,.dT (d4 a vs k).1 (d4 a vs k).2)
 |_,_=>none
def vv(set:Tp->D->Tp)(d:D)(M:Tp):Res D->Out D
 |.ok k=>(match AC d k with|some (x,d')=>.ok x (set M d')|none=>.bad)
 |.exc c=>.exc c M
 |.bad=>.bad
def oK(get:Tp->Option D)(set:Tp->D->Tp)(mk:Tp->Res D):Tp->Out D:=λM=>match get M with
 |some (.dT a vs)=>vv set (.dT a vs) M (mk M)
 |_=>.bad
section
variable{Y:Cm}{E:XK}{T:List Md}{B U H:Hp}{As:Nat->List Addr}{Z:St}{M:Tp}{t:TE}{get:Tp->Option D}{set:Tp->D->Tp}
theorem FY{te:TE}{me:Tp->Res D}(p:Pth Y T t get set)(v:PJ Y (KR Y .X) E T te me):MJ Y (KR Y .F) E T (L3 Y.K "list" (zQ Y.K) t (bL te dh)) (mQ get set BV me):=
 F1 (f:=BV) p v λB U H a ds xs x u d C Q bu uh A q g b k=>by
  have g:Dn Y H x u:=g;unfold BV at b;cases e1:toPy x with
  |none=>rw[e1]at b;cases b
  |some c=>
    cases n:toPys ds with
    |none=>rw[e1,n]at b;cases b
    |some ps=>
      rw[e1,n]at b;replace b:(if SeqAt.shaped c=true/\ps.all SeqAt.shaped=true then (ps.findIdx? λe=>PyData.eqv e c).map λj=>(D.non,ds.eraseIdx j) else none)=some (d,C):=b;by_cases z:SeqAt.shaped c=true/\ps.all SeqAt.shaped=true
      · rw[Vq z]at b;obtain⟨j,G,I⟩:=VJ.mp b;cases I;obtain⟨o,hp,h⟩:=List.findIdx?_eq_some_iff_getElem.mp G;refine⟨a,xs,u,c,ps,j,rfl,rfl,A,den_of e1 g,dens_of n (Dns.mono (bu.trans uh) q),z.1,λy r=>WB.mp z.2 y r,o,λm e l J=>?_,k .non _ (by rw[Dn]) (q.erase _)⟩;by_cases w:m=j
        ·subst w;rw[VI o]at l;cases l;rw[hp];simp
        · have:=h m (by omega)
          obtain⟨s,i⟩:=VM.mp l;rw[i]at this;rw[Wd w];simpa using this
      ·rw[on z]at b;cases b
theorem oI{G:Hp}{k:List aP}:∀{kvs:List (List aP×V)} {ds:List D},Dns Y G ds (kvs.map (·.2))->(fo kvs k).map (·.1)=(d4 (kvs.map (·.1)) ds k).1/\Dns Y G (d4 (kvs.map (·.1)) ds k).2 ((fo kvs k).map (·.2))
 | [],ds,h=>by
   cases ds<;>exact⟨rfl,by show Dns Y G [] [];rw[Dns]⟩
 | p::kvs,ds,h=>by
   cases ds with
   |nil=>rw[Dns]at h;cases h
   |cons d ds=>
     rw[List.map_cons,Dns]at h;obtain⟨y,r,e,f,c⟩:=h;cases e;obtain⟨b,a⟩:=oI (k:=k) c;unfold fo at b a ⊢;rw[List.map_cons,List.filter_cons,d4];by_cases q:p.1=k
     ·rw[on (by simp[q]),Vq q];exact⟨b,a⟩
     ·rw[Vq (by simpa using q),on q];refine⟨by rw[Vr,b],?_⟩;rw[Vr,Dns];exact⟨_,_,rfl,f,a⟩
theorem yf{r:TE}{mk:Tp->Res D}(p:Pth Y T t get set)(S:PJ Y (KR Y .X) E T r mk):MJ Y (KR Y .F) E T (Dh t r) (oK get set mk):=by
 intro B U As Z H M Q R P;unfold oK at P;cases e:get M with
 |none=>rw[e]at P;exact P.elim
 |some d=>
   obtain⟨v,A,O,C,hA,cl⟩:=p.rd R e;cases d with
   |dT i vs=>
     rw[e]at P;replace P:Mo Y (KR Y .F) E T B U Z (vv set (.dT i vs) M (mk M)) Q:=P;obtain⟨a,kvs,rfl,z,h2,rfl,h3⟩:=C.dT rfl;refine O _ ⟨a,rfl,.inr ⟨kvs,.inl z⟩,S B U As Z H M _ R ?_⟩;cases o:mk M with
     |exc c=>rw[o]at P;exact λI U1 H1 q g=>P I U1 As H1 q g.toEx
     |bad=>rw[o]at P;exact P.elim
     |ok l=>
       rw[o]at P;intro u I U1 H1 N q g n1 m;have m:Dn Y H1 l u:=m;replace P:Mo Y (KR Y .F) E T B U Z (match AC (.dT i vs) l with|some (x,d')=>.ok x (set M d')|none=>.bad) Q:=P;cases f:AC (.dT i vs) l with
       |none=>rw[f]at P;exact P.elim
       |some xd=>
         obtain⟨x,d'⟩:=xd;rw[f]at P;cases l with
         |tup J=>
           replace f:((bV J).bind λk=>(bF i vs k).map λx=>(x,D.dT (d4 i vs k).1 (d4 i vs k).2))=some (x,d'):=f;obtain⟨n,ek,f⟩:=Xw.mp f;obtain⟨y,ey,f⟩:=VJ.mp f;cases f;rw[Dn]at m;obtain⟨b,xs,rfl,W,V⟩:=m;have ex:=fY ek V;subst ex;subst h2;have j:Dns Y I vs (kvs.map (·.2)):=h3.mono g.b;have s:=gN (Y:=Y) (G:=I) n j;rw[ey]at s;obtain⟨w,ew,dw⟩:=s;obtain⟨L,K⟩:=oI (Y:=Y) (G:=I) (k:=n) j;refine⟨kvs,n,b,w,g.h _ _ z,rfl,W,ew,?_⟩;refine P w I U1 As _ [] (cl I U1 H1 q g.b g.h a Vu _ _ ?_) g.toEx NewM.nil dw;rw[<-L];exact Ow.dT' aM K
         |_=>cases f
   |_=>rw[e]at P;exact P.elim
end
section
variable{Y:Cm}{E:XK}{T:List Md}
theorem mZ{b:TE}{a:Tp->Res D}(f:PJ Y (KR Y .F) E T b a):PJ Y (KI Y .F .U) E T (vh Y.K b) (ke a):=by
 intro B U As Z H M Q R P;refine sS f B U As Z H M Q R ?_;cases e:ke a M with
 |ok ds=>
   rw[e]at P;intro J I U1 H1 N d g n ⟨vs,h,hd⟩;exact P J I U1 H1 N d g n ⟨vs,λi s=>h i (d.bu.trans s),hd⟩
 |exc c=>rw[e]at P;exact P
 |bad=>rw[e]at P;exact P
end
theorem Va{k:Nat}{A:Around}(r:Room k A):A.units+66<cLine:=by have:=r.un;omega
end Mi
namespace L2
open PySem PySem.Spec PyProof.Rows
section
variable{X:Cx}(K:F0)
theorem cQ(h:X.K=K):Uy X (I8 K):=by subst h;exact JH
theorem fK(h:X.K=K):Uy X (MU K):=by subst h;exact O2
theorem bS(h:X.K=K):dR X (.builtin "len") (λxs H Q=>∃p a,xs=[.ref p]/\(SqL K H p a\/SqT K H p a)/\Q (.int a.length) H):=by subst h;exact uf
theorem eV(h:X.K=K):dR X (.type "list") (λxs H Q=>∃p a,xs=[.ref p]/\(SqL K H p a\/SqT K H p a)/\∀l,H l=none->Q (.ref l) (upd H l (.lst a))):=by subst h;exact ue
theorem f8(h:X.K=K):dR X (.type "tuple") (λxs H Q=>∃p a,xs=[.ref p]/\((SqL K H p a/\∀l,H l=none->Q (.ref l) (upd H l (.tup a)))\/(SqT K H p a/\Q (.ref p) H))):=by subst h;exact qv
theorem yU(h:X.K=K)(a:X.calm=true):dR X (.type "set") (λxs H Q=>∃p ns,xs=[.ref p]/\SqL K H p (ns.map V.int)/\ns.length<4000/\∀q,H q=none->Q (.ref q) (upd H q (.set (λk=>(dd ns).any (·==k)) (dd ns).length))):=by subst h;exact CP a
theorem yW(h:X.K=K)(b:X.calm=true):ji X (.builtin "min") ["default"] (λxs a H Q=>∃p ns d,xs=[.ref p]/\a=[d]/\SqL K H p (ns.map V.int)/\(ns=[]->Q d H)/\∀m∈ns,(∀x∈ns,m<=x)->Q (.int m) H):=by subst h;exact CV b
theorem yX(h:X.K=K)(b:X.calm=true):ji X (.builtin "max") ["default"] (λxs a H Q=>∃p ns d,xs=[.ref p]/\a=[d]/\SqL K H p (ns.map V.int)/\(ns=[]->Q d H)/\∀m∈ns,(∀x∈ns,x<=m)->Q (.int m) H):=by subst h;exact CW b
theorem ku(h:X.K=K)(a:X.A.units+64<cLine):lj X (compareOp .Eq) (Ev K false):=by subst h;exact Nl a
theorem Jk(h:X.K=K)(a:X.A.units+64<cLine):lj X (compareOp .NotEq) (Ev K true):=by subst h;exact Nj a
theorem zZ(h:X.K=K)(a:X.A.units+65<cLine):lj X (compareOp .In) (λx y H Q=>∃d xs,Den K H d x/\Den K H (.list xs) y/\SeqAt.shaped d=true/\SeqAt.shaped (.list xs)=true/\(∀z∈xs,SeqAt.noMix z d=true)/\Q (.bl (decide (countIn d xs≠0))) H):=by subst h;exact Nk a
theorem xu(h:X.K=K)(a:X.A.units+65<cLine):lj X (compareOp .NotIn) (Mi.Eu K):=by subst h;exact Mi.B9 a
theorem rK(h:X.K=K):dR X (.builtin "isinstance") (λxs H Q=>∃x c t b,xs=[x,.ty c]/\TyOf K H x t/\PySem.W.kitOne K t (.type c)=some b/\Q (.bl b) H):=by subst h;exact HG
theorem ax{e:Expr}{a:TE}{f:Str}{pos:Pos}(h:X.K=K)(b:PE X e a)(c:attributeBase e f X.env (eval e X.env)=eval e X.env):PE X (.Attribute e f pos) (qp K a f):=by subst h;exact M5 b c
theorem fg{b l:Expr}{a:TE}(h:X.K=K)(c:PE X l a):PI X b l (vh K a):=by subst h;exact Jf c
end
end L2
namespace Mi
open PySem L2
def spT(K:F0)(T:Tbs):Sp:=λvs H Q _=>∃(a:Addr) (ns:List Int),vs=[.ref a]/\SqF K H a (ns.map V.int)/\ns.length<=63/\(∀p∈T,∃l,H p.1=some (.tbl l)/\p.2∈l)/\∀H',Q (.bl true) H'
def ir:List D->Option (List Bool)
 |[]=>some []
 |.bl b::r=>(ir r).map (b::·)
 |_::_=>none
def uj:D->Res D
 |.lst ds=>(match ir ds with|some bs=>.ok (.bl (bs.any id))|none=>.bad)
 |_=>.bad
def gO:List D->Option (List (Int×Int×List Int))
 |[]=>some []
 |d::r=>match vd d,gO r with|some k,some a=>some (k::a)|_,_=>none
def u4(x d:D):Res D:=match x with
 |.lst []=>if bx d=true then .ok d else .bad
 | .lst (e::r)=>(match gO (e::r) with
   |some a=>(match (e::r)[PySem.argBest (λi j=>fj (a.getD i (0,0,[])) (a.getD j (0,0,[]))) r.length]? with|some y=>.ok y|none=>.bad)
   |none=>.bad)
 |_=>.bad
section
variable{Y:Cm}{E:XK}{T:List Md}{K:F0}
theorem mN{G:Hp}:∀{ds:List D} {bs:List Bool} {xs:List V},ir ds=some bs->Dns Y G ds xs->xs=bs.map V.bl
 |[],ns,xs,e,h=>by rw[Dns]at h;cases e;rw[h];rfl
 | d::ds,ns,xs,e,h=>by
   rw[Dns]at h;obtain⟨x,r,rfl,a,b⟩:=h;cases d with
   |bl i=>
     rw[ir]at e;obtain⟨T,e1,rfl⟩:=VJ.mp e;rw[Dn]at a;rw[mN e1 b,a,Vr]
   |_=>cases e
theorem Rh:S1 Y (λv H Q=>∃p,∃bs:List Bool,[v]=[.ref p]/\SqL K H p (bs.map V.bl)/\Q (.bl (bs.any id)) H) uj:=by
 intro H x v c;cases x with
 |lst ds=>
   rw[Dn]at c;obtain⟨a,xs,rfl,f,d⟩:=c;cases e:ir ds with
   |none=>
     have b:uj (.lst ds)=.bad:=by simp only[uj,e]
     rw[b];trivial
   |some bs=>
     have b:uj (.lst ds)=.ok (.bl (bs.any id)):=by simp only[uj,e]
     rw[b];have ex:=mN e d;subst ex;exact⟨.bl _,λ_=>by rw[Dn],λQ q=>⟨a,bs,rfl,SqL.of f,q⟩⟩
 |_=>trivial
theorem qV:∀{ds:List D} {a:List (Int×Int×List Int)},gO ds=some a->ds.length=a.length
 |[],a,e=>by cases e;rfl
 | d::r,a,e=>by
   unfold gO at e;cases e1:vd d with
   |none=>rw[e1]at e;cases e
   |some k=>
     cases b:gO r with
     |none=>rw[e1,b]at e;cases e
     |some l=>rw[e1,b]at e;cases e;rw[Vx,Vx,qV b]
theorem vc:∀{ds:List D} {a:List (Int×Int×List Int)} {i:Nat} {d:D},gO ds=some a->ds[i]?=some d->vd d=some (a.getD i (0,0,[]))
 |[],a,i,d,e,h=>by cases h
 | x::r,a,i,d,e,h=>by
   unfold gO at e;cases e1:vd x with
   |none=>rw[e1]at e;cases e
   |some k=>
     cases b:gO r with
     |none=>rw[e1,b]at e;cases e
     |some l=>
       rw[e1,b]at e;cases e;cases i with
       |zero=>cases h;exact e1
       |succ i=>rw[WN];exact vc b (by simpa using h)
theorem M9{N J:TE}{S O:Tp->Res D}(ha:PJ Y (KC Y .F) E T N S)(hd:PJ Y (KR Y .X) E T J O):
 PJ Y (KR Y .F) E T (Do (λxs zs H Q=>∃p vs d,∃f:List (Int×Int×List Int),xs=[.ref p]/\zs=[d]/\SqL K H p vs/\vs.length=f.length/\(∀i v,vs[i]?=some v->Qp K H v (f.getD i (0,0,[])))/\
  (vs=[]->Q d H)/\∀v,vs[PySem.argBest (λi j=>fj (f.getD i (0,0,[])) (f.getD j (0,0,[]))) (vs.length-1)]?=some v->Q v H) (bL N dh) (bL J dh)) (bn u4 S O):=by
 intro B U As Z H M Q R P;refine ha.bnd R P λx v I U1 H1 L _ R1 e1 n1 o W=>hd.bnd R1 W λy u t q s N2 _ R2 V n2 d2 c=>?_;have o:Cn Y I H1 x v:=o;cases x with
 |lst ds=>
   have o:∃a xs,v=.ref a/\H1 a=some (.lst xs)/\Dns Y I ds xs:=o;obtain⟨a,xs,rfl,h1,G⟩:=o;have n:=V.h _ _ h1;have m:=G.mono V.b;cases ds with
   |nil=>
     rw[Dns]at G;subst G;replace c:Po Y (KR Y .F) E T t q As Z s M (if bx y=true then .ok y else .bad) Q:=c;by_cases z:bx y=true
     ·rw[Vq z]at c;exact⟨a,[],u,[],rfl,rfl,SqL.of n,rfl,λi v e=>(nomatch e),λ_=>c u t q s [] R2 (Gw.refl _ _ _) New.nil (gc z d2),λv e=>by cases e⟩
     ·rw[on z]at c;exact c.elim
   |cons e r=>
     replace c:Po Y (KR Y .F) E T t q As Z s M (match gO (e::r) with
      |some f=>(match (e::r)[PySem.argBest (λi j=>fj (f.getD i (0,0,[])) (f.getD j (0,0,[]))) r.length]? with|some y=>.ok y|none=>.bad)
      |none=>.bad) Q:=c
     cases A:gO (e::r) with
     |none=>rw[A]at c;exact c.elim
     |some f=>
       rw[A]at c;replace c:Po Y (KR Y .F) E T t q As Z s M (match (e::r)[PySem.argBest (λi j=>fj (f.getD i (0,0,[])) (f.getD j (0,0,[]))) r.length]? with|some y=>.ok y|none=>.bad) Q:=c;have C:=m.len;refine⟨a,xs,u,f,rfl,rfl,SqL.of n,by rw[<-C,qV A],λi v w=>?_,λz=>?_,λv w=>?_⟩
       ·obtain⟨d,k,g⟩:=m.geti w;obtain⟨p,l,rfl,q1,q2⟩:=fZ (K:=K) (vc A k) (Dn.mono R2.bh g);exact⟨p,l,rfl,q1,q2⟩
       ·subst z;cases C
       ·rw[<-C,Vx,Nat.add_sub_cancel]at w;obtain⟨d,k,g⟩:=m.geti w;rw[k]at c;exact c v t q s [] R2 (Gw.refl _ _ _) New.nil g
 |_=>exact c.elim
end
section
variable{Y:Cm}{E:XK}{T:List Md}
theorem fF(i:Nat)(a:T.getD i .F= .F:=by rfl):PJ Y (KR Y .F) E T (dD i) (vr i):=xF a
theorem fR(i:Nat)(a:T.getD i .F= .R:=by rfl):PJ Y (KR Y .U) E T (dD i) (vr i):=xR a
theorem fO(i:Nat){sh:Sh}(a:T.getD i .F= .O sh:=by rfl):PJ Y (KR Y .X) E T (dD i) (vr i):=xO a
theorem fC(i:Nat)(a:T.getD i .F= .O (.ct .fz):=by rfl):PJ Y (KC Y .F) E T (dD i) (vr i):=xC a
end
theorem Td{k:Nat}{A:Around}(r:Room k A):A.units+101<cLine:=by have:=r.un;omega
end Mi
namespace L2
open PySem PySem.Spec PyProof.Rows
section
variable{X:Cx}(K:F0)
theorem CT(h:X.K=K)(a:X.calm=true):dR X (.builtin "any") (λxs H Q=>∃p,∃bs:List Bool,xs=[.ref p]/\SqL K H p (bs.map V.bl)/\Q (.bl (bs.any id)) H):=by subst h;exact CU a
theorem wB(h:X.K=K)(e:X.calm=true)(c:X.A.units+101<cLine):ji X (.builtin "min") ["default"] (λxs b H Q=>∃p vs d,∃a:List (Int×Int×List Int),xs=[.ref p]/\b=[d]/\SqL K H p vs/\vs.length=a.length/\(∀i v,vs[i]?=some v->Qp K H v (a.getD i (0,0,[])))/\
 (vs=[]->Q d H)/\∀v,vs[PySem.argBest (λi j=>fj (a.getD i (0,0,[])) (a.getD j (0,0,[]))) (vs.length-1)]?=some v->Q v H):=by subst h;exact yV e c
end
end L2
namespace Gd
open PySem L2
theorem Qa:bootBuiltins "any" = some (.builtin "any"):=by decide +kernel
end Gd
namespace Mi
open PySem L2
def xf:D->D->Res D
 |.lst xs,.int k=>if (0<=k/\k<=1000000)/\xs.length*k.toNat<=aq then .ok (.lst (List.replicate k.toNat xs).flatten) else .bad
 |_,_=>.bad
section
variable{Y:Cm}{E:XK}{T:List Md}
theorem Dns.rep{B:Hp}{ds:List D}{xs:List V}(h:Dns Y B ds xs):∀k:Nat,Dns Y B (List.replicate k ds).flatten (List.replicate k xs).flatten
 |0=>by rw[List.replicate_zero,List.replicate_zero,List.flatten_nil,List.flatten_nil,Dns]
 |k+1=>by rw[Wb,Wb,Wr,Wr];exact Dns.append h (Dns.rep h k)
theorem Rq{f tb:TE}{i g:Tp->Res D}(o:PJ Y (KC Y .F) E T f i)(n:PJ Y (KR Y .X) E T tb g):PJ Y (KO Y (.ct .fz)) E T (Ic Rn f tb) (bn xf i g):=by
 intro B U As Z H M Q R P;refine o.bnd R P λx v I U1 H1 L _ s e1 A d W=>n.bnd s W λy u t r m C _ R2 l w e c=>?_;have d:Cn Y I H1 x v:=d;have e:Dn Y m y u:=e;cases x with
 |lst ds=>
   have d:∃a xs,v=.ref a/\H1 a=some (.lst xs)/\Dns Y I ds xs:=d;obtain⟨a,xs,rfl,q,j⟩:=d;cases y with
   |int k=>
     rw[Dn]at e;subst e;replace c:Po Y (KO Y (.ct .fz)) E T t r As Z m M (if (0<=k/\k<=1000000)/\ds.length*k.toNat<=aq then .ok (.lst (List.replicate k.toNat ds).flatten) else .bad) Q:=c;by_cases z:(0<=k/\k<=1000000)/\ds.length*k.toNat<=aq
     ·rw[Vq z]at c;refine⟨a,k,xs,rfl,rfl,l.h _ _ q,by omega,by omega,?_,λp hp=>fi R2 c ((j.mono l.b).rep _) hp⟩;rw[<-j.len];exact VW z.2 (by decide)
     ·rw[on z]at c;exact c.elim
   |_=>exact c.elim
 |_=>exact c.elim
end
end Mi
namespace L2
open PySem
theorem S5{P:List Value->Prop}(h:P []):∀us:List Value,us.length=0->P us:=by
 intro us a;rw[V2.mp a];exact h
theorem jy{P:List Value->Prop}(h:∀c:Value,P [c]):∀us:List Value,us.length=1->P us:=by
 intro us b;cases us with
 |nil=>cases b
 |cons a us=>exact S5 (P:=λus=>P (a::us)) (h a) us (XN b)
theorem dY{P:List Value->Prop}(h:∀d c:Value,P [d,c]):∀us:List Value,us.length=2->P us:=by
 intro us b;cases us with
 |nil=>cases b
 |cons a us=>exact jy (P:=λus=>P (a::us)) (h a) us (XN b)
theorem dX{P:List Value->Prop}(h:∀e d c:Value,P [e,d,c]):∀us:List Value,us.length=3->P us:=by
 intro us b;cases us with
 |nil=>cases b
 |cons a us=>exact dY (P:=λus=>P (a::us)) (h a) us (XN b)
theorem Ak{P:List Value->Prop}(h:∀f e d c:Value,P [f,e,d,c]):∀us:List Value,us.length=4->P us:=by
 intro us b;cases us with
 |nil=>cases b
 |cons a us=>exact dX (P:=λus=>P (a::us)) (h a) us (XN b)
theorem S4{P:List Value->Prop}(h:∀g f e d c:Value,P [g,f,e,d,c]):∀us:List Value,us.length=5->P us:=by
 intro us b;cases us with
 |nil=>cases b
 |cons a us=>exact Ak (P:=λus=>P (a::us)) (h a) us (XN b)
end L2
namespace L2
open PySem PySem.Spec PyProof.Rows
def CX1(P:Program)(w:World):C3:=λouter H s E e a=>∃(c C:Addr) (f:Value) (B:Heap) (H':Hp),e=.ref c/\a.os=s.os/\AllBare a.gens/\Un (ym outer) (ym outer) H H' s.heap B/\HOk P w H' B/\
 Heap.FlyingW B outer c (.ref C) f a.heap/\(∀b∈ym outer,∀o,s.heap.get? b=some o->∃d,a.heap.get? b=some {o with slots:=d})/\(∀b∈ym outer,H' b=none)/\E (.ref C) none H'
structure Own (X:Cx) (E:XK):Prop where
 xe:X.xe=λe s'=>wpAny (model X.prog X.w) X.A («leaving» X.env e) (λ_ s''=>CX1 X.prog X.w X.outer X.H₀ X.s₀ E e s'') (λe' s''=>CX1 X.prog X.w X.outer X.H₀ X.s₀ E e' s'')  s'
 ex:X.ex=[]
 stk:X.stack=X.env::X.outer
 fr:X.env.frame=some X.env.locals
def Ss(K:F0)(C:Addr):List Value:=match K.lookup C with
 |some ⟨_,_,.cls a,_⟩=>a.mro
 |_=>[]
abbrev vBm:List Value:=[.type "ValueError",.type "Exception",.type "BaseException",.type "object"]
def Tn(K:F0)(C:Addr):Bool:=PySem.W.excIn K C vBm "ValueError.__new__"
end L2
namespace PySem.W
open PySem PySem.Spec PySem.Calls PyProof.Rows
open Builtin Builtin.ObjectAttr Builtin.Getset_descriptor in
open Builtin Builtin.ObjectAttr Builtin.Getset_descriptor in
def LD(K:Frag)(D:Addr):Bool:=findIn K (.ref D) "__getattribute__" == some (some (.builtin "BaseException.__getattribute__"))&&(findIn K (.ref D) "__getattr__" == some none&&(findIn K (.ref D) "__class__" == some (some (.builtin "object.__class__")) &&
 (specialIn K (.builtin "object.__class__") "__get__" == some (some (.builtin "getset_descriptor.__get__"))&&(takesIn K (.builtin "object.__class__")==some true&&(mroIn K D (.type "object")==some true&&(mroIn K D (.type "BaseException")==some true&&(clsIn K D).isSome))))))
end PySem.W
namespace Mi
open PySem L2
abbrev DI(X:Type):=List (List Int×X)
section
variable{X:Type}
def bB(f:X->D)(F:DI X):D:=.dT (F.map λp=>p.1.map Sum.inl) (F.map λp=>f p.2)
def DI.get(F:DI X)(k:List Int):Option X:=(F.find? λp=>decide (p.1=k)).map (·.2)
def DI.put(F:DI X)(k:List Int)(v:X):DI X:=if (F.get k).isSome=true then F.map λp=>if p.1=k then (p.1,v) else p else F++[(k,v)]
def DI.del(F:DI X)(k:List Int):DI X:=F.filter λp=>decide (p.1≠k)
theorem gi{j k:List Int}:j.map (Sum.inl:Int->aP)=k.map Sum.inl↔j=k:=by
 constructor
 · intro h
   induction j generalizing k with
   |nil=>cases k with|nil=>rfl|cons _ _=>cases h
   |cons x j b=>
     cases k with
     |nil=>cases h
     |cons y k=>
       rw[Vr,Vr]at h;injection h with a c
       injection a with a
       rw[a,b c]
 ·intro h;rw[h]
theorem gg:∀k:List Int,bV (k.map D.int)=some (k.map Sum.inl)
 |[]=>rfl
 |x::k=>by rw[Vr,bV,gg k];rfl
theorem kE{f:X->D}{k:List Int}:∀F:DI X,bF (F.map λp=>p.1.map (Sum.inl:Int->aP)) (F.map λp=>f p.2) (k.map Sum.inl)=(DI.get F k).map f
 |[]=>rfl
 | p::F=>by
   rw[List.map_cons,List.map_cons,bF,kE F];unfold DI.get;rw[List.find?_cons];by_cases h:p.1=k
   ·rw[Vq (gi.mpr h),WE h];rfl
   ·rw[on (λz=>h (gi.mp z)),Wd h]
theorem gP{f:X->D}{F:DI X}{k:List Int}:jA (bB f F) (.tup (k.map D.int))=some ((F.get k).map f):=by
 show(bV (k.map D.int)).map (λk=>bF (F.map λp=>p.1.map (Sum.inl:Int->aP)) (F.map λp=>f p.2) k)=_;rw[gg,Xc,kE]
theorem Av{k:List Int}:∀F:DI X,cL (F.map λp=>p.1.map (Sum.inl:Int->aP)) (k.map Sum.inl)=(DI.get F k).isSome
 |[]=>rfl
 | p::F=>by
   have a:=Av (k:=k) F;unfold cL DI.get at *;rw[List.map_cons,List.any_cons,List.find?_cons,a];by_cases h:p.1=k
   ·rw[WE (gi.mpr h),WE h];rfl
   ·rw[Wd (λz=>h (gi.mp z)),Wd h];rfl
theorem uI{f:X->D}{k:List Int}{v:X}:∀F:DI X,iQ (F.map λp=>p.1.map (Sum.inl:Int->aP)) (F.map λp=>f p.2) (k.map Sum.inl) (f v)=(F.map λp=>if p.1=k then (p.1,v) else p).map λp=>f p.2
 |[]=>rfl
 | p::F=>by
   rw[Vr,Vr,iQ,uI F,Vr,Vr];by_cases h:p.1=k
   ·rw[Vq (gi.mpr h),Vq h]
   ·rw[on (λz=>h (gi.mp z)),on h]
theorem GQ{f:X->D}{F:DI X}{k:List Int}{v:X}(h:F.length<aq):rp (bB f F) (.tup (k.map D.int)) (f v)=some (bB f (F.put k v)):=by
 show((bV (k.map D.int)).bind λk=>if (F.map λp=>p.1.map (Sum.inl:Int->aP)).length<aq then some (if cL (F.map λp=>p.1.map (Sum.inl:Int->aP)) k=true then D.dT (F.map λp=>p.1.map (Sum.inl:Int->aP)) (iQ (F.map λp=>p.1.map (Sum.inl:Int->aP)) (F.map λp=>f p.2) k (f v)) else D.dT ((F.map λp=>p.1.map (Sum.inl:Int->aP))++[k]) ((F.map λp=>f p.2)++[f v])) else none)=some (D.dT ((F.put k v).map λp=>p.1.map Sum.inl) ((F.put k v).map λp=>f p.2));rw[gg,Option.bind_some,if_pos (by rw[List.length_map];exact h),Av];unfold DI.put;by_cases q:(DI.get F k).isSome=true
 ·rw[Vq q,Vq q,uI,Wi,Wi];refine congrArg (λz=>some (D.dT z _)) ?_;refine WO λp _=>?_;show _=((if p.1=k then (p.1,v) else p).1).map Sum.inl;split<;>rfl
 ·rw[on q,on q,V9,V9];rfl
theorem oH{f:X->D}{k:List Int}:∀F:DI X,d4 (F.map λp=>p.1.map (Sum.inl:Int->aP)) (F.map λp=>f p.2) (k.map Sum.inl)=((F.del k).map (λp=>p.1.map Sum.inl),(F.del k).map λp=>f p.2)
 |[]=>rfl
 | p::F=>by
   rw[List.map_cons,List.map_cons,d4,oH F];unfold DI.del;rw[List.filter_cons];by_cases h:p.1=k
   ·rw[Vq (gi.mpr h),on (by simpa using h)]
   ·rw[on (λz=>h (gi.mp z)),Vq (by simpa using h)];rfl
theorem GR{f:X->D}{F:DI X}{k:List Int}{v:X}(h:F.get k=some v):AC (bB f F) (.tup (k.map D.int))=some (f v,bB f (F.del k)):=by
 show((bV (k.map D.int)).bind λk=>(bF (F.map λp=>p.1.map (Sum.inl:Int->aP)) (F.map λp=>f p.2) k).map λx=>(x,D.dT (d4 (F.map λp=>p.1.map (Sum.inl:Int->aP)) (F.map λp=>f p.2) k).1 (d4 (F.map λp=>p.1.map (Sum.inl:Int->aP)) (F.map λp=>f p.2) k).2))=some (f v,D.dT ((F.del k).map λp=>p.1.map Sum.inl) ((F.del k).map λp=>f p.2));rw[gg,Option.bind_some,kE,h,Xc,Xc,oH]
theorem jp{F:DI X}{k j:List Int}{v:X}:(F.put k v).get j=if j=k then some v else F.get j:=by
 unfold DI.put;by_cases q:(DI.get F k).isSome=true
 · rw[Vq q]
   have e:∀G:DI X,DI.get (G.map λp=>if p.1=k then (p.1,v) else p) j=if j=k then (DI.get G k).map λ_=>v else DI.get G j:=by
    intro G
    induction G with
    |nil=>unfold DI.get;split<;>rfl
    |cons p G f=>
      unfold DI.get at f ⊢;rw[List.map_cons,List.find?_cons,List.find?_cons,List.find?_cons];by_cases b:p.1=k
      · rw[Vq b];by_cases a:j=k
        ·subst a;simp only[b,decide_true,Vq,Xc]
        ·have c:¬ p.1=j:=λz=>a (z.symm.trans b);simp only[c,Yr];rw[f,on a,on a]
      · rw[on b];by_cases c:p.1=j
        ·have a:¬ j=k:=λz=>b (c.trans z);simp only[c,decide_true,on a]
        ·simp only[c,b,Yr];exact f
   rw[e];by_cases h:j=k
   ·rw[Vq h,Vq h];obtain⟨x,i⟩:=W0.mp q;rw[i];rfl
   ·rw[on h,on h]
 · rw[on q]
   have d:DI.get F k=none:=by
    cases z:DI.get F k with
    |none=>rfl
    |some x=>rw[z]at q;exact absurd rfl q
   unfold DI.get at d ⊢;rw[List.find?_append];by_cases h:j=k
   · subst h
     have g:F.find? (λp=>decide (p.1=j))=none:=by
      cases z:F.find? (λp=>decide (p.1=j)) with
      |none=>rfl
      |some x=>rw[z]at d;cases d
     rw[g,Vq rfl];simp
   · rw[on h]
     have:¬ k=j:=λz=>h z.symm
     simp[this]
theorem sV{F:DI X}{k j:List Int}:(F.del k).get j=if j=k then none else F.get j:=by
 unfold DI.del DI.get
 induction F with
 |nil=>split<;>rfl
 |cons p F c=>
   rw[Wv];by_cases b:p.1=k
   · rw[on (by simpa using b),c,Wy];by_cases h:j=k
     ·rw[Vq h,Vq h]
     ·have a:¬ p.1=j:=λz=>h (z.symm.trans b);rw[on h,on h];simp only[a,Yr]
   · rw[Vq (by simpa using b),Wy,Wy];by_cases a:p.1=j
     ·have d:¬ j=k:=λz=>b (a.trans z);simp only[a,decide_true,on d]
     ·simp only[a,Yr];exact c
end
open PySem.Spec (countIn same sameAll)
theorem lq{W:Type}{f:W->D}{g:W->PyData}(h:∀a,toPy (f a)=some (g a)):∀l:List W,toPys (l.map f)=some (l.map g)
 |[]=>rfl
 |a::l=>by rw[Vr,toPys,h a,lq h l];rfl
theorem lu{W:Type}{f:W->D}{g:W->PyData}(h:∀a,toPy (f a)=some (g a))(l:List W):toPy (.lst (l.map f))=some (.list (l.map g)):=by
 rw[toPy,lq h];rfl
theorem wW{W:Type}{g:W->PyData}(h:∀a,(g a).canLay0=true)(f:∀a,(g a).depth<=60)(l:List W):SeqAt.shaped (.list (l.map g))=true:=by
 have c:∀l:List W,PyData.canLayAll0 (l.map g)=true:=by
  intro l
  induction l with
  |nil=>simp[PyData.canLayAll0]
  |cons a l b=>simp[PyData.canLayAll0,h a,b]
 have d:∀l:List W,PyData.depthAll (l.map g)<=60:=by
  intro l
  induction l with
  |nil=>simp[PyData.depthAll]
  |cons a l b=>
    rw[Vr,PyData.depthAll]
    have:=f a
    omega
 have e:PyData.depth (.list (l.map g))<=64:=by rw[PyData.depth];have:=d l;omega
 unfold SeqAt.shaped;rw[Bool.and_eq_true];exact⟨by rw[PyData.canLay0];exact c l,decide_eq_true e⟩
theorem mK{W:Type}[DecidableEq W]{g:W->PyData}(h:∀a b,same (g a) (g b)=decide (a=b))(a:W):∀l:List W,(0<=countIn (g a) (l.map g))/\(countIn (g a) (l.map g)≠0↔a∈l)
 |[]=>by simp[countIn]
 | b::l=>by
   obtain⟨d,c⟩:=mK h a l;rw[Vr,countIn,h b a,VA];by_cases e:b=a
   ·rw[Vq (by simpa using e)];exact⟨by omega,λ_=>.inl e.symm,λ_=>by omega⟩
   · rw[on (by simpa using e)];refine⟨by omega,λz=>.inr (c.mp (by omega)),λz=>?_⟩;rcases z with z|z
     ·exact absurd z.symm e
     ·have:=c.mpr z;omega
section
variable{W:Type}[DecidableEq W]{f:W->D}{g:W->PyData}
theorem Au(h0:∀a,toPy (f a)=some (g a))(i:∀a,(g a).canLay0=true)(h:∀a,(g a).depth<=60)(k:∀a b,same (g a) (g b)=decide (a=b))(j:∀a b,SeqAt.noMix (g a) (g b)=true)(a:W)(l:List W):
 Ly (f a) (.lst (l.map f))=.ok (.bl (decide (a∈l)))/\xA (f a) (.lst (l.map f))=.ok (.bl (!decide (a∈l))):=by
 have e:SeqAt.shaped (g a)=true:=by
  unfold SeqAt.shaped;rw[i a,Bool.true_and];exact decide_eq_true (by have:=h a;omega)
 have s2:=wW i h l
 have d:((l.map g).all λz=>SeqAt.noMix z (g a))=true:=by
  rw[Ys,WB];exact λb _=>j b a
 have c:decide (countIn (g a) (l.map g)≠0)=decide (a∈l):=by
  have:=(mK k a l).2
  by_cases z:a∈l
  ·rw[WE z,WE (this.mpr z)]
  ·rw[Wd z,Wd (λw=>z (this.mp w))]
 constructor
 ·unfold Ly;rw[h0 a,lu h0 l];show(if _ then _ else _)=_;rw[if_pos ⟨e,s2,d⟩,c]
 ·unfold xA;rw[h0 a,lu h0 l];show(if _ then _ else _)=_;rw[if_pos ⟨e,s2,d⟩,c]
end
end Mi
namespace Cl
open PySem L2 Mi
inductive OutC (Z W:Type) where
 |ok (a:W) (s:Z)|exc (c:Nat) (s:Z)|bad
inductive FlC (Z X:Type) where
 |nx (s:Z)|rt (b:X) (s:Z)|bk (s:Z)|ct (s:Z)|exc (c:Nat) (s:Z)|bad
def SimR{W L:Type}(e:W->L)(r:Res L)(q:Res W):Prop:=match q with
 |.ok a=>r=.ok (e a)
 |.exc x=>r=.exc x
 |.bad=>True
section
variable{Z W X L J:Type}{rep:Z->Tp}
def SimO(rep:Z->Tp)(e:W->L)(r:Out L)(q:OutC Z W):Prop:=match q with
 |.ok a s=>r=.ok (e a) (rep s)
 |.exc x s=>r=.exc x (rep s)
 |.bad=>True
def SimS(rep:Z->Tp)(e:X->D)(r:SO)(q:FlC Z X):Prop:=match q with
 |.nx s=>r=.nx (rep s)
 |.rt b s=>r=.rt (e b) (rep s)
 |.bk s=>r=.bk (rep s)
 |.ct s=>r=.ct (rep s)
 |.exc x s=>r=.exc x (rep s)
 |.bad=>True
def EJ(rep:Z->Tp)(e:W->L)(m:Tp->Res L)(c:Z->Res W):Prop:=∀s,SimR e (m (rep s)) (c s)
def NJ(rep:Z->Tp)(e:W->L)(m:Tp->Out L)(c:Z->OutC Z W):Prop:=∀s,SimO rep e (m (rep s)) (c s)
def TJ(rep:Z->Tp)(e:X->D)(m:Tp->SO)(c:Z->FlC Z X):Prop:=∀s,SimS rep e (m (rep s)) (c s)
theorem SimR.bnd{e:W->L}{b:X->J}{r:Res L}{q:Res W}{k:L->Res J}{l:W->Res X}(h:SimR e r q)(c:∀a,SimR b (k (e a)) (l a)):SimR b (r.bind k) (q.bind l):=by
 cases q with
 |ok a=>rw[show r=_ from h];exact c a
 |exc x=>rw[show r=_ from h];exact rfl
 |bad=>trivial
@[elab_as_elim] theorem SimR.el{e:W->L}{r:Res L}{q:Res W}{P:Res L->Res W->Prop}(h:SimR e r q)(ok:∀a,P (.ok (e a)) (.ok a))(exc:∀x,P (.exc x) (.exc x))(bad:∀r,P r .bad):P r q:=by
 cases q with
 |ok a=>rw[show r=_ from h];exact ok a
 |exc x=>rw[show r=_ from h];exact exc x
 |bad=>exact bad r
theorem SimR.calm{e:W->L}{r:Res L}{q:Res W}(h:SimR e r q):SimR e r.calm q.calm:=by
 cases q with
 |ok a=>rw[show r=_ from h];exact rfl
 |exc x=>trivial
 |bad=>trivial
@[simp] def vC(g:Z->Option W):Z->Res W:=λs=>match g s with|some a=>.ok a|none=>.bad
@[simp] def pC(g:Z->W):Z->Res W:=λs=>.ok (g s)
@[simp] def kC(a:W):Z->Res W:=λ_=>.ok a
@[simp] def bD(f:W->Res X)(c:Z->Res W):Z->Res X:=λs=>(c s).bind f
@[simp] def a9(f:W->X->Res L)(a:Z->Res W)(b:Z->Res X):Z->Res L:=λs=>(a s).bind λx=>(b s).bind λy=>f x y
theorem O9{e:W->D}{i:Nat}{g:Z->Option W}(h:∀s,rg (rep s) i=(g s).map e):EJ rep e (vr i) (vC g):=λs=>by
 unfold vC vr;rw[h s];cases g s with
 |none=>trivial
 |some a=>exact rfl
theorem Pc{e:W->D}{i:Nat}{g:Z->W}(h:∀s,rg (rep s) i=some (e (g s))):EJ rep e (vr i) (pC g):=λs=>by
 unfold vr pC;rw[h s];exact rfl
theorem s9{e:W->D}{d:D}{a:W}(h:e a=d):EJ rep e (aV d) (kC a):=λs=>by subst h;exact rfl
theorem ba{e:W->D}{b:X->D}{F:D->Res D}{f:W->Res X}{m:Tp->Res D}{c:Z->Res W}(h:∀a,SimR b (F (e a)) (f a))(d:EJ rep e m c):EJ rep b (un F m) (bD f c):=λs=>(d s).bnd h
theorem aj{e:W->D}{e1:X->D}{d:L->D}{F:D->D->Res D}{f:W->X->Res L}{m n:Tp->Res D}{c:Z->Res W}{g:Z->Res X}(h:∀a b,SimR d (F (e a) (e1 b)) (f a b))(j:EJ rep e m c)(i:EJ rep e1 n g):EJ rep d (bn F m n) (a9 f c g):=λs=>(j s).bnd λa=>(i s).bnd λb=>h a b
theorem cB{e:W->D}{d:X->D}{m:Tp->Res D}{c:Z->Res W}{f:W->Res X}(h:∀a,SimR d (.ok (e a)) (f a))(b:EJ rep e m c):EJ rep d m (bD f c):=λs=>by
 have b:=b s;unfold bD;cases q:c s with
 |ok a=>rw[q]at b;rw[show m (rep s)=_ from b];exact h a
 |exc x=>rw[q]at b;exact b
 |bad=>trivial
def eN:Unit->D:=λ_=>.non
def eL(e:W->D):List W->D:=λxs=>.lst (xs.map e)
def eS:List Int->D:=λxs=>.scr (xs.map D.int)
def kP(e:W->D):List W->D:=λxs=>.tup (xs.map e)
def qo(e:W->D)(a:X->D):W×X->D:=λp=>.tup [e p.1,a p.2]
def wO(e:W->D)(b:X->D)(a:L->D):W×X×L->D:=λp=>.tup [e p.1,b p.2.1,a p.2.2]
def eO(e:W->D):Option W->D:=λo=>match o with|none=>.non|some a=>e a
abbrev eK:Int×Int×List Int->D:=wO D.int D.int (eL D.int)
@[simp] def xt(o:Option W):Res W:=match o with|some a=>.ok a|none=>.bad
@[simp] def zn(a:W):Res (Option W):=.ok (some a)
@[simp] def Ik(a:W):Res W:=.ok a
theorem jt{e:W->D}(o:Option W):SimR e (.ok (eO e o)) (xt o):=by cases o<;>trivial
theorem yZ{e:W->D}(a:W):SimR (eO e) (.ok (e a)) (zn a):=rfl
theorem LF{e:W->D}{F:(Tp->Res D)->Tp->Res D}{m:Tp->Res D}{c:Z->Res W}(hF:∀M a,m M=.ok (e a)->F m M=.ok (e a))(b:∀M x,m M=.exc x->F m M=.exc x)(h:EJ rep e m c):EJ rep e (F m) c:=λs=>by
 have h:=h s;cases q:c s with
 |ok a=>rw[q]at h;exact hF _ _ h
 |exc x=>rw[q]at h;exact b _ _ h
 |bad=>trivial
theorem cT{e:W->D}{m:Tp->Res D}{c:Z->Res W}(b:∀a,bx (e a)=true)(h:EJ rep e m c):EJ rep e (ql m) c:=
 LF (F:=ql) (λM a q=>by unfold ql;rw[q];show(if _ then _ else _)=_;rw[if_pos (b a)]) (λM x q=>by unfold ql;rw[q];rfl) h
theorem oG{e:W->D}{m:Tp->Res D}{c:Z->Res W}(b:∀a,l6 (e a)=true)(h:EJ rep e m c):EJ rep e (qu m) c:=
 LF (F:=qu) (λM a q=>by unfold qu;rw[q];show(if _ then _ else _)=_;rw[if_pos (b a)]) (λM x q=>by unfold qu;rw[q];rfl) h
theorem qe{e:W->D}(h:∀a,bx (e a)=true)(xs:List W):(xs.map e).all bx=true:=by
 rw[Ys,WB];exact λa _=>h a
theorem wY{e:W->D}(h:∀a,bx (e a)=true)(xs:List W):l6 (eL e xs)=true:=qe h xs
theorem IS{e:W->D}(h:∀a,bx (e a)=true)(xs:List W):l6 (kP e xs)=true:=qe h xs
theorem Ma(xs:List Int):l6 (eS xs)=true:=qe (λ_=>rfl) xs
theorem Mb{e:W->D}(h:∀a,l6 (e a)=true)(o:Option W):l6 (eO e o)=true:=by
 cases o with
 |none=>rfl
 |some a=>exact h a
theorem Gq{e:W->D}(h:∀a,bx (e a)=true)(o:Option W):bx (eO e o)=true:=by
 cases o with
 |none=>rfl
 |some a=>exact h a
@[simp] def lY(a b:Int):Res Int:=.ok (a+b)
@[simp] def BJ(a b:Int):Res Int:=.ok (a-b)
@[simp] def Cd(a b:Int):Res Int:=if (-(2 ^ 64)<a/\a<2 ^ 64)\/(-(2 ^ 64)<b/\b<2 ^ 64) then .ok (a*b) else .bad
@[simp] def dO(a b:Int):Res Int:=if 0<b/\b<1073741824 then .ok (a / b) else .bad
@[simp] def dF(a b:Int):Res Int:=if 0<b then .ok (a%b) else .bad
@[simp] def QR(a b:Int):Res Int:=if 0<=b then .ok (a / 2 ^ b.toNat) else .bad
@[simp] def Fl(a b:Int):Res Int:=.ok (if b<a then b else a)
@[simp] def FV(a b:Int):Res Int:=.ok (if b>a then b else a)
@[simp] def F2(a b:Int):Res Bool:=.ok (decide (a<b))
@[simp] def Gy(a b:Int):Res Bool:=.ok (decide (b<a))
@[simp] def geC(a b:Int):Res Bool:=.ok (decide (b<=a))
@[simp] def NK(a:Int):Res Int:=.ok (-a)
@[simp] def E9(a:Bool):Res Bool:=.ok (!a)
@[simp] def sY[DecidableEq W](neg:Bool)(a b:W):Res Bool:=.ok (neg.xor (decide (a=b)))
theorem iX(a b:Int):SimR D.int (j7 (.int a) (.int b)) (lY a b):=rfl
theorem uQ(a b:Int):SimR D.int (uu (.int a) (.int b)) (BJ a b):=rfl
theorem SimR.ite{e:W->L}{p:Prop}[Decidable p]{r a:Res L}{q b:Res W}(h:SimR e r q)(h':SimR e a b):SimR e (if p then r else a) (if p then q else b):=by
 by_cases z:p
 ·rw[Vq z,Vq z];exact h
 ·rw[on z,on z];exact h'
theorem uR(a b:Int):SimR D.int (sJ (.int a) (.int b)) (Cd a b):=by rw[Fh];exact SimR.ite rfl trivial
theorem dt(a b:Int):SimR D.int (dN (.int a) (.int b)) (dO a b):=by rw[CF];exact SimR.ite rfl trivial
theorem cf(a b:Int):SimR D.int (cZ (.int a) (.int b)) (dF a b):=by rw[Fj];exact SimR.ite rfl trivial
theorem RM(a b:Int):SimR D.int (Dy (.int a) (.int b)) (QR a b):=by rw[Dx];exact SimR.ite rfl trivial
theorem z5(a b:Int):SimR D.int (xB (.int a) (.int b)) (Fl a b):=rfl
theorem z6(a b:Int):SimR D.int (x9 (.int a) (.int b)) (FV a b):=rfl
theorem uS(a b:Int):SimR D.bl (Ck (.int a) (.int b)) (F2 a b):=rfl
theorem Cb(a b:Int):SimR D.bl (Gx (.int a) (.int b)) (Gy a b):=rfl
theorem U7(a b:Int):SimR D.bl (UP (.int a) (.int b)) (geC a b):=rfl
theorem Ln(a:Int):SimR D.int (Jr (.int a)) (NK a):=rfl
theorem Lm(a:Bool):SimR D.bl (Jp (.bl a)) (E9 a):=rfl
theorem jx(neg:Bool)(a b:Int):SimR D.bl (Az neg (.int a) (.int b)) (sY neg a b):=rfl
@[simp] def Go(neg:Bool)(f:W->Bool)(a:W):Res Bool:=.ok (neg.xor (f a))
theorem s8{e:W->D}{m:Tp->Res D}{c:Z->Res W}{neg:Bool}{f:W->Bool}(h:∀a,om (e a)=f a)(b:EJ rep e m c):EJ rep D.bl (bn (vf neg) m (aV .non)) (bD (Go neg f) c):=λs=>(b s).bnd λa=>by
 show vf neg (e a) .non=.ok (.bl (neg.xor (f a)));rw[<-h a];rfl
@[simp] def Fb(o:Option W):Bool:=o.isNone
theorem Ar{e:W->D}(h:∀a,om (e a)=false)(o:Option W):om (eO e o)=Fb o:=by
 cases o with
 |none=>rfl
 |some a=>exact h a
theorem aT{m:Tp->Res D}{c:Z->Res Bool}(h:EJ rep D.bl m c):EJ rep (id:Bool->Bool) (d7 m) c:=λs=>by
 have h:=h s;cases q:c s with
 |ok a=>rw[q]at h;have h:m (rep s)=.ok (.bl a):=h;show d7 m (rep s)=.ok a;unfold d7;rw[h];rfl
 |exc x=>rw[q]at h;have h:m (rep s)=.exc x:=h;show d7 m (rep s)=.exc x;unfold d7;rw[h];rfl
 |bad=>trivial
@[simp] def qd(a b:Z->Res Bool):Z->Res Bool:=λs=>(a s).bind λc=>if c=true then b s else .ok false
@[simp] def Qs(a b:Z->Res Bool):Z->Res Bool:=λs=>(a s).bind λc=>if c=true then .ok true else b s
theorem na{a b:Tp->Res Bool}{c d:Z->Res Bool}(f:EJ rep (id:Bool->Bool) a c)(e:EJ rep (id:Bool->Bool) b d):EJ rep (id:Bool->Bool) (CY a b) (qd c d):=λs=>(f s).bnd λt=>SimR.ite (e s) rfl
theorem oE{a b:Tp->Res Bool}{c d:Z->Res Bool}(f:EJ rep (id:Bool->Bool) a c)(e:EJ rep (id:Bool->Bool) b d):EJ rep (id:Bool->Bool) (Ih a b) (Qs c d):=λs=>(f s).bnd λt=>SimR.ite rfl (e s)
theorem JP{a:Tp->Res Bool}{c:Z->Res Bool}(b:EJ rep (id:Bool->Bool) a c):EJ rep (id:Bool->Bool) (NG a) (bD E9 c):=λs=>(b s).bnd λt=>rfl
theorem GL{a b:Tp->Res D}{c d:Z->Res Bool}(g:EJ rep D.bl a c)(f:EJ rep D.bl b d):EJ rep D.bl (HK a b) (qd c d):=λs=>by
 have:=aT g s
 exact SimR.bnd (e:=(id:Bool->Bool)) this λt=>SimR.ite (f s) rfl
structure Dat (e:W->D) [DecidableEq W] where
 py:W->PyData
 dep:Nat
 h0:∀a,toPy (e a)=some (py a)
 lay:∀a,(py a).canLay0=true
 depth:∀a,(py a).depth<=dep
 eqv:∀a b,PyData.eqv (py a) (py b)=decide (a=b)
 nomix:∀a b,SeqAt.noMix (py a) (py b)=true
theorem Dat.same{e:W->D}[DecidableEq W](A:Dat e)(a b:W):PySem.Spec.same (A.py a) (A.py b)=decide (a=b):=by rw[<-A.eqv,SeqAt.same_eq_eqv _ _ (A.nomix a b)]
theorem Dat.shp{e:W->D}[DecidableEq W](A:Dat e)(hd:A.dep<=64)(a:W):SeqAt.shaped (A.py a)=true:=by
 unfold SeqAt.shaped;rw[A.lay a,Bool.true_and];exact decide_eq_true (Nat.le_trans (A.depth a) hd)
theorem qQ{e:W->D}[DecidableEq W](A:Dat e)(hd:A.dep<=64)(neg:Bool)(a b:W):SimR D.bl (GG neg (e a) (e b)) (sY neg a b):=by
 show GG neg (e a) (e b)=.ok (.bl (neg.xor (decide (a=b))));unfold GG;rw[A.h0,A.h0];show(if _ then _ else _)=_;rw[if_pos ⟨A.shp hd a,A.shp hd b⟩,A.eqv]
@[simp] def Tb[DecidableEq W](neg:Bool)(a:W)(l:List W):Res Bool:=.ok (neg.xor (decide (a∈l)))
theorem Lp{e:W->D}[DecidableEq W](A:Dat e)(hd:A.dep<=60)(a:W)(l:List W):SimR D.bl (Ly (e a) (eL e l)) (Tb false a l):=by
 have:=(Au A.h0 A.lay (λa=>VW (A.depth a) hd) A.same A.nomix a l).1
 show Ly (e a) (.lst (l.map e))=.ok (.bl (false.xor (decide (a∈l))));rw[this,Bool.false_xor]
theorem NB{e:W->D}[DecidableEq W](A:Dat e)(hd:A.dep<=60)(a:W)(l:List W):SimR D.bl (xA (e a) (eL e l)) (Tb true a l):=by
 have:=(Au A.h0 A.lay (λa=>VW (A.depth a) hd) A.same A.nomix a l).2
 show xA (e a) (.lst (l.map e))=.ok (.bl (true.xor (decide (a∈l))));rw[this,Bool.true_xor]
def dP:Dat D.int:=⟨PyData.int,1,λ_=>rfl,λa=>by simp[PyData.canLay0],λa=>by simp[PyData.depth],λa b=>by simp only[PyData.eqv];exact XD _ _,λa b=>by simp[SeqAt.noMix]⟩
theorem oB{g:W->PyData}[DecidableEq W](h:∀a b,PyData.eqv (g a) (g b)=decide (a=b)):∀t u:List W,PyData.eqvAll (t.map g) (u.map g)=decide (t=u)
 |[],[]=>by simp[PyData.eqvAll]
 |[],_::_=>by simp[PyData.eqvAll]
 |_::_,[]=>by simp[PyData.eqvAll]
 | r::t,q::u=>by
   rw[Vr,Vr,PyData.eqvAll,h,oB h t u];by_cases d:r=q<;>by_cases c:t=u<;>simp[d,c]
end
section
variable{Z W X L J:Type}{rep:Z->Tp}
theorem kx{g:W->PyData}(h:∀a b,SeqAt.noMix (g a) (g b)=true):∀t u:List W,SeqAt.noMixAll (t.map g) (u.map g)=true
 |[],[]=>by simp[SeqAt.noMixAll]
 |[],_::_=>by simp[SeqAt.noMixAll]
 |_::_,[]=>by simp[SeqAt.noMixAll]
 |r::t,q::u=>by rw[Vr,Vr,SeqAt.noMixAll,h,kx h t u];rfl
theorem n9{g:W->PyData}(h:∀a,(g a).canLay0=true):∀l:List W,PyData.canLayAll0 (l.map g)=true
 |[]=>by simp[PyData.canLayAll0]
 |a::l=>by simp[PyData.canLayAll0,h a,n9 h l]
theorem kR{g:W->PyData}{n:Nat}(h:∀a,(g a).depth<=n):∀l:List W,PyData.depthAll (l.map g)<=n
 |[]=>by simp[PyData.depthAll]
 |a::l=>by rw[Vr,PyData.depthAll];have:=h a;have:=kR h l;omega
def i9{e:W->D}[DecidableEq W](A:Dat e):Dat (eL e):=⟨λl=>.list (l.map A.py),A.dep+1,λl=>lu A.h0 l,λl=>by rw[PyData.canLay0];exact n9 A.lay l,λl=>by rw[PyData.depth];have:=kR A.depth l;omega,λa b=>by rw[PyData.eqv];exact oB A.eqv a b,λa b=>by rw[SeqAt.noMix];exact kx A.nomix a b⟩
def yx{e:W->D}{c:X->D}[DecidableEq W][DecidableEq X](A:Dat e)(B:Dat c):Dat (qo e c):=⟨λp=>.tuple [A.py p.1,B.py p.2],A.dep+B.dep+1,λp=>by
 show(toPys [e p.1,c p.2]).map PyData.tuple=_;rw[toPys,toPys,toPys,A.h0,B.h0];rfl,λp=>by rw[PyData.canLay0];simp[PyData.canLayAll0,A.lay,B.lay],λp=>by
 rw[PyData.depth];simp only[PyData.depthAll];have:=A.depth p.1;have:=B.depth p.2;omega,λa b=>by
 rw[PyData.eqv];simp only[PyData.eqvAll,A.eqv,B.eqv];obtain⟨j,i⟩:=a;obtain⟨h,g⟩:=b
 by_cases f:j=h<;>by_cases d:i=g<;>simp[f,d],λa b=>by rw[SeqAt.noMix];simp[SeqAt.noMixAll,A.nomix,B.nomix]⟩
theorem kN{d:PyData}(h:d≠ .none):PyData.eqv .none d=false/\PyData.eqv d .none=false/\SeqAt.noMix .none d=true/\SeqAt.noMix d .none=true:=by
 cases d with
 |none=>exact absurd rfl h
 |_=>simp[PyData.eqv,SeqAt.noMix]
def rD{e:W->D}[DecidableEq W](A:Dat e)(F:∀a,A.py a≠ .none):Dat (eO e):=⟨λo=>match o with|none=>.none|some a=>A.py a,A.dep+1,λo=>by
 cases o with
 |none=>rfl
 |some a=>exact A.h0 a,λo=>by
 cases o with
 |none=>simp[PyData.canLay0]
 |some a=>exact A.lay a,λo=>by
 cases o with
 |none=>simp[PyData.depth]
 |some a=>exact X6 (A.depth a),λa b=>by
 cases a with
 |none=>
   cases b with
   |none=>simp[PyData.eqv]
   |some b=>exact(kN (F b)).1.trans (by simp)
 |some a=>
   cases b with
   |none=>exact(kN (F a)).2.1.trans (by simp)
   |some b=>exact(A.eqv a b).trans (by simp),λa b=>by
 cases a with
 |none=>
   cases b with
   |none=>simp[SeqAt.noMix]
   |some b=>exact(kN (F b)).2.2.1
 |some a=>
   cases b with
   |none=>exact(kN (F a)).2.2.2
   |some b=>exact A.nomix a b⟩
theorem gQ{e:W->D}[DecidableEq W](A:Dat e)(a:List W):(i9 A).py a≠ .none:=λh=>PyData.noConfusion (show PyData.list (a.map A.py)=.none from h)
@[simp] def Fa(_:Unit):Res (Option W):=.ok none
theorem Br{e:W->D}(u:Unit):SimR (eO e) (.ok (eN u)) (Fa u):=rfl
@[simp] def Ve(b:Bool)(_:W):Res Bool:=.ok b
theorem GJ{e:W->D}{n:String}{b:Bool}{m:Tp->Res D}{c:Z->Res W}(h:∀a,Qu (e a) (.ty n)=.ok (.bl b))(d:EJ rep e m c):EJ rep D.bl (bn Qu m (aV (.ty n))) (bD (Ve b) c):=λs=>(d s).bnd λa=>h a
@[simp] def ky:Z->Res (List W):=λ_=>.ok []
@[simp] def gp(a:Z->Res W)(r:Z->Res (List W)):Z->Res (List W):=λs=>(a s).bind λx=>(r s).bind λxs=>.ok (x::xs)
theorem eD{e:W->D}:EJ rep (List.map e) a7 (ky:Z->Res (List W)):=λs=>rfl
theorem cU{e:W->D}{m:Tp->Res D}{n:Tp->Res (List D)}{c:Z->Res W}{d:Z->Res (List W)}(g:EJ rep e m c)(f:EJ rep (List.map e) n d):EJ rep (List.map e) (aB m n) (gp c d):=λs=>(g s).bnd λa=>(f s).bnd λb=>rfl
@[simp] def Ad(c:Z->Res (List W)):Z->Res (List W):=λs=>(c s).bind λxs=>if xs.length<=aq then .ok xs else .bad
theorem eE{e:W->D}{m:Tp->Res (List D)}{c:Z->Res (List W)}(h:EJ rep (List.map e) m c):EJ rep (eL e) (nM m) (Ad c):=λs=>(h s).bnd λxs=>by rw[Vs];exact SimR.ite rfl trivial
@[simp] def iJ(a:Z->Res W)(b:Z->Res X):Z->Res (W×X):=λs=>(a s).bind λx=>(b s).bind λy=>.ok (x,y)
@[simp] def n8(xs:List W):Res Int:=.ok xs.length
theorem jM{e:W->D}(xs:List W):SimR D.int (n6 (eL e xs)) (n8 xs):=by show Res.ok (D.int _)=Res.ok (D.int _);rw[Vs]
theorem NF(xs:List Int):SimR D.int (n6 (eS xs)) (n8 xs):=by show Res.ok (D.int _)=Res.ok (D.int _);rw[Vs]
theorem J1{e:W->L}(xs:List W)(i:Int):li (xs.map e) i=(li xs i).map e:=by
 unfold li;rw[List.length_map];cases oj xs.length i with
 |none=>rfl
 |some j=>simp only[Option.bind_some,VR]
@[simp] def q8(xs:List W)(i:Int):Res W:=match li xs i with|some a=>.ok a|none=>.bad
theorem yY{e:W->D}(xs:List W)(i:Int):SimR e (J7 (xs.map e) i) (q8 xs i):=by
 unfold J7 q8;rw[J1];cases li xs i<;>trivial
theorem qO{e:W->D}(xs:List W)(i:Int):SimR e (Ij (eL e xs) (.int i)) (q8 xs i):=yY xs i
theorem RO(xs:List Int)(i:Int):SimR D.int (Ij (eS xs) (.int i)) (q8 xs i):=yY xs i
theorem lG{e:W->D}(xs:List W)(i:Int):SimR e (Aq (kP e xs) (.int i)) (q8 xs i):=yY xs i
@[simp] def Th(p:W×X):Res W:=.ok p.1
@[simp] def Lv(p:W×X×L):Res X:=.ok p.2.1
@[simp] def QB(p:W×X×L):Res L:=.ok p.2.2
theorem AB{e:W->D}{b:X->D}{F:D->D->Res D}{f:W->Res X}{k:D}{m:Tp->Res D}{c:Z->Res W}(h:∀a,SimR b (F (e a) k) (f a))(d:EJ rep e m c):EJ rep b (bn F m (aV k)) (bD f c):=λs=>(d s).bnd λa=>h a
theorem U6{e:W->D}{b:X->D}{a:L->D}(p:W×X×L):SimR e (Aq (wO e b a p) (.int 0)) (Th p):=rfl
theorem U5{e:W->D}{b:X->D}{a:L->D}(p:W×X×L):SimR b (Aq (wO e b a p) (.int 1)) (Lv p):=rfl
theorem U0{e:W->D}{b:X->D}{a:L->D}(p:W×X×L):SimR a (Aq (wO e b a p) (.int 2)) (QB p):=rfl
@[simp] def yT(xs a:List W):Res (List W):=if xs.length+a.length<=aq then .ok (xs++a) else .bad
theorem Lq{e:W->D}(xs a:List W):SimR (eL e) (HF (eL e xs) (eL e a)) (yT xs a):=by
 show SimR (eL e) (if (xs.map e).length+(a.map e).length<=aq then .ok (.lst (xs.map e++a.map e)) else .bad) (yT xs a);rw[Vs,Vs];exact SimR.ite (by show Res.ok (D.lst _)=Res.ok (D.lst _);rw[V9]) trivial
theorem xx{e:W->D}(xs:List W):SimR (eL e) (i0 (eL e xs)) (Ik xs):=rfl
theorem Jm{e:W->D}(xs:List W):SimR (eL e) (i0 (kP e xs)) (Ik xs):=rfl
theorem E5{e:W->D}(xs:List W):SimR (kP e) (Db (eL e xs)) (Ik xs):=rfl
noncomputable def IZ(xs:List W)(k:Int):Res (List W):=@ite _ ((0<=k/\k<=1000000)/\xs.length*k.toNat<=aq) (Classical.propDecidable _) (.ok (List.replicate k.toNat xs).flatten) .bad
theorem Ed{xs:List W}{k:Int}(h0:0<=k)(b:k<=1000000)(a:xs.length*k.toNat<=aq):IZ xs k=.ok (List.replicate k.toNat xs).flatten:=by unfold IZ;rw[if_pos ⟨⟨h0,b⟩,a⟩]
theorem Af{e:W->L}(xs:List W):∀k:Nat,(List.replicate k (xs.map e)).flatten=((List.replicate k xs).flatten).map e
 |0=>rfl
 |k+1=>by rw[Wb,Wb,Wr,Wr,V9,Af xs k]
theorem RN{e:W->D}(xs:List W)(k:Int):SimR (eL e) (xf (eL e xs) (.int k)) (IZ xs k):=by
 show SimR _ (if (0<=k/\k<=1000000)/\(xs.map e).length*k.toNat<=aq then Res.ok (D.lst (List.replicate k.toNat (xs.map e)).flatten) else Res.bad) _;rw[Vs,Af];by_cases h:(0<=k/\k<=1000000)/\xs.length*k.toNat<=aq
 ·rw[Vq h,Ed h.1.1 h.1.2 h.2];rfl
 ·unfold IZ;rw[if_neg h,if_neg h];trivial
@[simp] def cM(p:W×W):Res (List W):=.ok [p.1,p.2]
theorem bM{e:W->D}(p:W×W):SimR (kP e) (.ok (qo e e p)) (cM p):=rfl
@[simp] def vz(neg:Bool)(k:List Int)(F:DI X):Res Bool:=.ok (neg.xor (F.get k).isSome)
@[simp] def Qv(F:DI X)(k:List Int):Res X:=match F.get k with|some b=>.ok b|none=>.bad
@[simp] def Vc(F:DI X)(k:List Int)(x:X):Res X:=.ok ((F.get k).getD x)
@[simp] def Tr(F:DI X)(k:List Int):Res (Option X):=.ok (F.get k)
theorem uT{e:X->D}(neg:Bool)(k:List Int)(F:DI X):SimR D.bl (mS neg (kP D.int k) (bB e F)) (vz neg k F):=by
 show mS neg (.tup (k.map D.int)) (bB e F)=.ok (.bl (neg.xor (F.get k).isSome));unfold mS;rw[gP];simp
theorem xy{e:X->D}(F:DI X)(k:List Int):SimR e (mG (bB e F) (kP D.int k)) (Qv F k):=by
 show SimR e (mG (bB e F) (.tup (k.map D.int))) _;unfold mG Qv;rw[gP];cases F.get k<;>trivial
@[simp] def LB(a:Z->Res (DI X))(ck:Z->Res (List Int))(cx:Z->Res X):Z->Res X:=λs=>(a s).bind λF=>(ck s).bind λk=>(cx s).bind λx=>Vc F k x
theorem JQ{e:X->D}{b mk a:Tp->Res D}{c:Z->Res (DI X)}{ck:Z->Res (List Int)}{cx:Z->Res X}(g:EJ rep (bB e) b c)(f:EJ rep (kP D.int) mk ck)(d:EJ rep e a cx):
 EJ rep e (GB b mk a) (LB c ck cx):=λs=>(g s).bnd λF=>by
 show SimR e (if true=true then _ else _) _;rw[if_pos rfl];refine(f s).bnd λk=>(d s).bnd λx=>?_;show gB (bB e F) (.tup (k.map D.int)) (e x)=.ok (e ((F.get k).getD x));unfold gB;rw[gP];cases F.get k<;>rfl
theorem JR{e:X->D}{a mk:Tp->Res D}{b:Z->Res (DI X)}{ck:Z->Res (List Int)}(d:EJ rep (bB e) a b)(c:EJ rep (kP D.int) mk ck):EJ rep (eO e) (vq a mk) (a9 Tr b ck):=λs=>(d s).bnd λF=>by
 show SimR (eO e) (if true=true then _ else _) _;rw[if_pos rfl];refine(c s).bnd λk=>?_;show gB (bB e F) (.tup (k.map D.int)) .non=.ok (eO e (F.get k));unfold gB;rw[gP];cases F.get k<;>rfl
@[simp] def qX(F:DI X):Res (List (List Int)):=.ok (F.map (·.1))
theorem E7{e:X->D}(F:DI X):SimR (eL (kP D.int)) (Am (bB e F)) (qX F):=by
 show Res.ok (D.lst ((F.map λp=>p.1.map (Sum.inl:Int->aP)).map λk=>.tup (k.map kD)))=Res.ok (D.lst ((F.map (·.1)).map (kP D.int)));rw[Wi,Wi];refine congrArg (λz=>Res.ok (D.lst z)) (WO λp _=>?_);show D.tup ((p.1.map (Sum.inl:Int->aP)).map kD)=D.tup (p.1.map D.int);rw[Wi];rfl
@[simp] def F4(xs:List Int)(d:Int):Res Int:=.ok (match xs with | []=>d|x::r=>dM r x)
@[simp] def Ls(xs:List Int)(d:Int):Res Int:=.ok (match xs with | []=>d|x::r=>gK r x)
theorem eC:∀l:List Int,cF (l.map D.int)=some l
 |[]=>rfl
 |x::l=>by rw[Vr,cF,eC l];rfl
theorem Jn(xs:List Int)(d:Int):SimR D.int (oA dM (eL D.int xs) (.int d)) (F4 xs d):=by
 show oA dM (.lst (xs.map D.int)) (.int d)=_;unfold oA;dsimp only;rw[eC];cases xs<;>rfl
theorem NC(xs:List Int)(d:Int):SimR D.int (oA gK (eL D.int xs) (.int d)) (Ls xs d):=by
 show oA gK (.lst (xs.map D.int)) (.int d)=_;unfold oA;dsimp only;rw[eC];cases xs<;>rfl
@[simp] def sN(xs:List Int):Res Int:=if xs.length<4000 then .ok (dd xs).length else .bad
theorem E6(xs:List Int):SimR D.int (n5 (eL D.int xs)) (sN xs):=by
 show SimR D.int (n5 (.lst (xs.map D.int))) _;unfold n5 sN;dsimp only;rw[eC];exact SimR.ite rfl trivial
theorem mM:∀l:List Bool,ir (l.map D.bl)=some l
 |[]=>rfl
 |x::l=>by rw[Vr,ir,mM l];rfl
@[simp] def Um(xs:List Bool):Res Bool:=.ok (xs.any id)
theorem RP(xs:List Bool):SimR D.bl (uj (eL D.bl xs)) (Um xs):=by
 show uj (.lst (xs.map D.bl))=_;unfold uj;dsimp only;rw[mM]
theorem Gm(k:Int×Int×List Int):vd (eK k)=some k:=by
 show(cF (k.2.2.map D.int)).map (λns=>(k.1,k.2.1,ns))=some k;rw[eC];rfl
theorem qW:∀l:List (Int×Int×List Int),gO (l.map eK)=some l
 |[]=>rfl
 |k::l=>by rw[Vr,gO,Gm,qW l]
def sK:List (Int×Int×List Int)->Option (Int×Int×List Int)
 |[]=>none
 |k::r=>some (r.foldl (λb x=>if fj x b=true then x else b) k)
theorem lV(a:Nat->Nat->Bool)(n:Nat):PySem.argBest a (n+1)=if a (n+1) (PySem.argBest a n)=true then n+1 else PySem.argBest a n:=rfl
theorem ug:∀(n:Nat) (k:Int×Int×List Int) (r:List (Int×Int×List Int)),r.length=n->
 (k::r)[PySem.argBest (λi j=>fj ((k::r).getD i (0,0,[])) ((k::r).getD j (0,0,[]))) n]?=sK (k::r):=by
 intro n
 induction n with
 |zero=>
   intro k r h
   have:r=[]:=V2.mp h
   subst this;rfl
 |succ n l=>
   intro k r h
   obtain⟨q,x,rfl⟩:∃q x,r=q++[x]:=by
    rcases List.eq_nil_or_concat r with z|⟨q,x,z⟩
    ·subst z;cases h
    ·exact⟨q,x,by rw[z,List.concat_eq_append]⟩
   have e:q.length=n:=by simpa using h
   have a:=l k q e
   have g:∀i,i<=n->(k::(q++[x])).getD i (0,0,[])=(k::q).getD i (0,0,[]):=λi hi=>by
    rw[<-Xl,VL,VL,Wq (by simp;omega)]
   have p:∀m,m<=n->PySem.argBest (λi j=>fj ((k::(q++[x])).getD i (0,0,[])) ((k::(q++[x])).getD j (0,0,[]))) m=PySem.argBest (λi j=>fj ((k::q).getD i (0,0,[])) ((k::q).getD j (0,0,[]))) m:=by
    intro m
    induction m with
    |zero=>intro _;rfl
    |succ m d=>
      intro o;rw[lV,lV,d (by omega)];have f:=j6 (λi j=>fj ((k::q).getD i (0,0,[])) ((k::q).getD j (0,0,[]))) m;rw[g (m+1) o,g _ (by omega)]
   rw[lV,p n (VE _)];have f:=j6 (λi j=>fj ((k::q).getD i (0,0,[])) ((k::q).getD j (0,0,[]))) n;generalize PySem.argBest (λi j=>fj ((k::q).getD i (0,0,[])) ((k::q).getD j (0,0,[]))) n=b at a f
   have e1:(k::(q++[x])).getD (n+1) (0,0,[])=x:=by
    rw[WN,VL,Wl (by omega),e,XO];rfl
   rw[e1,g b f]
   have c:sK (k::q)=some ((k::q).getD b (0,0,[])):=by
    rw[<-a,VL,VI (by simp;omega)];rfl
   unfold sK at c ⊢;dsimp only at c ⊢;injection c with c
   rw[List.foldl_append,XH,List.foldl_nil,c];by_cases z:fj x ((k::q).getD b (0,0,[]))=true
   ·rw[Vq z,Vq z,W7,Wl (by omega),e,XO];rfl
   ·rw[on z,on z,<-Xl,Wq (by simp;omega),VI (by simp;omega),VL,VI (by simp;omega)];rfl
@[simp] def Lu(xs:List (Int×Int×List Int)):Res (Option (Int×Int×List Int)):=.ok (sK xs)
theorem ND(xs:List (Int×Int×List Int)):SimR (eO eK) (u4 (eL eK xs) .non) (Lu xs):=by
 cases xs with
 |nil=>rfl
 |cons k r=>
   have a:gO (eK k::r.map eK)=some (k::r):=qW (k::r);show u4 (.lst (eK k::r.map eK)) .non=.ok (eO eK (sK (k::r)));simp only[u4,a];rw[Vs,show eK k::r.map eK=(k::r).map eK from rfl,VR,ug _ k r rfl];rfl
end
section
variable{Z σ' W X L J:Type}{rep:Z->Tp}{Y:σ'->Tp}
def Rk(rep:Z->Tp)(e:W->D)(ix:List Nat):W×Z->Tp:=λp=>some (e p.1)::eF (rep p.2) ix
def ik(b:W->Res Bool)(te:W->Res X):List W->Res (List X)
 |[]=>.ok []
 |a::r=>(b a).calm.bind λc=>if c=true then (te a).calm.bind λx=>(ik b te r).bind λxs=>.ok (x::xs) else ik b te r
def iD(src:Z->Res (List W))(b:W×Z->Res Bool)(te:W×Z->Res X):Z->Res (List X):=λs=>(src s).bind λxs=>if xs.length<aq then ik (λa=>b (a,s)) (λa=>te (a,s)) xs else .bad
theorem kO{e:W->D}{h:X->D}{ix:List Nat}{src:Tp->Res (List D)}{f:Tp->Res Bool}{te:Tp->Res D}{b:Z->Res (List W)}{c:W×Z->Res Bool}{d:W×Z->Res X}
 (k:EJ rep (List.map e) src b) (j:EJ (Rk rep e ix) (id:Bool->Bool) f c) (m:EJ (Rk rep e ix) h te d):EJ rep (eL h) (je src ix f te) (iD b c d):=λs=>(k s).bnd λxs=>by
 rw[Vs];refine SimR.ite ?_ trivial
 have g:∀l:List W,SimR (List.map h) (bG f te (eF (rep s) ix) (l.map e)) (ik (λa=>c (a,s)) (λa=>d (a,s)) l):=by
  intro l
  induction l with
  |nil=>rfl
  |cons a l i=>
    rw[List.map_cons];unfold bG ik;refine SimR.bnd (j (a,s)).calm λt=>SimR.ite (SimR.bnd (m (a,s)).calm λx=>SimR.bnd i λxs=>?_) i;rfl
 have:=g xs
 exact SimR.el this (λ_=>rfl) (λ_=>rfl) λ_=>trivial
theorem yq:EJ rep (id:Bool->Bool) (λ_=>.ok true) (λ_=>.ok true):=λs=>rfl
theorem gk{e:W->D}{m:Tp->Res D}{c:Z->Res (List W)}(h:EJ rep (eL e) m c):EJ rep (List.map e) (ke m) c:=λs=>by
 have h:=h s;unfold ke;exact SimR.el h (λ_=>rfl) (λ_=>rfl) λ_=>trivial
def dk(lo hi:Int):List Int:=(List.range (hi-lo).toNat).map λi:Nat=>lo+i
noncomputable def jJ(lo hi:Int):Res (List Int):=@ite _ (-(2 ^ 62)<=lo/\lo<2 ^ 62/\-(2 ^ 62)<=hi/\hi<2 ^ 62) (Classical.propDecidable _) (.ok (dk lo hi)) .bad
theorem IY(lo hi:Int):(dk lo hi).map D.int=rng lo hi:=by unfold dk rng;rw[List.map_map];rfl
theorem fG{lo hi:Int}(d:-(2 ^ 62)<=lo)(c:lo<2 ^ 62)(b:-(2 ^ 62)<=hi)(a:hi<2 ^ 62):jJ lo hi=.ok (dk lo hi):=by unfold jJ;rw[if_pos ⟨d,c,b,a⟩]
theorem yr{a b:Tp->Res D}{d c:Z->Res Int}(f:EJ rep D.int a d)(e:EJ rep D.int b c):EJ rep (List.map D.int) (BL a b) (a9 jJ d c):=λs=>(f s).bnd λi=>(e s).bnd λj=>by
 show SimR _ (if -(2 ^ 62)<=i/\i<2 ^ 62/\-(2 ^ 62)<=j/\j<2 ^ 62 then _ else _) _;by_cases h:-(2 ^ 62)<=i/\i<2 ^ 62/\-(2 ^ 62)<=j/\j<2 ^ 62
 ·rw[Vq h,fG h.1 h.2.1 h.2.2.1 h.2.2.2];exact congrArg Res.ok (IY i j).symm
 ·unfold jJ;rw[if_neg h,if_neg h];trivial
theorem jq{b:Tp->Res D}{c:Z->Res Int}(d:EJ rep D.int b c):EJ rep (List.map D.int) (gb b) (bD (jJ 0) c):=λs=>yr (s9 (a:=(0:Int)) rfl) d s
def OutC.res:OutC Z W->Res W
 |.ok a _=>.ok a
 |.exc x _=>.exc x
 |.bad=>.bad
@[simp] theorem MS(a:W)(s:Z):(OutC.ok a s).res=.ok a:=rfl
@[simp] theorem UD(x:Nat)(s:Z):(OutC.exc x s:OutC Z W).res=.exc x:=rfl
@[simp] theorem UE:(OutC.bad:OutC Z W).res=.bad:=rfl
@[simp] def bndO(r:Res W)(s:Z)(k:W->OutC Z X):OutC Z X:=match r with
 |.ok a=>k a
 |.exc x=>.exc x s
 |.bad=>.bad
theorem SimO.res{e:W->D}{b:List D->Out D}{ds:List D}{q:OutC Z W}(h:SimO rep e (b ds) q):SimR e (f9 b ds) q.res:=by
 unfold f9;cases q with
 |ok a s=>rw[show b ds=_ from h];rfl
 |exc x s=>rw[show b ds=_ from h];rfl
 |bad=>trivial
theorem SimO.bndO{e:W->L}{b:X->J}{s:Z}{r:Res L}{q:Res W}{k:L->Tp->Out J}{l:W->OutC Z X}(h:SimR e r q)(c:∀a,SimO rep b (k (e a) (rep s)) (l a)):SimO rep b ((r.up (rep s)).bind k) (Cl.bndO q s l):=by
 cases q with
 |ok a=>rw[show r=_ from h];exact c a
 |exc x=>rw[show r=_ from h];exact rfl
 |bad=>trivial
@[simp] def LW(w:σ'->Z->Z)(s:Z):OutC σ' W->OutC Z W
 |.ok a b=>.ok a (w b s)
 |.exc x b=>.exc x (w b s)
 |.bad=>.bad
theorem SimO.wb{b:List Ap}{d:List D->Out D}{ds:List D}{e:W->D}{q:OutC σ' W}{w:σ'->Z->Z}(f:∀c s,cK b 0 (Y c) (rep s)=rep (w c s))(h:SimO Y e (d ds) q)(s:Z):SimO rep e (cC b d ds (rep s)) (LW w s q):=by
 unfold cC;cases q with
 |ok a c=>rw[show d ds=_ from h];show Out.ok _ _=Out.ok _ _;rw[f]
 |exc x c=>rw[show d ds=_ from h];show Out.exc _ _=Out.exc _ _;rw[f]
 |bad=>trivial
theorem qm{e:W->D}{eR:L->J}{m:Tp->Res D}{r:Tp->Res (List D)}{k:List D->Res J}{c:Z->Res W}{l:W->Res L}{s:Z}(h:EJ rep e m c)(g:∀x,SimR eR ((r (rep s)).bind λds=>k (e x::ds)) (l x)):SimR eR ((aB m r (rep s)).bind k) ((c s).bind l):=by
 have h:=h s;unfold aB;refine SimR.el h (λx=>?_) (λ_=>rfl) λ_=>trivial;have g:=g x;simp only[Res.bind];cases z:r (rep s)<;>rw[z]at g<;>exact g
theorem BW{e:W->D}{eR:L->J}{m:Tp->Res D}{r:Tp->Res (List D)}{k:List D->Tp->Out J}{c:Z->Res W}{l:W->OutC Z L}{s:Z}(h:EJ rep e m c)(g:∀x,SimO rep eR (((r (rep s)).up (rep s)).bind λds M=>k (e x::ds) M) (l x)):SimO rep eR (((aB m r (rep s)).up (rep s)).bind k) (bndO (c s) s l):=by
 have h:=h s;unfold aB;refine SimR.el h (λx=>?_) (λ_=>rfl) λ_=>trivial;have g:=g x;simp only[Res.bind];cases z:r (rep s)<;>rw[z]at g<;>exact g
theorem Uk{r:Res W}{f:W->Res X}{g:X->Res L}:(r.bind f).bind g=r.bind λx=>(f x).bind g:=by cases r<;>rfl
theorem bz{e:W->D}{f:X->D}{m n:Tp->Res D}{c:Z->Res W}{d:Z->Res X}(h:EJ rep e m c)(g:EJ rep f n d):EJ rep (qo e f) (j9 (aB m (aB n a7))) (iJ c d):=λs=>qm h λa=>qm g λb=>by simp only[a7,Res.bind];rw[Vq (by show 2<=aq;decide)];rfl
theorem AA{e:W->D}{h:X->D}{g:L->D}{m n o:Tp->Res D}{c:Z->Res W}{d:Z->Res X}{f:Z->Res L}(k:EJ rep e m c)(j:EJ rep h n d)(i:EJ rep g o f):EJ rep (wO e h g) (j9 (aB m (aB n (aB o a7)))) (iJ c (iJ d f)):=λs=>qm k λa=>by
 show SimR _ _ (((d s).bind λy=>(f s).bind λz=>.ok (y,z)).bind λy=>.ok (a,y));rw[Uk];exact qm j λb=>by rw[Uk];exact qm i λz=>by simp only[a7,Res.bind];rw[Vq (by show 3<=aq;decide)];rfl
theorem EF{e:W->D}{eR:L->D}{c:Nat}{b:Str}{d:List D->Out D}{m:Tp->Res D}{r:Tp->Res (List D)}{q:Z->Res W}{l:W->Res L}{s:Z}(f:∀a,bH c b (e a)=true)(h:EJ rep e m q)(g:∀x,SimR eR ((r (rep s)).bind λds=>f9 d (e x::ds)) (l x)):SimR eR (pm c b d m r (rep s)) ((q s).bind l):=(h s).bnd λx=>by rw[Vq (f x)];exact g x
theorem Ac{e:W->D}{eR:L->D}{c:Nat}{d:Str}{b:List Ap}{f:List D->Out D}{m:Tp->Res D}{r:Tp->Res (List D)}{q:Z->Res W}{l:W->OutC Z L}{s:Z}(i:∀a,bH c d (e a)=true)(h:EJ rep e m q)(g:∀x,SimO rep eR (((r (rep s)).up (rep s)).bind λds M=>cC b f (e x::ds) M) (l x)):SimO rep eR (mm c d b f m r (rep s)) (bndO (q s) s l):=SimO.bndO (h s) λx=>by rw[Vq (i x)];exact g x
variable{α0 α1 α2 α3 α4 α5:Type}{e0:α0->D}{e1:α1->D}{e2:α2->D}{e3:α3->D}{e4:α4->D}{e5:α5->D}{m0 m1 m2 m3 m4 m5:Tp->Res D}{c0:Z->Res α0}{c1:Z->Res α1}{c2:Z->Res α2}{c3:Z->Res α3}{c4:Z->Res α4}{c5:Z->Res α5}{eR:L->D}{fm:List D->Out D}{w:σ'->Z->Z}{plan:List Ap}{c:Nat}{mn:Str}
@[simp] def jK(f:α0->OutC σ' L)(c0:Z->Res α0):Z->Res L:=λs=>(c0 s).bind λa=>(f a).res
@[simp] def OA(f:α0->OutC σ' L)(w:σ'->Z->Z)(c0:Z->Res α0):Z->OutC Z L:=λs=>bndO (c0 s) s λa=>LW w s (f a)
@[simp] def Je(f:α0->Res L)(c0:Z->Res α0):Z->Res L:=λs=>(c0 s).bind λa=>f a
theorem yu{f:α0->OutC σ' L}(b:∀a,SimO Y eR (fm [e0 a]) (f a))(h0:EJ rep e0 m0 c0):EJ rep eR (pc fm (aB m0 a7)) (jK f c0):=λs=>qm h0 λa=>(b a).res
theorem yt{f:α0->Res L}(b:∀a,SimR eR (gM c fm [e0 a]) (f a))(h0:EJ rep e0 m0 c0):EJ rep eR (pk c fm (aB m0 a7)) (Je f c0):=λs=>qm h0 λa=>b a
theorem i6{f:α0->OutC σ' L}(d:∀a,bH c mn (e0 a)=true)(e:∀b,SimO Y eR (fm [e0 b]) (f b))(h0:EJ rep e0 m0 c0):EJ rep eR (pm c mn fm m0 a7) (jK f c0):=λs=>EF d h0 λb=>(e b).res
theorem Fd{f:α0->OutC σ' L}(g:∀a,bH c mn (e0 a)=true)(e:∀d s,cK plan 0 (Y d) (rep s)=rep (w d s))(h:∀b,SimO Y eR (fm [e0 b]) (f b))(h0:EJ rep e0 m0 c0):NJ rep eR (mm c mn plan fm m0 a7) (OA f w c0):=λs=>Ac g h0 λb=>SimO.wb e (h b) s
@[simp] def eB(f:α0->α1->OutC σ' L)(c0:Z->Res α0)(c1:Z->Res α1):Z->Res L:=λs=>(c0 s).bind λb=>(c1 s).bind λa=>(f b a).res
@[simp] def Ch(f:α0->α1->OutC σ' L)(w:σ'->Z->Z)(c0:Z->Res α0)(c1:Z->Res α1):Z->OutC Z L:=λs=>bndO (c0 s) s λb=>bndO (c1 s) s λa=>LW w s (f b a)
@[simp] def M0(f:α0->α1->Res L)(c0:Z->Res α0)(c1:Z->Res α1):Z->Res L:=λs=>(c0 s).bind λb=>(c1 s).bind λa=>f b a
theorem Ri{eR:L->J}{k:List D->Res J}{f:α0->α1->Res L}(c:∀b a,SimR eR (k [e0 b,e1 a]) (f b a))(h0:EJ rep e0 m0 c0)(d:EJ rep e1 m1 c1):EJ rep eR (λM=>(((aB m0 (aB m1 a7))) M).bind k) (M0 f c0 c1):=λs=>qm h0 λb=>qm d λa=>c b a
theorem dy{f:α0->α1->OutC σ' L}(c:∀b a,SimO Y eR (fm [e0 b,e1 a]) (f b a))(h0:EJ rep e0 m0 c0)(d:EJ rep e1 m1 c1):EJ rep eR (pc fm (aB m0 (aB m1 a7))) (eB f c0 c1):=λs=>qm h0 λb=>qm d λa=>(c b a).res
theorem gA{f:α0->α1->OutC σ' L}(e:∀a,bH c mn (e0 a)=true)(g:∀d b,SimO Y eR (fm [e0 d,e1 b]) (f d b))(h0:EJ rep e0 m0 c0)(h:EJ rep e1 m1 c1):EJ rep eR (pm c mn fm m0 (aB m1 a7)) (eB f c0 c1):=λs=>EF e h0 λd=>qm h λb=>(g d b).res
theorem nJ{f:α0->α1->OutC σ' L}(h:∀a,bH c mn (e0 a)=true)(g:∀e s,cK plan 0 (Y e) (rep s)=rep (w e s))(i:∀d b,SimO Y eR (fm [e0 d,e1 b]) (f d b))(h0:EJ rep e0 m0 c0)(j:EJ rep e1 m1 c1):NJ rep eR (mm c mn plan fm m0 (aB m1 a7)) (Ch f w c0 c1):=λs=>Ac h h0 λd=>BW j λb=>SimO.wb g (i d b) s
@[simp] def lE(f:α0->α1->α2->OutC σ' L)(c0:Z->Res α0)(c1:Z->Res α1)(c2:Z->Res α2):Z->Res L:=λs=>(c0 s).bind λc=>(c1 s).bind λb=>(c2 s).bind λa=>(f c b a).res
@[simp] def gL(f:α0->α1->α2->OutC σ' L)(w:σ'->Z->Z)(c0:Z->Res α0)(c1:Z->Res α1)(c2:Z->Res α2):Z->OutC Z L:=λs=>bndO (c0 s) s λc=>bndO (c1 s) s λb=>bndO (c2 s) s λa=>LW w s (f c b a)
theorem sZ{f:α0->α1->α2->OutC σ' L}(d:∀c b a,SimO Y eR (fm [e0 c,e1 b,e2 a]) (f c b a))(h0:EJ rep e0 m0 c0)(g:EJ rep e1 m1 c1)(e:EJ rep e2 m2 c2):EJ rep eR (pc fm (aB m0 (aB m1 (aB m2 a7)))) (lE f c0 c1 c2):=λs=>qm h0 λc=>qm g λb=>qm e λa=>(d c b a).res
theorem Ff{f:α0->α1->α2->OutC σ' L}(e:∀d s,cK plan 0 (Y d) (rep s)=rep (w d s))(g:∀c b a,SimO Y eR (fm [e0 c,e1 b,e2 a]) (f c b a))(h0:EJ rep e0 m0 c0)(i:EJ rep e1 m1 c1)(h:EJ rep e2 m2 c2):NJ rep eR (mc plan fm (aB m0 (aB m1 (aB m2 a7)))) (gL f w c0 c1 c2):=λs=>BW h0 λc=>BW i λb=>BW h λa=>SimO.wb e (g c b a) s
theorem lS{f:α0->α1->α2->OutC σ' L}(g:∀a,bH c mn (e0 a)=true)(h:∀e d b,SimO Y eR (fm [e0 e,e1 d,e2 b]) (f e d b))(h0:EJ rep e0 m0 c0)(j:EJ rep e1 m1 c1)(i:EJ rep e2 m2 c2):EJ rep eR (pm c mn fm m0 (aB m1 (aB m2 a7))) (lE f c0 c1 c2):=λs=>EF g h0 λe=>qm j λd=>qm i λb=>(h e d b).res
theorem fw{f:α0->α1->α2->OutC σ' L}(i:∀a,bH c mn (e0 a)=true)(h:∀g s,cK plan 0 (Y g) (rep s)=rep (w g s))(j:∀e d b,SimO Y eR (fm [e0 e,e1 d,e2 b]) (f e d b))(h0:EJ rep e0 m0 c0)(l:EJ rep e1 m1 c1)(k:EJ rep e2 m2 c2):NJ rep eR (mm c mn plan fm m0 (aB m1 (aB m2 a7))) (gL f w c0 c1 c2):=λs=>Ac i h0 λe=>BW l λd=>BW k λb=>SimO.wb h (j e d b) s
@[simp] def Fo(f:α0->α1->α2->α3->OutC σ' L)(w:σ'->Z->Z)(c0:Z->Res α0)(c1:Z->Res α1)(c2:Z->Res α2)(c3:Z->Res α3):Z->OutC Z L:=λs=>bndO (c0 s) s λd=>bndO (c1 s) s λc=>bndO (c2 s) s λb=>bndO (c3 s) s λa=>LW w s (f d c b a)
theorem Fe{f:α0->α1->α2->α3->OutC σ' L}(g:∀e s,cK plan 0 (Y e) (rep s)=rep (w e s))(h:∀d c b a,SimO Y eR (fm [e0 d,e1 c,e2 b,e3 a]) (f d c b a))(h0:EJ rep e0 m0 c0)(k:EJ rep e1 m1 c1)(j:EJ rep e2 m2 c2)(i:EJ rep e3 m3 c3):NJ rep eR (mc plan fm (aB m0 (aB m1 (aB m2 (aB m3 a7))))) (Fo f w c0 c1 c2 c3):=λs=>BW h0 λd=>BW k λc=>BW j λb=>BW i λa=>SimO.wb g (h d c b a) s
theorem NH{f:α0->α1->α2->α3->OutC σ' L}(j:∀a,bH c mn (e0 a)=true)(i:∀h s,cK plan 0 (Y h) (rep s)=rep (w h s))(k:∀g e d b,SimO Y eR (fm [e0 g,e1 e,e2 d,e3 b]) (f g e d b))(h0:EJ rep e0 m0 c0)(n:EJ rep e1 m1 c1)(m:EJ rep e2 m2 c2)(l:EJ rep e3 m3 c3):NJ rep eR (mm c mn plan fm m0 (aB m1 (aB m2 (aB m3 a7)))) (Fo f w c0 c1 c2 c3):=λs=>Ac j h0 λg=>BW n λe=>BW m λd=>BW l λb=>SimO.wb i (k g e d b) s
@[simp] def Ro(f:α0->α1->α2->α3->α4->OutC σ' L)(c0:Z->Res α0)(c1:Z->Res α1)(c2:Z->Res α2)(c3:Z->Res α3)(c4:Z->Res α4):Z->Res L:=λs=>(c0 s).bind λe=>(c1 s).bind λd=>(c2 s).bind λc=>(c3 s).bind λb=>(c4 s).bind λa=>(f e d c b a).res
theorem Pb{f:α0->α1->α2->α3->α4->OutC σ' L}(g:∀e d c b a,SimO Y eR (fm [e0 e,e1 d,e2 c,e3 b,e4 a]) (f e d c b a))(h0:EJ rep e0 m0 c0)(k:EJ rep e1 m1 c1)(j:EJ rep e2 m2 c2)(i:EJ rep e3 m3 c3)(h:EJ rep e4 m4 c4):EJ rep eR (pc fm (aB m0 (aB m1 (aB m2 (aB m3 (aB m4 a7)))))) (Ro f c0 c1 c2 c3 c4):=λs=>qm h0 λe=>qm k λd=>qm j λc=>qm i λb=>qm h λa=>(g e d c b a).res
end
section
variable{Z σ' W X L J:Type}{rep:Z->Tp}{eR:X->D}
@[simp] def bj(c:Z->Res W):Z->OutC Z W:=λs=>match c s with
 |.ok a=>.ok a s
 |.exc x=>.exc x s
 |.bad=>.bad
theorem ak{e:W->L}{m:Tp->Res L}{c:Z->Res W}(h:EJ rep e m c):NJ rep e (aQ m) (bj c):=λs=>by
 have h:=h s;unfold bj aQ;refine SimR.el h (λa=>?_) (λ_=>rfl) λ_=>trivial;rfl
@[simp] def Bn(o:OutC Z W)(k:W->Z->OutC Z X):OutC Z X:=match o with
 |.ok a s=>k a s
 |.exc x s=>.exc x s
 |.bad=>.bad
theorem SimO.bd{e:W->L}{b:X->J}{r:Out L}{q:OutC Z W}{k:L->Tp->Out J}{l:W->Z->OutC Z X}(h:SimO rep e r q)(c:∀a s,SimO rep b (k (e a) (rep s)) (l a s)):SimO rep b (r.bind k) (Bn q l):=by
 cases q with
 |ok a s=>rw[show r=_ from h];exact c a s
 |exc x s=>rw[show r=_ from h];exact rfl
 |bad=>trivial
theorem SimO.ite{e:W->L}{p:Prop}[Decidable p]{r a:Out L}{q b:OutC Z W}(h:SimO rep e r q)(h':SimO rep e a b):SimO rep e (if p then r else a) (if p then q else b):=by
 by_cases z:p
 ·rw[Vq z,Vq z];exact h
 ·rw[on z,on z];exact h'
theorem qR{e:W->D}{i:X->D}{m:Tp->Out D}{c:Z->OutC Z W}{f:W->Res X}(h:∀a,SimR i (.ok (e a)) (f a))(d:NJ rep e m c):NJ rep i m (λs=>Bn (c s) λa s=>bndO (f a) s λb=>.ok b s):=λs=>by
 have d:=d s;dsimp only;cases q:c s with
 |ok a g=>
   rw[q]at d;rw[show m (rep s)=_ from d]
   have:=h a
   show SimO rep i (.ok (e a) (rep g)) (bndO (f a) g λb=>.ok b g);cases j:f a with
   |ok b=>rw[j]at this;have this:Res.ok (e a)=.ok (i b):=this;injection this with this;rw[this];rfl
   |exc x=>rw[j]at this;cases this
   |bad=>trivial
 |exc x g=>rw[q]at d;exact d
 |bad=>trivial
@[simp] def HI(a b:Z->OutC Z Bool):Z->OutC Z Bool:=λs=>Bn (a s) λc s=>if c=true then b s else .ok false s
theorem Jq{a b:Tp->Out D}{c d:Z->OutC Z Bool}(f:NJ rep D.bl a c)(e:NJ rep D.bl b d):NJ rep D.bl (HJ a b) (HI c d):=λs=>(f s).bd λt s=>SimO.ite (e s) rfl
@[simp] def Ii(g:Z->Option W)(b:Z->Z):Z->OutC Z W:=λs=>match g s with|some a=>.ok a (b s)|none=>.bad
theorem mh{e:W->D}{i:Nat}{g:Z->Option W}{b:Z->Z}(h:∀s,rg (rep s) i=(g s).map e)(c:∀s,(rep s).set i none=rep (b s)):NJ rep e (C4 i) (Ii g b):=λs=>by
 unfold C4 Ii;rw[h s];cases g s with
 |none=>trivial
 |some a=>show Out.ok _ _=Out.ok _ _;rw[c]
@[simp] def OX(g:Z->Option (List W))(p:Z->List W->Z)(f:List W->J->Option (L×List W))(c:Z->Res J):Z->OutC Z L:=λs=>match g s with
 |none=>.bad
 | some xs=>bndO (c s) s λx=>match f xs x with
   |some (r,a)=>.ok r (p s a)
   |none=>.bad
def qy(xs:List W)(x:W):Option (Unit×List W):=if xs.length<aq then some ((),xs++[x]) else none
def ED(xs:List W)(i:Int):Option (W×List W):=if 0<=i/\i<xs.length/\xs.length<=aq then xs[i.toNat]?.map λd=>(d,xs.eraseIdx i.toNat) else none
def xg[DecidableEq W](xs:List W)(x:W):Option (Unit×List W):=(xs.findIdx? λy=>decide (y=x)).map λj=>((),xs.eraseIdx j)
def Kf{δ':Type}(e:W->D)(e1:J->D)(b:L->D)(F:List D->D->Option (D×List D))(f:List W->J->Option (L×List W)):Prop:=∀xs x,match f xs x with
 |some (r,a)=>F (xs.map e) (e1 x)=some (b r,a.map e)
 |none=>True
theorem lQ{e:W->L}:∀(xs:List W) (i:Nat),(xs.map e).eraseIdx i=(xs.eraseIdx i).map e
 |[],i=>by simp
 |x::xs,0=>by simp
 |x::xs,i+1=>by rw[Vr,We,We,Vr,lQ xs i]
theorem Ay{e:W->D}:Kf (δ':=Unit) e e eN lX qy:=λxs x=>by
 unfold qy lX;rw[List.length_map];by_cases h:xs.length<aq
 ·rw[Vq h,Vq h];show some (D.non,xs.map e++[e x])=some (eN (),(xs++[x]).map e);rw[V9];rfl
 ·rw[on h];trivial
theorem Tl{e:W->D}:Kf (δ':=Unit) e D.int e EC ED:=λxs i=>by
 unfold ED EC;dsimp only;rw[List.length_map];by_cases h:0<=i/\i<xs.length/\xs.length<=aq
 · rw[Vq h,Vq h,VR];cases xs[i.toNat]? with
   |none=>trivial
   |some a=>
     show some (e a,(xs.map e).eraseIdx i.toNat)=some (e a,(xs.eraseIdx i.toNat).map e);rw[lQ]
 ·rw[on h];trivial
theorem mz{e:W->PyData}{p:PyData->Bool}:∀xs:List W,(xs.map e).findIdx? p=xs.findIdx? λx=>p (e x)
 |[]=>rfl
 |x::xs=>by rw[Vr,List.findIdx?_cons,List.findIdx?_cons,mz xs]
theorem Tk{e:W->D}[DecidableEq W](A:Dat e)(hd:A.dep<=64):Kf (δ':=Unit) e e eN BV xg:=λxs x=>by
 have b:((xs.map A.py).all SeqAt.shaped)=true:=by
  rw[Ys,WB];exact λa _=>A.shp hd a
 unfold xg BV;rw[A.h0,lq A.h0];dsimp only;rw[if_pos ⟨A.shp hd x,b⟩,mz];have c:(λy=>PyData.eqv (A.py y) (A.py x))=λy=>decide (y=x):=funext λy=>A.eqv y x;rw[c];cases xs.findIdx? λy=>decide (y=x) with
 |none=>trivial
 |some j=>
   show some (D.non,(xs.map e).eraseIdx j)=some (eN (),(xs.eraseIdx j).map e);rw[lQ];rfl
theorem uX{e:W->D}{e1:J->D}{a:L->D}{get:Tp->Option D}{set:Tp->D->Tp}{g:Z->Option (List W)}{p:Z->List W->Z}{F:List D->D->Option (D×List D)}{f:List W->J->Option (L×List W)}{m:Tp->Res D}{c:Z->Res J}
 (j:∀s,get (rep s)=(g s).map (eL e)) (i:∀s xs,set (rep s) (eL e xs)=rep (p s xs)) (hF:Kf (δ':=Unit) e e1 a F f) (d:EJ rep e1 m c):NJ rep a (mQ get set F m) (OX g p f c):=λs=>by
 have d:=d s;unfold mQ OX;rw[j];cases g s with
 |none=>trivial
 |some xs=>
   show SimO rep a (OT set F (rep s) (xs.map e) (m (rep s))) (bndO (c s) s _);refine SimR.el d (λx=>?_) (λ_=>rfl) λ_=>trivial
   have:=hF xs x
   show SimO rep a (Co set (rep s) (F (xs.map e) (e1 x))) (match f xs x with|some (r,b)=>OutC.ok r (p s b)|none=>.bad);cases h:f xs x with
   |none=>trivial
   |some r=>
     rw[h]at this;obtain⟨r,b⟩:=r;have this:F (xs.map e) (e1 x)=some (a r,b.map e):=this;rw[this];show Out.ok _ _=Out.ok _ _;rw[<-i];rfl
@[simp] def Qc(g:Z->Option (List W))(p:Z->List W->Z)(c:Z->OutC Z W):Z->OutC Z Unit:=λs=>match g s with
 |none=>.bad
 | some _=>Bn (c s) λx s=>match g s with
   |none=>.bad
   |some xs=>(match qy xs x with|some (r,a)=>.ok r (p s a)|none=>.bad)
theorem NI{e:W->D}{i:Nat}{g:Z->Option (List W)}{p:Z->List W->Z}{m:Tp->Out D}{c:Z->OutC Z W}(d:∀s,rg (rep s) i=(g s).map (eL e))(j:∀s xs,(rep s).set i (some (eL e xs))=rep (p s xs))(b:NJ rep e m c):NJ rep eN (HH i m) (Qc g p c):=λs=>by
 have b:=b s;unfold HH Qc;rw[d];cases g s with
 |none=>trivial
 |some f=>
   show SimO rep eN ((m (rep s)).bind (wF i)) (Bn (c s) _);refine b.bd λx s=>?_;unfold wF;rw[d];cases g s with
   |none=>trivial
   |some xs=>
     have:=Ay (e:=e) xs x
     show SimO rep eN (Co (fb i) (rep s) (lX (xs.map e) (e x))) (match qy xs x with|some (r,a)=>OutC.ok r (p s a)|none=>.bad);cases h:qy xs x with
     |none=>trivial
     |some r=>
       rw[h]at this;obtain⟨r,a⟩:=r;have this:lX (xs.map e) (e x)=some (eN r,a.map e):=this;rw[this];show Out.ok _ _=Out.ok _ _;rw[<-j];rfl
@[simp] def vw(g:Z->Option (DI W))(p:Z->DI W->Z)(ck:Z->Res (List Int)):Z->OutC Z W:=λs=>match g s with
 |none=>.bad
 | some F=>bndO (ck s) s λk=>match F.get k with
   |some x=>.ok x (p s (F.del k))
   |none=>.bad
theorem sI{e:W->D}{get:Tp->Option D}{set:Tp->D->Tp}{g:Z->Option (DI W)}{p:Z->DI W->Z}{mk:Tp->Res D}{ck:Z->Res (List Int)}(d:∀s,get (rep s)=(g s).map (bB e))(c:∀s F,set (rep s) (bB e F)=rep (p s F))(a:EJ rep (kP D.int) mk ck):NJ rep e (oK get set mk) (vw g p ck):=λs=>by
 have a:=a s;unfold oK vw;rw[d];cases g s with
 |none=>trivial
 |some F=>
   show SimO rep e (vv set (bB e F) (rep s) (mk (rep s))) (bndO (ck s) s _);refine SimR.el a (λk=>?_) (λ_=>rfl) λ_=>trivial;show SimO rep e (vv set (bB e F) (rep s) (.ok (.tup (k.map D.int)))) (match F.get k with|some x=>OutC.ok x (p s (F.del k))|none=>.bad);cases b:F.get k with
   |none=>trivial
   |some x=>
     unfold vv;dsimp only;rw[GR b];show Out.ok _ _=Out.ok _ _;rw[c]
end
section
variable{Z σ' W X L J:Type}{rep:Z->Tp}{eR:X->D}
@[simp] def JZ(o:OutC Z W)(k:W->Z->FlC Z X):FlC Z X:=match o with
 |.ok a s=>k a s
 |.exc x s=>.exc x s
 |.bad=>.bad
theorem SimS.bd{e:W->L}{r:Out L}{q:OutC Z W}{k:L->Tp->SO}{l:W->Z->FlC Z X}(h:SimO rep e r q)(b:∀a s,SimS rep eR (k (e a) (rep s)) (l a s)):SimS rep eR (gD r k) (JZ q l):=by
 cases q with
 |ok a s=>rw[show r=_ from h];exact b a s
 |exc x s=>rw[show r=_ from h];exact rfl
 |bad=>trivial
theorem SimS.ite{p:Prop}[Decidable p]{r a:SO}{q b:FlC Z X}(h:SimS rep eR r q)(h':SimS rep eR a b):SimS rep eR (if p then r else a) (if p then q else b):=by
 by_cases z:p
 ·rw[Vq z,Vq z];exact h
 ·rw[on z,on z];exact h'
@[simp] def ay(a b:Z->FlC Z X):Z->FlC Z X:=λs=>match a s with
 |.nx c=>b c
 |o=>o
theorem ah{a b:Tp->SO}{c d:Z->FlC Z X}(e:TJ rep eR a c)(g:TJ rep eR b d):TJ rep eR (aw a b) (ay c d):=λs=>by
 have e:=e s;unfold aw ay;cases q:c s with
 |nx f=>rw[q]at e;rw[show a (rep s)=_ from e];exact g f
 |rt b f=>rw[q]at e;rw[show a (rep s)=_ from e];rfl
 |bk f=>rw[q]at e;rw[show a (rep s)=_ from e];rfl
 |ct f=>rw[q]at e;rw[show a (rep s)=_ from e];rfl
 |exc x f=>rw[q]at e;rw[show a (rep s)=_ from e];rfl
 |bad=>trivial
@[simp] def cu:Z->FlC Z X:=λs=>.nx s
@[simp] def qx:Z->FlC Z X:=λ_=>.bad
theorem bv:TJ rep eR bT cu:=λs=>rfl
theorem g8{m:Tp->SO}:TJ rep eR m qx:=λs=>trivial
@[simp] def bX(c:Z->OutC Z X):Z->FlC Z X:=λs=>JZ (c s) λb s=>.rt b s
theorem a8{m:Tp->Out D}{c:Z->OutC Z X}(h:NJ rep eR m c):TJ rep eR (cq m) (bX c):=λs=>SimS.bd (h s) λb s=>rfl
@[simp] def K5(b:X):Z->FlC Z X:=λs=>.rt b s
theorem Ir{b:X}(h:eR b=.non):TJ rep eR MR (K5 b):=λs=>by show SO.rt .non _=SO.rt (eR b) _;rw[h]
@[simp] def aS(c:Z->OutC Z W):Z->FlC Z X:=λs=>JZ (c s) λ_ s=>.nx s
theorem aA{e:W->D}{m:Tp->Out D}{c:Z->OutC Z W}(h:NJ rep e m c):TJ rep eR (aY m) (aS c):=λs=>SimS.bd (h s) λb s=>rfl
@[simp] def bR(u:W->Z->Z)(c:Z->OutC Z W):Z->FlC Z X:=λs=>JZ (c s) λa s=>.nx (u a s)
theorem LZ{e:W->D}{i:Nat}{m:Tp->Out D}{c:Z->OutC Z W}{u:W->Z->Z}(b:∀a s,(rep s).set i (some (e a))=rep (u a s))(h:NJ rep e m c):TJ rep eR (bN i m) (bR u c):=λs=>SimS.bd (h s) λa s=>by show SO.nx _=SO.nx _;rw[b]
@[simp] def jQ(t:Z->OutC Z Bool)(a b:Z->FlC Z X):Z->FlC Z X:=λs=>JZ (t s) λc s=>if c=true then a s else b s
theorem b7{t:Tp->Out Bool}{a b:Tp->SO}{ct:Z->OutC Z Bool}{c d:Z->FlC Z X}(e:NJ rep (id:Bool->Bool) t ct)(g:TJ rep eR a c)(f:TJ rep eR b d):TJ rep eR (jo t a b) (jQ ct c d):=λs=>SimS.bd (e s) λt s=>SimS.ite (g s) (f s)
def ox(u:W->Z->Z)(body:Z->FlC Z X):List W->Z->FlC Z X
 |[],s=>.nx s
 | a::r,s=>match body (u a s) with
   |.nx b=>ox u body r b
   |.ct b=>ox u body r b
   |.bk b=>.nx b
   |o=>o
theorem rX{e:W->D}{g:D->Tp->Option Tp}{body:Tp->SO}{u:W->Z->Z}{c:Z->FlC Z X}(i:∀a s,g (e a) (rep s)=some (rep (u a s)))(h:TJ rep eR body c):∀(xs:List W) (s:Z),SimS rep eR (sW g body (xs.map e) (rep s)) (ox u c xs s)
 |[],s=>rfl
 | a::r,s=>by
   have d:=h (u a s);rw[List.map_cons];unfold sW ox;rw[i];dsimp only;cases q:c (u a s) with
   |nx f=>rw[q]at d;rw[show body (rep (u a s))=_ from d];exact rX i h r f
   |ct f=>rw[q]at d;rw[show body (rep (u a s))=_ from d];exact rX i h r f
   |bk f=>rw[q]at d;rw[show body (rep (u a s))=_ from d];rfl
   |rt b f=>rw[q]at d;rw[show body (rep (u a s))=_ from d];rfl
   |exc x f=>rw[q]at d;rw[show body (rep (u a s))=_ from d];rfl
   |bad=>trivial
@[simp] def fX(src:Z->Res (List W))(u:W->Z->Z)(body:Z->FlC Z X):Z->FlC Z X:=λs=>match src s with
 |.ok xs=>ox u body xs s
 |.exc x=>.exc x s
 |.bad=>.bad
theorem da{e:W->D}{src:Tp->Res (List D)}{b:Z->Res (List W)}{d:D->Tp->Option Tp}{body:Tp->SO}{u:W->Z->Z}{c:Z->FlC Z X}(f:EJ rep (List.map e) src b)(g:∀a s,d (e a) (rep s)=some (rep (u a s)))(h:TJ rep eR body c):TJ rep eR (fW (aQ src) d body) (fX b u c):=λs=>by
 have f:=f s;unfold fW aQ fX;refine SimR.el f (λxs=>?_) (λ_=>rfl) λ_=>trivial;exact rX g h xs s
def C5(t:Z->OutC Z Bool)(body:Z->FlC Z X):Nat->Z->FlC Z X
 |0,_=>.bad
 | n+1,s=>match t s with
   | .ok true a=>(match body a with
     |.nx b=>C5 t body n b
     |.ct b=>C5 t body n b
     |.bk b=>.nx b
     |o=>o)
   |.ok false a=>.nx a
   |.exc x a=>.exc x a
   |.bad=>.bad
theorem zd{t:Tp->Out Bool}{body:Tp->SO}{ct:Z->OutC Z Bool}{c:Z->FlC Z X}(g:NJ rep (id:Bool->Bool) t ct)(h:TJ rep eR body c):∀n,TJ rep eR (za t body n) (C5 ct c n)
 |0=>λs=>trivial
 | n+1=>λs=>by
   have f:=g s;unfold za C5;cases q:ct s with
   |ok b d=>
     rw[q]at f;rw[show t (rep s)=_ from f];cases b with
     |false=>rfl
     |true=>
       have a:=h d;show SimS rep eR (match body (rep d) with | .nx G=>za t body n G | .ct G=>za t body n G | .bk G=>.nx G | o=>o) _;dsimp only;cases q:c d with
       |nx e=>rw[q]at a;rw[show body (rep d)=_ from a];exact zd g h n e
       |ct e=>rw[q]at a;rw[show body (rep d)=_ from a];exact zd g h n e
       |bk e=>rw[q]at a;rw[show body (rep d)=_ from a];rfl
       |rt b e=>rw[q]at a;rw[show body (rep d)=_ from a];rfl
       |exc x e=>rw[q]at a;rw[show body (rep d)=_ from a];rfl
       |bad=>trivial
   |exc x d=>rw[q]at f;rw[show t (rep s)=_ from f];rfl
   |bad=>trivial
@[simp] def i7(g:Z->Option (DI W))(p:Z->DI W->Z)(ck:Z->Res (List Int))(a:Z->OutC Z W):Z->FlC Z X:=λs=>JZ (a s) λx s=>match g s with
 |none=>.bad
 | some F=>(match ck s with
   |.ok k=>if F.length<aq then .nx (p s (F.put k x)) else .bad
   |.exc y=>.exc y s
   |.bad=>.bad)
theorem eG{e:W->D}{get:Tp->Option D}{set:Tp->D->Tp}{g:Z->Option (DI W)}{p:Z->DI W->Z}{mk:Tp->Res D}{ck:Z->Res (List Int)}{b:Tp->Out D}{c:Z->OutC Z W}(i:∀s,get (rep s)=(g s).map (bB e))(f:∀s F,set (rep s) (bB e F)=rep (p s F))
 (a:EJ rep (kP D.int) mk ck) (d:NJ rep e b c):TJ rep eR (gm get set mk b) (i7 g p ck c):=λs=>SimS.bd (d s) λx s=>by
 have a:=a s;rw[i];cases g s with
 |none=>trivial
 |some F=>
   show SimS rep eR (mE set (e x) (bB e F) (rep s) (mk (rep s))) _;dsimp only;refine SimR.el a (λk=>?_) (λ_=>rfl) λ_=>trivial;show SimS rep eR (mE set (e x) (bB e F) (rep s) (.ok (.tup (k.map D.int)))) (if F.length<aq then FlC.nx (p s (F.put k x)) else .bad);by_cases h:F.length<aq
   ·rw[if_pos h];unfold mE;dsimp only;rw[GQ h];show SO.nx _=SO.nx _;rw[f]
   ·rw[on h];trivial
@[simp] def Lw(g:Z->Option (List W))(p:Z->List W->Z)(ck:Z->Res Int)(a:Z->OutC Z W):Z->FlC Z X:=λs=>JZ (a s) λx s=>match g s with
 |none=>.bad
 | some xs=>(match ck s with
   |.ok i=>(match oj xs.length i with|some j=>.nx (p s (xs.set j x))|none=>.bad)
   |.exc y=>.exc y s
   |.bad=>.bad)
theorem Iu{e:W->D}{get:Tp->Option D}{set:Tp->D->Tp}{g:Z->Option (List W)}{p:Z->List W->Z}{mk:Tp->Res D}{ck:Z->Res Int}{b:Tp->Out D}{c:Z->OutC Z W}(h:∀s,get (rep s)=(g s).map (eL e))(f:∀s F,set (rep s) (eL e F)=rep (p s F))
 (a:EJ rep D.int mk ck) (d:NJ rep e b c):TJ rep eR (nX get set mk b) (Lw g p ck c):=λs=>SimS.bd (d s) λx s=>by
 have a:=a s;rw[h];cases g s with
 |none=>trivial
 |some xs=>
   show SimS rep eR (Aj set (e x) (xs.map e) (rep s) (mk (rep s))) _;dsimp only;refine SimR.el a (λi=>?_) (λ_=>rfl) λ_=>trivial;show SimS rep eR (match oj (xs.map e).length i with|some j=>.nx (set (rep s) (.lst ((xs.map e).set j (e x))))|none=>.bad) _;rw[List.length_map];dsimp only;cases oj xs.length i with
   |none=>trivial
   |some j=>
     show SO.nx _=SO.nx _;rw[<-Zd];exact congrArg _ (f s _)
@[simp] def bP(d:Option X):FlC Z X->OutC Z X
 |.nx s=>(match d with|some b=>.ok b s|none=>.bad)
 |.rt b s=>.ok b s
 |.exc x s=>.exc x s
 |_=>.bad
theorem dZ{k:Nat}{ds:List D}{body:Tp->SO}{c:Z->FlC Z X}{s:Z}{d:X}(hd:eR d=.non)(h:TJ rep eR body c)(e:ds.map some++List.replicate (k-ds.length) none=rep s):SimO rep eR (Mi.run k body ds) (bP (some d) (c s)):=by
 have h:=h s;unfold Mi.run;rw[e];cases q:c s with
 |nx a=>rw[q]at h;rw[show body (rep s)=_ from h];show Out.ok .non _=Out.ok (eR d) _;rw[hd]
 |rt b a=>rw[q]at h;rw[show body (rep s)=_ from h];rfl
 |exc x a=>rw[q]at h;rw[show body (rep s)=_ from h];rfl
 |_=>trivial
theorem du{k:Nat}{ds:List D}{body:Tp->SO}{c:Z->FlC Z X}{s:Z}(h:TJ rep eR body c)(d:ds.map some++List.replicate (k-ds.length) none=rep s):SimO rep eR (Mi.run k body ds) (bP none (c s)):=by
 have h:=h s;unfold Mi.run;rw[d];cases q:c s with
 |rt b a=>rw[q]at h;rw[show body (rep s)=_ from h];rfl
 |exc x a=>rw[q]at h;rw[show body (rep s)=_ from h];rfl
 |_=>trivial
theorem fA{k:Nat}{ds:List D}{body:Tp->SO}{c:Z->FlC Z X}{s:Z}(h:TJ rep eR body c)(d:ds.map some++List.replicate (k-ds.length) none=rep s):SimO rep eR (iO k body ds) (bP none (c s)):=by
 have h:=h s;unfold iO;rw[d];cases q:c s with
 |rt b a=>rw[q]at h;rw[show body (rep s)=_ from h];rfl
 |exc x a=>rw[q]at h;rw[show body (rep s)=_ from h];rfl
 |_=>trivial
end
section
variable{Z W X:Type}{rep:Z->Tp}{eR:X->D}
theorem xp{e:W->D}{i:Nat}{g:Z->W}(h:∀s,rg (rep s) i=some (e (g s)):=by exact λ_=>rfl):EJ rep e (vr i) (pC g):=Pc h
theorem xv{e:W->D}{i:Nat}{g:Z->Option W}(h:∀s,rg (rep s) i=(g s).map e:=by exact λ_=>rfl):EJ rep e (vr i) (vC g):=O9 h
theorem xk{e:W->D}{d:D}{a:W}(h:e a=d:=by rfl):EJ rep e (aV d) (kC a):=s9 h
theorem xs{e:W->D}{i:Nat}{m:Tp->Out D}{c:Z->OutC Z W}{u:W->Z->Z}(h:NJ rep e m c)(b:∀a s,(rep s).set i (some (e a))=rep (u a s):=by exact λ_ _=>rfl):TJ rep eR (bN i m) (bR u c):=LZ b h
end
section
variable{Z σ' W X L J τ:Type}
theorem lP{u:W->Z->Z}{c:Z->FlC Z X}(R:τ->Z->Prop)(step:τ->W->τ):∀(l:List W) (b:τ) (s:Z),R b s->
 (∀b a s,a∈l->R b s->∃d,(c (u a s)=.nx d\/c (u a s)=.ct d)/\R (step b a) d)->∃d,ox u c l s=.nx d/\R (l.foldl step b) d
 |[],b,s,h,_=>⟨s,rfl,h⟩
 | a::l,b,s,h,st=>by
   obtain⟨s2,f,i⟩:=st b a s List.mem_cons_self h;obtain⟨d,e,h'⟩:=lP R step l (step b a) s2 i λb c s g=>st b c s (List.mem_cons_of_mem _ g);refine⟨d,?_,h'⟩;unfold ox;rcases f with f|f<;>(rw[f];exact e)
theorem GD{u:W->Z->Z}{c:Z->FlC Z X}(R:Z->Prop)(l:List W)(s:Z)(h:R s)(st:∀a s,a∈l->R s->∃b,(c (u a s)=.nx b\/c (u a s)=.ct b)/\R b):∃b,ox u c l s=.nx b/\R b:=by
 obtain⟨b,e,h'⟩:=lP (τ:=Unit) (λ_ s=>R s) (λ_ _=>()) l () s h λ_ a s f d=>st a s f d;exact⟨b,e,h'⟩
theorem c9{u:W->Z->Z}{c:Z->FlC Z X}(R:List W->Z->Prop)(l:List W)(s:Z)(h:R [] s)(st:∀p a r s,l=p++a::r->R p s->∃b,(c (u a s)=.nx b\/c (u a s)=.ct b)/\R (p++[a]) b):∃b,ox u c l s=.nx b/\R l b:=by
 have f:∀(r p:List W) (s:Z),l=p++r->R p s->∃b,ox u c r s=.nx b/\R l b:=by
  intro r
  induction r with
  |nil=>intro p s e h;rw[Wc]at e;exact⟨s,rfl,by rw[e];exact h⟩
  |cons a r g=>
    intro p s e h;obtain⟨s2,d,i⟩:=st p a r s e h;obtain⟨b,j,h'⟩:=g (p++[a]) s2 (by rw[e];simp) i;refine⟨b,?_,h'⟩;unfold ox;rcases d with d|d<;>(rw[d];exact j)
 exact f l [] s rfl h
theorem zb{t:Z->OutC Z Bool}{c:Z->FlC Z X}(R:Nat->Z->Prop)(S:Z->Prop)(st:∀n s,R n s->(t s=.ok false s/\S s)\/(t s=.ok true s/\∃m s2,m<n/\(c s=.nx s2\/c s=.ct s2)/\R m s2)):
 ∀(fuel n:Nat) (s:Z),R n s->n<fuel->∃a,C5 t c fuel s=.nx a/\S a
 |0,n,s,h,f=>absurd f (Xs _)
 | fuel+1,n,s,h,f=>by
   unfold C5;rcases st n s h with ⟨e,d⟩|⟨e,m,s2,j,b,g⟩
   ·rw[e];exact⟨s,rfl,d⟩
   ·rw[e];obtain⟨a,i,d⟩:=zb R S st fuel m s2 g (by omega);refine⟨a,?_,d⟩;dsimp only;rcases b with b|b<;>(rw[b];exact i)
theorem rH{d:W->Res Bool}{te:W->Res X}(p:W->Bool)(g:W->X):∀l:List W,(∀a∈l,d a=.ok (p a))->(∀a∈l,p a=true->te a=.ok (g a))->ik d te l=.ok ((l.filter p).map g)
 |[],_,_=>rfl
 | a::l,h,f=>by
   have e:=rH p g l (λb c=>h b (List.mem_cons_of_mem _ c)) λb c=>f b (List.mem_cons_of_mem _ c);unfold ik;rw[h a List.mem_cons_self];show(if p a=true then _ else _)=_;cases hp:p a with
   |true=>
     rw[Vq rfl,f a Vu hp,e,Wv,Vq hp];rfl
   |false=>rw[on VD,e,Wv,on (by rw[hp];exact VD)]
theorem ub{src:Z->Res (List W)}{b:W×Z->Res Bool}{te:W×Z->Res X}{s:Z}{l:List W}(p:W->Bool)(g:W->X)(c:src s=.ok l)(d:l.length<aq)(f:∀a∈l,b (a,s)=.ok (p a))(e:∀a∈l,p a=true->te (a,s)=.ok (g a)):
 iD src b te s=.ok ((l.filter p).map g):=by
 unfold iD;rw[c];show(if l.length<aq then _ else _)=_;rw[if_pos d];exact rH p g l f e
theorem pU{src:Z->Res (List W)}{te:W×Z->Res X}{s:Z}{l:List W}(g:W->X)(b:src s=.ok l)(c:l.length<aq)(e:∀a∈l,te (a,s)=.ok (g a)):
 iD src (λ_=>.ok true) te s=.ok (l.map g):=by
 rw[ub (λ_=>true) g b c (λ_ _=>rfl) λa d _=>e a d,List.filter_eq_self.mpr λ_ _=>rfl]
theorem lW(xs:List W){i:Int}(h:0<=i):li xs i=xs[i.toNat]?:=by
 unfold li oj;rw[if_pos h];by_cases z:i<xs.length
 ·rw[Vq z];rfl
 ·rw[on z,VP (by omega)];rfl
theorem wE(xs:List W):li xs (-1)=xs.getLast?:=by
 unfold li oj;rw[if_neg (by omega),List.getLast?_eq_getElem?];cases xs with
 |nil=>rfl
 |cons x r=>
   rw[Vq (by simp only[Vx];omega)];show(x::r)[(-1+((x::r).length:Int)).toNat]?=_;rw[show(-1+((x::r).length:Int)).toNat=(x::r).length-1 by omega]
theorem O3{n:Nat}{i:Int}(h:0<=i)(a:i<n):oj n i=some i.toNat:=by unfold oj;rw[if_pos h,if_pos a]
theorem bU(lo hi:Int):(dk lo hi).length=(hi-lo).toNat:=by unfold dk;simp
theorem iY{lo hi x:Int}:x∈dk lo hi↔lo<=x/\x<hi:=by
 unfold dk;rw[List.mem_map];constructor
 · rintro⟨i,a,rfl⟩
   have:=YD.mp a
   omega
 ·rintro⟨c,b⟩;exact⟨(x-lo).toNat,YD.mpr (by omega),by omega⟩
theorem zr{lo hi x:Int}{p r:List Int}(h:dk lo hi=p++x::r):x=lo+p.length/\lo<=x/\x<hi:=by
 have b:x∈dk lo hi:=by rw[h];simp
 have a:=iY.mp b;have e:(dk lo hi)[p.length]?=some x:=by rw[h,Wl (VE _),XO];rfl
 unfold dk at e;rw[List.getElem?_map]at e
 have c:p.length<(hi-lo).toNat:=by
  have:=bU lo hi
  rw[h,Vy,Vx]at this;omega
 rw[Xn c]at e;injection e with e
 exact⟨e.symm,a⟩
theorem xz(lo hi:Int):(dk lo hi).Nodup:=by
 unfold dk;unfold List.Nodup;rw[List.pairwise_map];refine List.Pairwise.imp ?_ (List.nodup_range (n:=(hi-lo).toNat));intro a b h z;exact h (by omega)
theorem vn{F:DI X}{k:List Int}{v:X}(h:F.get k=some v):(k,v)∈F:=by
 unfold DI.get at h;obtain⟨p,hp,rfl⟩:=Option.map_eq_some_iff.mp h
 have:=List.find?_some hp
 have e:p.1=k:=by simpa using this
 subst e;exact List.mem_of_find?_eq_some hp
theorem eM{P:List Int->Prop}{F:DI X}{k:List Int}{v:X}(h:∀p∈F,P p.1)(b:P k):∀p∈F.put k v,P p.1:=by
 intro p hp;unfold DI.put at hp;split at hp
 ·obtain⟨q,a,rfl⟩:=VY.mp hp;split<;>exact h q a
 · rcases VH.mp hp with z|z
   ·exact h p z
   ·rw[VG.mp z];exact b
theorem gd{F:DI X}{k:List Int}{v:X}:(F.put k v).length<=F.length+1:=by
 unfold DI.put;split
 ·rw[Vs];omega
 ·rw[Vy];simp
def DI.nd(F:DI X):Prop:=(F.map (·.1)).Nodup
theorem gy{F:DI X}{k:List Int}{v:X}(h:DI.nd F):DI.nd (F.put k v):=by
 unfold DI.nd DI.put at *;by_cases q:(F.get k).isSome=true
 · rw[Vq q,Wi]
   have:(F.map ((·.1)∘λp=>if p.1=k then (p.1,v) else p))=F.map (·.1):=WO λp _=>by
    show(if p.1=k then (p.1,v) else p).1=p.1;split<;>rfl
   rw[this];exact h
 · rw[on q,V9];refine VZ.mpr ⟨h,by simp,λa d b c=>?_⟩;have e:b=k:=by simpa using c
   subst e;rintro rfl;obtain⟨p,hp,e⟩:=List.mem_map.mp d;apply q;unfold DI.get;rw[Option.isSome_map,List.find?_isSome];exact⟨p,hp,by simpa using e⟩
theorem h9{F:DI X}(h:DI.nd F){k:List Int}{v:X}(a:(k,v)∈F):F.get k=some v:=by
 unfold DI.nd at h
 induction F with
 |nil=>cases a
 |cons p F b=>
   rw[List.map_cons,List.nodup_cons]at h;unfold DI.get;rw[List.find?_cons];by_cases e:p.1=k
   · rw[WE e];rcases VA.mp a with z|z
     ·rw[<-z];rfl
     ·exact absurd (VY.mpr ⟨(k,v),z,e.symm⟩) h.1
   · rw[Wd e];rcases VA.mp a with z|z
     ·exact absurd (by rw[<-z]) e
     ·exact b h.2 z
end
end Cl
namespace L2
open PySem PySem.Spec PyProof.Rows
theorem Dw{X:Cx}(K:F0)(h:X.K=K):Vj X (MT K):=by subst h;exact IQ
end L2
namespace Mi
open PySem L2
def GP:D->D->Res D
 |.lst xs,.int k=>if 0<=k then .ok (.lst (xs.drop k.toNat)) else .bad
 |.scr xs,.int k=>if 0<=k then .ok (.lst (xs.drop k.toNat)) else .bad
 |_,_=>.bad
theorem vG{k:Int}(h:0<=k)(xs:List V):CL xs (some k) none=xs.drop k.toNat:=by
 unfold CL;have e:HT.uG xs.length 0 (some k)=min k.toNat xs.length:=by show(if k<0 then _ else _)=_;rw[if_neg (by omega)]
 rw[e,HT.D0];by_cases z:k.toNat<=xs.length
 ·rw[Nat.min_eq_left z,List.take_of_length_le (by rw[List.length_drop];omega)]
 ·rw[Nat.min_eq_right (by omega),XO,List.take_zero,Yq (by omega)]
section
variable{Y:Cm}{E:XK}{T:List Md}{Kr:KT D V}{pr:Nat->Bool}
theorem Ng{l tb:TE}{n m:Tp->Res D}(s:PJ Y (KC Y .F) E T l n)(r:PJ Y (KR Y .X) E T tb m):PJ Y (KO Y (.ct .fz)) E T (tSl (MT Y.K) l (KG tb) ze) (bn GP n m):=by
 intro B U As Z H M Q R P;refine s.bnd R P λx v I U1 H1 L _ t e1 A f W=>r.bnd t W λy u q o j C _ R2 d w e c=>?_;have f:Cn Y I H1 x v:=f;have e:Dn Y j y u:=e;cases y with
 |int k=>
   rw[Dn]at e;subst e;refine⟨k,rfl,?_⟩;cases x with
   |lst ds=>
     obtain⟨a,xs,rfl,i,g⟩:=f;replace c:Po Y (KO Y (.ct .fz)) E T q o As Z j M (if 0<=k then .ok (.lst (ds.drop k.toNat)) else .bad) Q:=c;by_cases z:0<=k
     ·rw[Vq z]at c;refine⟨a,xs,rfl,SqL.of (d.h _ _ i),λp hp=>?_⟩;rw[vG z];exact fi R2 c ((g.mono d.b).drop _) hp
     ·rw[on z]at c;exact c.elim
   |scr ds=>
     obtain⟨a,xs,rfl,i,g⟩:=f;replace c:Po Y (KO Y (.ct .fz)) E T q o As Z j M (if 0<=k then .ok (.lst (ds.drop k.toNat)) else .bad) Q:=c;by_cases z:0<=k
     ·rw[Vq z]at c;refine⟨a,xs,rfl,(i.mono d.h).sq,λp hp=>?_⟩;rw[vG z];exact fi R2 c ((g.mono d.b).drop _) hp
     ·rw[on z]at c;exact c.elim
   |_=>exact c.elim
 |_=>cases x<;>exact c.elim
open Classical in
end
end Mi
namespace Cl
open PySem L2 Mi
section
variable{Z W X L J:Type}{rep:Z->Tp}{eR:X->D}
@[simp] def LG(xs:List W)(k:Int):Res (List W):=if 0<=k then .ok (xs.drop k.toNat) else .bad
theorem Jo(xs:List Int)(k:Int):SimR (eL D.int) (GP (eS xs) (.int k)) (LG xs k):=by
 show SimR (eL D.int) (if 0<=k then .ok (.lst ((xs.map D.int).drop k.toNat)) else .bad) (if 0<=k then .ok (xs.drop k.toNat) else .bad);rw[<-List.map_drop];exact SimR.ite rfl trivial
open Classical in
end
end Cl
namespace Mi
open PySem L2
section
variable{Y:Cm}{E:XK}{T:List Md}{K:F0}
structure Prt (Y:Cm) (T:List Md) (t:TE) (get:Tp->Option D) (set:Tp->D->Tp) (i:Nat) (s:Sh):Prop where
 rd:∀{B U:Hp} {As:Nat->List Addr} {Z:St} {H:Hp} {M:Tp} {d:D},Rel Y T B U As Z H M->get M=some d->∃sh v0 d0 v L A R,T.getD i .F= .O sh/\rg Z i=some v0/\rg M i=some d0/\As i=L++(A++R)/\(∀Q:VK,Q v H->t Z H Q)/\Ow Y B H d s v A/\
  ∀I H1 d' A1,Same B I->(∀a,a∈L\/a∈R->H1 a=H a)->Ow Y I H1 d' s v A1->∃D',Ow Y I H1 D' sh v0 (L++(A1++R))/\set M d'=M.set i (some D')
theorem B5{i:Nat}{sh:Sh}(b:T.getD i .F= .O sh):Prt Y T (dD i) (cN i) (fb i) i sh where
 rd:=λ{B U As Z H M d} R e=>by
  replace e:rg M i=some d:=e;have l:=R.lo i;rw[e,b]at l;obtain⟨v,a,w⟩:=l;exact⟨sh,v,d,v,[],As i,[],b,a,e,by simp,λQ q=>⟨v,ci a,q⟩,w,λI H1 d' A1 _ _ c=>⟨d',by simpa using c,rfl⟩⟩
theorem Owf.lens{sh:List (Str×Sh)}{f:Str}{B H:Hp}:∀{fs:List (Str×V)} {ds:List D} {A:List Addr} {d:D},Owf Y B H ds (fs.map (·.1)) sh (fs.map (·.2)) A->bF (fs.map (·.1)) ds f=some d->
 ∃v L A1 R,fs.lookup f=some v/\A=L++(A1++R)/\Ow Y B H d ((sh.lookup f).getD .fz) v A1/\∀I H1 d' g,Same B I->(∀a,a∈L\/a∈R->H1 a=H a)->Ow Y I H1 d' ((sh.lookup f).getD .fz) v g->Owf Y I H1 (dI (fs.map (·.1)) ds f d') (fs.map (·.1)) sh (fs.map (·.2)) (L++(g++R))
 |[],ds,A,d,h,e=>by cases ds<;>cases e
 | p::fs,ds,A,d,h,e=>by
   cases ds with
   |nil=>cases e
   |cons d0 ds=>
     rw[List.map_cons,List.map_cons,Owf]at h;obtain⟨n,t,x,r,l,o,y,h0,E,j,m⟩:=h;cases y;cases h0;subst E;rw[List.map_cons]at e;unfold bF at e;by_cases q:p.1=f
     ·rw[Vq q]at e;cases e;rw[q]at j;refine⟨p.2,[],l,o,by rw[V4,<-q,WR],rfl,j,λI H1 d' g i k w=>?_⟩;rw[Vr,Vr,dI,Vq q,Owf];exact⟨p.1,_,p.2,_,g,o,rfl,rfl,rfl,by rw[q];exact w,Owf.mono i (λb c=>k b (.inr c)) m⟩
     ·rw[on q]at e;obtain⟨v,L,A1,R,u,C,s,F⟩:=Owf.lens m e;have c:(f==p.1)=false:=V7.mpr λz=>q z.symm;refine⟨v,l++L,A1,R,by rw[V4,c];exact u,by rw[C,Ws],s,λI H1 d' g i k w=>?_⟩;rw[Vr,Vr,dI,on q,Owf];exact⟨p.1,_,p.2,_,l,L++(g++R),rfl,rfl,by rw[Ws],Ow.mono i (λb c=>k b (.inl (VC _ c))) j,F I H1 d' g i (λb c=>k b (c.imp (λz=>Vt _ z) id)) w⟩
theorem Ows.lens{s:Sh}{B H:Hp}:∀{ds:List D} {xs:List V} {A:List Addr} {n:Nat} {d:D},Ows Y B H ds s xs A->ds[n]?=some d->
 ∃v L A1 R,xs[n]?=some v/\A=L++(A1++R)/\Ow Y B H d s v A1/\∀I H1 d' c,Same B I->(∀a,a∈L\/a∈R->H1 a=H a)->Ow Y I H1 d' s v c->Ows Y I H1 (ds.set n d') s xs (L++(c++R))
 |[],xs,A,n,d,h,e=>by cases e
 | d0::ds,xs,A,n,d,h,e=>by
   rw[Ows]at h;obtain⟨x,r,i,m,rfl,t,l,j⟩:=h;subst t;cases n with
   |zero=>
     cases e;refine⟨x,[],i,m,rfl,rfl,l,λI H1 d' c g k w=>?_⟩;rw[XV,Ows];exact⟨x,r,c,m,rfl,rfl,w,Ows.mono g (λb f=>k b (.inr f)) j⟩
   |succ n=>
     obtain⟨v,L,A1,R,p,q,o,u⟩:=Ows.lens (n:=n) j (by simpa using e);refine⟨v,i++L,A1,R,by simpa using p,by rw[q,Ws],o,λI H1 d' c g k w=>?_⟩;rw[XW,Ows];exact⟨x,r,i,L++(c++R),rfl,by rw[Ws],Ow.mono g (λb f=>k b (.inl (VC _ f))) l,u I H1 d' c g (λb f=>k b (f.imp (λz=>Vt _ z) id)) w⟩
def i5(get:Tp->Option D)(c:Nat)(f:Str):Tp->Option D:=λM=>match get M with
 |some (.obj a ns vs)=>if a=c then bF ns vs f else none
 |_=>none
def nq(get:Tp->Option D)(set:Tp->D->Tp)(f:Str):Tp->D->Tp:=λM d=>match get M with
 |some (.obj c ns vs)=>set M (.obj c ns (dI ns vs f d))
 |_=>M
theorem Ow.ob{B H:Hp}{c:Nat}{ns:List Str}{ds:List D}{fs:List (Str×Sh)}{v:V}{A:List Addr}(w:Ow Y B H (.obj c ns ds) (.ob fs) v A):∃(a dx:Addr) (xs:List (Str×V)) (b:List Addr),v=.ref a/\H a=some (.ins (Y c) dx xs)/\xs.map (·.1)=ns/\A=a::b/\Owf Y B H ds ns fs (xs.map (·.2)) b:=by rw[Ow]at w;exact w
theorem Ow.ob'{B H:Hp}{c:Nat}{ds:List D}{fs:List (Str×Sh)}{a dx:Addr}{xs:List (Str×V)}{b:List Addr}(h:H a=some (.ins (Y c) dx xs))(k:Owf Y B H ds (xs.map (·.1)) fs (xs.map (·.2)) b):Ow Y B H (.obj c (xs.map (·.1)) ds) (.ob fs) (.ref a) (a::b):=by rw[Ow];exact⟨a,dx,xs,b,rfl,h,rfl,rfl,k⟩
theorem Ow.ls{B H:Hp}{ds:List D}{s:Sh}{v:V}{A:List Addr}(w:Ow Y B H (.lst ds) (.ct s) v A):∃(a:Addr) (xs:List V) (b:List Addr),v=.ref a/\H a=some (.lst xs)/\A=a::b/\Ows Y B H ds s xs b:=by rw[Ow]at w;exact w
theorem Ow.ls'{B H:Hp}{ds:List D}{s:Sh}{a:Addr}{xs:List V}{b:List Addr}(h:H a=some (.lst xs))(k:Ows Y B H ds s xs b):Ow Y B H (.lst ds) (.ct s) (.ref a) (a::b):=by rw[Ow];exact⟨a,xs,b,rfl,h,rfl,k⟩
theorem B6{t:TE}{get:Tp->Option D}{set:Tp->D->Tp}{i c:Nat}{f:Str}{fs:List (Str×Sh)}{s:Sh}(p:Prt Y T t get set i (.ob fs))(V:Cls K (Y c))(O:NoAttr K (Y c) f)(S:(fs.lookup f).getD .fz=s):
 Prt Y T (qp K t f) (i5 get c f) (nq get set f) i s where
 rd:=λ{B U As Z H M d} R e=>by
  unfold i5 at e;cases e0:get M with
  |none=>rw[e0]at e;cases e
  |some d1=>
    cases d1 with
    |obj n ns vs=>
      rw[e0]at e;replace e:(if n=c then bF ns vs f else none)=some d:=e;by_cases q:n=c
      ·subst q;rw[if_pos rfl]at e;obtain⟨sh,y,d0,v,L,A,o,P,G,hd,W,N,C,cl⟩:=p.rd R e0;obtain⟨a,dx,xs,A',rfl,m,rfl,rfl,X⟩:=C.ob;obtain⟨u,L2,A1,R2,J,rfl,g,h⟩:=Owf.lens X e;rw[S]at g h;refine⟨sh,y,d0,u,L++(a::L2),A1,R2++o,P,G,hd,by rw[W];simp[List.append_assoc],λQ q=>N _ ⟨a,_,dx,xs,u,rfl,m,V,O,J,q⟩,g,λI H1 d' A2 l k w=>?_⟩;have F:∀b,b∈L\/b∈o->H1 b=H b:=λb j=>k b (j.imp (λz=>List.mem_append_left _ z) λz=>List.mem_append_right _ z);have E:H1 a=H a:=k a (.inl (List.mem_append_right _ List.mem_cons_self));have x:=h I H1 d' A2 l (λb j=>k b (j.imp (λz=>List.mem_append_right _ (List.mem_cons_of_mem _ z)) λz=>List.mem_append_left _ z)) w;obtain⟨D',r,e3⟩:=cl I H1 _ _ l F (Ow.ob' (by rw[E];exact m) x);refine⟨D',by simpa [List.append_assoc] using r,?_⟩;unfold nq;rw[e0];exact e3
      ·rw[on q]at e;cases e
    |_=>rw[e0]at e;cases e
def IxJ(Y:Cm)(T:List Md)(a:TE)(mk:Tp->Option Int):Prop:=∀{B U:Hp} {As:Nat->List Addr} {Z:St} {H:Hp} {M:Tp} {k:Int},Rel Y T B U As Z H M->mk M=some k->∀Q:VK,Q (.int k) H->a Z H Q
def Gn(j:Nat):Tp->Option Int:=λM=>match rg M j with
 |some (.int k)=>some k
 |_=>none
theorem sQ{j:Nat}:IxJ Y T (dD j) (Gn j):=λ{B U As Z H M k} R e Q q=>by
 unfold Gn at e;have l:=R.lo j;cases e0:rg M j with
 |none=>rw[e0]at e;cases e
 |some d=>
   cases d with
   |int n=>
     rw[e0]at e l;cases e;obtain⟨v,b,w⟩:=l
     have:v=.int k:=by
      cases a:T.getD j .F with
      |F=>rw[a]at w;have w:=w.1;rw[Dn]at w;exact w
      |R=>rw[a]at w;have w:=w.1;rw[Dn]at w;exact w
      |O s=>
        rw[a]at w;cases s with
        |fz=>have w:Ow Y B H (.int k) .fz v (As j):=w;rw[Ow]at w;have w:=w.1;rw[Dn]at w;exact w
        |ct s=>have w:Ow Y B H (.int k) (.ct s) v (As j):=w;simp[Ow]at w
        |ob s=>have w:Ow Y B H (.int k) (.ob s) v (As j):=w;simp[Ow]at w
     subst this;exact⟨_,ci b,q⟩
   |_=>rw[e0]at e;cases e
def my(get:Tp->Option D)(mk:Tp->Option Int):Tp->Option D:=λM=>match get M,mk M with
 |some (.lst xs),some k=>if 0<=k then xs[k.toNat]? else none
 |_,_=>none
def nn(get:Tp->Option D)(set:Tp->D->Tp)(mk:Tp->Option Int):Tp->D->Tp:=λM d=>match get M,mk M with
 |some (.lst xs),some k=>set M (.lst (xs.set k.toNat d))
 |_,_=>M
theorem Jb{t j:TE}{get:Tp->Option D}{set:Tp->D->Tp}{mk:Tp->Option Int}{i:Nat}{s:Sh}(p:Prt Y T t get set i (.ct s))(P:IxJ Y T j mk):Prt Y T (Ic (I8 K) t j) (my get mk) (nn get set mk) i s where
 rd:=λ{B U As Z H M d} R e=>by
  unfold my at e;cases e0:get M with
  |none=>rw[e0]at e;cases e
  |some X=>
    cases X with
    |lst ds=>
      cases e1:mk M with
      |none=>rw[e0,e1]at e;cases e
      |some k=>
        rw[e0,e1]at e;replace e:(if 0<=k then ds[k.toNat]? else none)=some d:=e;by_cases q:0<=k
        ·rw[if_pos q]at e;obtain⟨sh,x,d0,v,L,A,n,O,G,hd,S,N,C,cl⟩:=p.rd R e0;obtain⟨a,xs,A',rfl,m,rfl,V⟩:=C.ls;obtain⟨u,L2,A1,R2,J,rfl,c,h⟩:=Ows.lens V e;refine⟨sh,x,d0,u,L++(a::L2),A1,R2++n,O,G,hd,by rw[S];simp[List.append_assoc],λQ y=>N _ (P R e1 _ ⟨a,xs,k,u,rfl,rfl,SqL.of m,by rw[Cl.lW xs q];exact J,y⟩),c,λI H1 d' A2 l f w=>?_⟩;have F:∀b,b∈L\/b∈n->H1 b=H b:=λb g=>f b (g.imp (λz=>List.mem_append_left _ z) λz=>List.mem_append_right _ z);have E:H1 a=H a:=f a (.inl (List.mem_append_right _ List.mem_cons_self));have r:=h I H1 d' A2 l (λb g=>f b (g.imp (λz=>List.mem_append_right _ (List.mem_cons_of_mem _ z)) λz=>List.mem_append_left _ z)) w;obtain⟨D',o,W⟩:=cl I H1 _ _ l F (Ow.ls' (by rw[E];exact m) r);refine⟨D',by simpa [List.append_assoc] using o,?_⟩;unfold nn;rw[e0,e1];exact W
        ·rw[on q]at e;cases e
    |_=>rw[e0]at e;cases e
theorem MW{t:TE}{get:Tp->Option D}{set:Tp->D->Tp}{i:Nat}(p:Prt Y T t get set i (.ct .fz)):Pth Y T t get set where
 rd:=λ{B U As Z H M d} R e=>by
  obtain⟨sh,O,d0,v,L,A,N,F,C,hd,g,E,y,J⟩:=p.rd R e;have nd:=R.nd i;rw[g]at nd;obtain⟨_,k,j⟩:=VZ.mp nd;obtain⟨_,_,h⟩:=VZ.mp k;refine⟨v,A,E,y,λa f=>⟨i,by rw[g];exact Vt _ (VC _ f)⟩,λI U1 H1 K w x a f o' d' u=>?_⟩;have q:a∈As i:=by rw[g];exact Vt _ (VC _ f)
  have l:∀b,b∈L\/b∈N->upd H1 a o' b=H b:=λb c=>by
   have n:b∈As i:=by
    rw[g];rcases c with c|c
    ·exact VC _ c
    ·exact Vt _ (Vt _ c)
   have m:b≠a:=λz=>by
    subst z;rcases c with c|c
    ·exact j b c b (VC _ f) rfl
    ·exact h b f b c rfl
   rw[aE m];obtain⟨o,r⟩:=R.at n;rw[r,x _ _ r]
  obtain⟨P,s,G⟩:=J I (upd H1 a o') d' A w l u;rw[G];exact K.mut F C hd q (by rw[g];exact s)
end
section
variable{Y:Cm}{E:XK}{T:List Md}{K:F0}{B U H:Hp}{As:Nat->List Addr}{Z:St}{M:Tp}
def BZ(T:List Md)(n:Nat)(s:Sh):List Md:=(List.range (max T.length (n+1))).map λj=>if j=n then .O s else T.getD j .F
theorem kh{n:Nat}{s:Sh}(j:Nat):(BZ T n s).getD j .F=if j=n then .O s else T.getD j .F:=by
 unfold BZ;rw[List.getD_eq_getElem?_getD,List.getElem?_map];by_cases h:j<max T.length (n+1)
 ·rw[Xn h];rfl
 · rw[VP (by rw[XA];omega)];have a:¬ j=n:=by omega
   rw[on a,VL,VP (by omega)];rfl
def g6(set:Tp->D->Tp)(b:List D->Out D)(d:D)(ds:List D)(M:Tp):Out D:=match b (d::ds) with
 |.ok x a=>(match rg a 0 with|some d'=>.ok x (set M d')|none=>.bad)
 |.exc c a=>(match rg a 0 with|some d'=>.exc c (set M d')|none=>.bad)
 |.bad=>.bad
theorem jj:∀{ps:List Ap} {j:Nat} {a M:Tp},dG ps=[]->cK ps j a M=M
 |[],_,_,_,_=>rfl
 | p::r,j,a,M,h=>by
   cases p with
   |O i=>cases h
   |F=>rw[cK];exact jj h;all_goals simp
   |U=>rw[cK];exact jj h;all_goals simp
   |X=>rw[cK];exact jj h;all_goals simp
   |Bo i=>rw[cK];exact jj h;all_goals simp
theorem fitM.any{b:List Md}:∀{ps:List Ap} {mc:List Md},dG ps=[]->fitM T ps mc->fitM b ps mc
 |[],[],_,_=>trivial
 |[],_::_,_,h=>h.elim
 |_::_,[],_,h=>h.elim
 | p::ps,m::r,a,h=>by
   cases p with
   |O i=>cases a
   |F=>exact⟨by cases m <;> first | trivial | exact h.1.elim,fitM.any a h.2⟩
   |U=>exact⟨by cases m <;> first | trivial | exact h.1.elim,fitM.any a h.2⟩
   |X=>exact⟨by cases m<;>exact h.1.elim,fitM.any a h.2⟩
   |Bo i=>exact⟨by cases m <;> first | trivial | exact h.1.elim,fitM.any a h.2⟩
theorem Ag.plus{U1:Hp}{c:St}{e:Tp}{i:Nat}(f:Same U U1)(a:∀j v,rg Z j=some v->rg c j=some v)(b:∀j d,j≠i->rg M j=some d->rg e j=some d):
 ∀{ps:List Ap} {ds:List D} {vs:List V},dG ps=[]->i∉j5 ps->Ag Y B U H Z M ps ds vs->Ag Y B U1 H c e ps ds vs
 |[],_,_,_,_,h=>h
 | p::ps,ds,vs,g,l,h=>by
   obtain⟨d,o,v,vr,rfl,rfl,m,n⟩:=h;cases p with
   |O k=>cases g
   |F=>exact⟨d,o,v,vr,rfl,rfl,m,Ag.plus f a b g l n⟩
   |U=>exact⟨d,o,v,vr,rfl,rfl,Dn.mono f m,Ag.plus f a b g l n⟩
   |X=>exact⟨d,o,v,vr,rfl,rfl,m,Ag.plus f a b g l n⟩
   |Bo k=>exact⟨d,o,v,vr,rfl,rfl,⟨a k v m.1,b k d (λz=>l (by rw[z];exact Vu)) m.2⟩,Ag.plus f a b g (λz=>l (Vw _ z)) n⟩
theorem fH{W:Type}{l:List (Option W)}{x:Option W}{j:Nat}:rg (l++[x]) j=if j=l.length then x else rg l j:=by
 unfold rg;by_cases h:j<l.length
 ·rw[Wq h,on (by omega)]
 · rw[Wl (by omega)];by_cases e:j=l.length
   ·rw[Vq e,e,XO];rfl
   ·rw[on e,VP (by simp;omega),VP (by omega)]
open Classical in
theorem Jh{i:Nat}{s sh:Sh}{v0 v:V}{d0 d:D}{L A l:List Addr}{set:Tp->D->Tp}{msR:List Md}{Kr:KT D V}{fm:List D->Out D}{ps:List Ap}{ds:List D}{vs:List V}{Q:VK}(R:Rel Y T B U As Z H M)
 (hm:T.getD i .F= .O sh) (hv:rg Z i=some v0) (hd:rg M i=some d0) (hA:As i=L++(A++l)) (ow:Ow Y B H d s v A)
 (cl:∀I H1 d' A1,Same B I->(∀a,a∈L\/a∈l->H1 a=H a)->Ow Y I H1 d' s v A1->∃D',Ow Y I H1 D' sh v0 (L++(A1++l))/\set M d'=M.set i (some D'))
 (G:Ag Y B U H Z M ps ds vs) (hf:fitM T ps msR) (hl:dG ps=[]) (hb:i∉j5 ps) (hU:∀d v B U J H N,Kr d v B U H N->Kr d v B J H N) (P:Mo Y Kr E T B U Z (g6 set fm d ds M) Q):wN Y (.O s::msR) Kr fm (v::vs) H Q E:=by
 have hi:i<M.length:=(VM.mp (ci hd)).1;have K:=R.len;have nd:=R.nd i;rw[hA]at nd;obtain⟨ndL,nd2,nd3⟩:=VZ.mp nd;obtain⟨ndA,ndR,nd4⟩:=VZ.mp nd2
 have inI:∀{a},a∈L\/a∈l->a∈As i:=λ{a} h=>by
  rw[hA];rcases h with h|h
  ·exact VC _ h
  ·exact Vt _ (Vt _ h)
 have inA:∀{a},a∈A->a∈As i:=λ{a} h=>by rw[hA];exact Vt _ (VC _ h)
 have offA:∀{a},a∈A->¬ (a∈L\/a∈l):=λ{a} h z=>by
  rcases z with z|z
  ·exact nd3 a z a (VC _ h) rfl
  ·exact nd4 a h a z rfl
 obtain⟨Up,up1,up2⟩:∃Up:Hp,(∀a,a∈L\/a∈l->Up a=H a)/\∀a,¬ (a∈L\/a∈l)->Up a=U a:=⟨λa=>if a∈L\/a∈l then H a else U a,λa h=>Vq h,λa h=>on h⟩
 have sUp:Same U Up:=λa o q=>by
  by_cases z:a∈L\/a∈l
  ·rw[up1 a z];exact R.uh a o q
  ·rw[up2 a z];exact q
 have upH:Same Up H:=λa o q=>by
  by_cases z:a∈L\/a∈l
  ·rw[up1 a z]at q;exact q
  ·rw[up2 a z]at q;exact R.uh a o q
 have Rp:Rel Y (BZ T M.length s) B Up (λj=>if j=M.length then A else if j=i then [] else As j) (Z++[some v]) H (M.set i none++[some d]):=by
  have lr:(M.set i (none:Option D)).length=M.length:=VT ..;refine⟨R.bu.trans sUp,upH,λj=>?_,λj k a X f g=>?_,λj a f=>?_,λj=>?_,by rw[Vy,Vy,lr,K];rfl,R.tb⟩
  · try dsimp only
    split
    ·exact ndA
    · split
      ·exact Wk
      ·exact R.nd j
  · try dsimp only at f g
    split at f
    · split at g
      ·exact X (by omega)
      · split at g
        ·cases g
        ·rename_i m r h3;exact R.dj i k a (λz=>h3 z.symm) (inA f) g
    · split at f
      ·cases f
      · split at g
        ·rename_i m r h3;exact R.dj j i a r f (inA g)
        · split at g
          ·cases g
          ·exact R.dj j k a X f g
  · try dsimp only at f
    split at f
    ·rw[up2 a (offA f)];exact R.un i a (inA f)
    · split at f
      ·cases f
      ·rename_i m r;rw[up2 a (λz=>R.dj i j a (λy=>r y.symm) (inI z) f)];exact R.un j a f
  · try dsimp only
    rw[kh,fH,fH,lr,K];by_cases m:j=Z.length
    ·rw[Vq m,Vq m,Vq m,Vq m];exact⟨v,rfl,ow⟩
    · rw[on m,on m,on m,on m,dH];by_cases r:j=i
      ·rw[Vq r,Vq ⟨r.symm,hi⟩];rfl
      ·rw[on r,on λz=>r z.1.symm];exact(R.lo j).mono (Same.refl _) sUp λ_ _=>rfl
 have Gp:Ag Y B Up H (Z++[some v]) (M.set i none++[some d]) (.O M.length::ps) (d::ds) (v::vs):=by
  refine⟨d,ds,v,vs,rfl,rfl,⟨by rw[fH,Vq K],by rw[fH,VT,Vq rfl]⟩,Ag.plus sUp (λj x q=>?_) (λj x X q=>?_) hl hb G⟩
  · have:j<Z.length:=(VM.mp (ci q)).1
    rw[fH,on (by omega)];exact q
  · have:j<M.length:=(VM.mp (ci q)).1
    rw[fH,VT,on (by omega),dH,on λz=>X z.1.symm];exact q
 have back:∀{S J H':Hp} {C:Nat->List Addr} {d':D},Rel Y (BZ T M.length s) S J C (Z++[some v]) H' ((M.set i none++[some d]).set M.length (some d'))->Ex B Up S J->
  ∃U2 As2,Rel Y T S U2 As2 Z H' (set M d')/\Ex B U S U2/\∀N,NewM N J C->NewM N U2 As2:=λ{S J H' C d'} t e1=>by
  have lr:(M.set i (none:Option D)++[some d]).length=M.length+1:=by rw[Vy,VT];rfl
  have there:∀{a},a∈L\/a∈l->∃o,H a=some o/\J a=some o/\H' a=some o:=λ{a} h=>by
   obtain⟨o,q⟩:=R.at (inI h)
   have:=e1.u a o (by rw[up1 a h];exact q)
   exact⟨o,q,this,t.uh a o this⟩
  have keepH:∀a,a∈L\/a∈l->H' a=H a:=λa h=>by obtain⟨o,q1,_,q3⟩:=there h;rw[q1,q3]
  have noB:∀{a},a∈L\/a∈l->S a=none:=λ{a} h=>by
   cases z:S a with
   |none=>rfl
   |some o'=>
     obtain⟨o,q1,q2,q3⟩:=there h;rcases e1.nb a o' z with w|w|w
     ·have:=R.bu a o' w;rw[R.un i a (inI h)]at this;cases this
     ·rw[up1 a h,q1]at w;cases w
     ·rw[t.bh a o' z]at q3;cases q3;exact(R.nt (inI h) q1 w).elim
  obtain⟨U2,u1,u2⟩:∃U2:Hp,(∀a,a∈L\/a∈l->U2 a=none)/\∀a,¬ (a∈L\/a∈l)->U2 a=J a:=⟨λa=>if a∈L\/a∈l then none else J a,λa h=>Vq h,λa h=>on h⟩
  have W:∀{a},J a=none->U2 a=none:=λ{a} h=>by
   by_cases z:a∈L\/a∈l
   ·exact u1 a z
   ·rw[u2 a z];exact h
  have sU2:Same U U2:=λa o q=>by
   have z:¬ (a∈L\/a∈l):=λz=>by rw[R.un i a (inI z)]at q;cases q
   rw[u2 a z];exact e1.u a o (sUp a o q)
  have l1:=t.lo M.length;rw[dH,Vq ⟨rfl,by rw[lr];omega⟩,fH,Vq K,kh,Vq rfl]at l1;obtain⟨v',hv',ow1⟩:=l1;cases hv';have ow1:Ow Y S H' d' s v (C M.length):=ow1;obtain⟨D',ow2,e2⟩:=cl S H' d' (C M.length) e1.b keepH ow1;have offN:∀{a j},a∈C j->¬ (a∈L\/a∈l):=λ{a j} h z=>by obtain⟨o,_,q,_⟩:=there z;rw[t.un j a h]at q;cases q
  refine⟨U2,λj=>if j=i then L++(C M.length++l) else if j=M.length then [] else C j,⟨λa o q=>?_,λa o q=>?_,λj=>?_,λj k a X f g=>?_,λj a f=>?_,λj=>?_,by rw[e2,VT];exact K,t.tb⟩,⟨e1.b,sU2,λa o q=>?_⟩,λN n=>⟨n.nd,λa f=>W (n.un a f),λa f j hj=>?_⟩⟩
  · have z:¬ (a∈L\/a∈l):=λz=>by rw[noB z]at q;cases q
    rw[u2 a z];exact t.bu a o q
  · by_cases z:a∈L\/a∈l
    ·rw[u1 a z]at q;cases q
    ·rw[u2 a z]at q;exact t.uh a o q
  · try dsimp only
    split
    · refine VZ.mpr ⟨ndL,VZ.mpr ⟨t.nd _,ndR,λx hx y hy e=>offN hx (.inr (e▸hy))⟩,λx hx y hy e=>?_⟩;rcases VH.mp hy with hy|hy
      ·exact offN hy (.inl (e▸hx))
      ·exact nd3 x hx y (Vt _ hy) e
    · split
      ·exact Wk
      ·exact t.nd j
  · have main:∀{k:Nat},k≠i->a∈L++(C M.length++l)->a∈(if k=i then L++(C M.length++l) else if k=M.length then [] else C k)->False:=λ{k} g f hk2=>by
     rw[on g]at hk2;split at hk2
     ·cases hk2
     · rename_i h3;rcases VH.mp f with h|h
       ·exact offN hk2 (.inl h)
       · rcases VH.mp h with h|h
         ·exact t.dj M.length k a (λz=>h3 z.symm) h hk2
         ·exact offN hk2 (.inr h)
    try dsimp only at f g
    by_cases m:j=i
    ·rw[Vq m]at f;exact main (λz=>X (by omega)) f g
    · by_cases r:k=i
      ·rw[Vq r]at g;exact main m g f
      · rw[on m]at f;rw[on r]at g;split at f
        ·cases f
        · split at g
          ·cases g
          ·exact t.dj j k a X f g
  · try dsimp only at f
    split at f
    · rcases VH.mp f with h|h
      ·exact u1 a (.inl h)
      · rcases VH.mp h with h|h
        ·exact W (t.un _ a h)
        ·exact u1 a (.inr h)
    · split at f
      ·cases f
      ·exact W (t.un j a f)
  · try dsimp only
    rw[e2,dH];by_cases m:j=i
    ·subst m;rw[Vq ⟨rfl,hi⟩,Vq rfl,hm];exact⟨v0,hv,ow2⟩
    · rw[on λz=>m z.1.symm,on m];by_cases r:j=M.length
      · subst r;rw[Vq rfl]
        have:rg M M.length=none:=by unfold rg;rw[List.getElem?_eq_none (Nat.le_refl _)];rfl
        rw[this];rfl
      · rw[on r];have l2:=t.lo j;rw[dH,on λz=>r z.1.symm,fH,VT,on r,dH,on λz=>m z.1.symm,fH,on (by omega),kh,on r]at l2;have l0:=R.lo j;cases ed:rg M j with
        |none=>rw[ed]at l2;exact l2
        |some x=>
          rw[ed]at l2 l0;obtain⟨y,hy,w⟩:=l2;refine⟨y,hy,?_⟩;cases em:T.getD j .F with
          |F=>rw[em]at w;exact w
          |O s'=>rw[em]at w;exact w
          |R=>
            rw[em]at w l0;obtain⟨y',hy',w'⟩:=l0;rw[hy]at hy';cases hy';exact⟨Dn.mono sU2 w'.1,w.2⟩
  · rcases e1.nb a o q with w|w|w
    ·exact .inl w
    ·exact .inr (.inl (sUp.free w))
    ·exact .inr (.inr w)
  · try dsimp only at hj
    split at hj
    · rcases VH.mp hj with h|h
      ·obtain⟨o,_,q,_⟩:=there (.inl h);rw[n.un a f]at q;cases q
      · rcases VH.mp h with h|h
        ·exact n.ap a f _ h
        ·obtain⟨o,_,q,_⟩:=there (.inr h);rw[n.un a f]at q;cases q
    · split at hj
      ·cases hj
      ·exact n.ap a f j hj
 have hbo:∀k∈j5 ps,k<M.length:=by
  have key:∀{ps:List Ap} {ds:List D} {vs:List V},Ag Y B U H Z M ps ds vs->∀k∈j5 ps,k<M.length:=by
   intro ps
   induction ps with
   |nil=>intro ds vs _ k g;cases g
   |cons p ps ih=>
     intro ds vs G k g;obtain⟨d,dr,v,vr,rfl,rfl,m,r⟩:=G;cases p with
     |Bo q=>
       rcases VA.mp g with z|z
       ·subst z;exact(VM.mp (ci m.2)).1
       ·exact ih r k z
     |_=>exact ih r k g
  exact key G
 refine lh (T:=BZ T M.length s) (ps:= .O M.length::ps) (ds:=d::ds) Rp Gp ⟨show(BZ T M.length s).getD M.length .F= .O s by rw[kh,Vq rfl],fitM.any hl hf⟩ (by show(M.length::dG ps).Nodup;rw[hl];simp)
  (λk g z=>by
    have z:k∈M.length::dG ps:=z;rw[hl]at z
    have:=hbo k g
    have:=VG.mp z
    omega) hU ?_
 unfold cC;unfold g6 at P;cases ef:fm (d::ds) with
 |bad=>rw[ef]at P;exact P
 |ok x ρc=>
   rw[ef]at P
   try dsimp only at P ⊢
   rw[cK,jj hl];intro u I U1 As1 H1 N t e1 n1 k1;cases er:rg ρc 0 with
   |none=>rw[er]at P;exact P.elim
   |some d'=>
     rw[er]at P t;obtain⟨U2,As2,R2,e2,n2⟩:=back t e1;exact P u I U2 As2 H1 N R2 e2 (n2 N n1) (hU _ _ _ _ _ _ _ k1)
 |exc c ρc=>
   rw[ef]at P
   try dsimp only at P ⊢
   rw[cK,jj hl];intro I U1 As1 H1 t e1;cases er:rg ρc 0 with
   |none=>rw[er]at P;exact P.elim
   |some d'=>
     rw[er]at P t;obtain⟨U2,As2,R2,e2,n2⟩:=back t e1;exact P I U2 As2 H1 R2 e2
end
end Mi
namespace L2
open PySem PySem.Spec PyProof.Rows PySem.W
section
variable{n:Nat}(hn:0<n)
include hn
end
def pick{W:Type}(l:List W)(p:List Nat):List W:=p.filterMap λi=>l[i]?
end L2
namespace Mi
open PySem L2
def i4:List D->Option (List (List Int))
 |[]=>some []
 |.tup ds::r=>(match cF ds,i4 r with|some k,some a=>some (k::a)|_,_=>none)
 |_::_=>none
section
variable{Y:Cm}{E:XK}{T:List Md}{K:F0}
theorem Gk{b:List (List aP)}{a:List (List Int)}(e:i4 (b.map λk=>.tup (k.map kD))=some a):b=a.map λk=>k.map Sum.inl:=by
 have c:∀{k:List aP} {ns:List Int},cF (k.map kD)=some ns->k=ns.map Sum.inl:=by
  intro k
  induction k with
  |nil=>intro ns e;cases e;rfl
  |cons x k d=>
    intro ns e;cases x with
    |inl i=>
      rw[Vr]at e;have e:(cF (k.map kD)).map (i::·)=some ns:=e;obtain⟨T,e1,rfl⟩:=VJ.mp e;rw[d e1];rfl
    |inr i=>cases e
 induction b generalizing a with
 |nil=>cases e;rfl
 |cons k b d=>
   rw[Vr,i4]at e;cases e1:cF (k.map kD) with
   |none=>rw[e1]at e;cases e
   |some n=>
     cases f:i4 (b.map λk=>.tup (k.map kD)) with
     |none=>rw[e1,f]at e;cases e
     |some ns=>
       rw[e1,f]at e;cases e;rw[c e1,d f];rfl
def Oz(c:Nat)(b:Str)(get:Tp->Option D)(set:Tp->D->Tp)(d:List D->Out D)(a:Tp->Res (List D)):Tp->Out D:=λM=>match get M with
 |none=>.bad
 |some o=>if bH c b o=true then ((a M).up M).bind λds M=>g6 set d o ds M else .bad
theorem JA{c:Nat}{n:Str}{g:List Md}{l:KT D V}{C:List D->Out D}{ps:List Ap}{S:TE}{get:Tp->Option D}{set:Tp->D->Tp}{i:Nat}{s:Sh}{t:TA}{m:Tp->Res (List D)}(p:Prt Y T S get set i s)(h:AJ Y E T ps t m)(hf:fitM T ps g)
 (hl:dG ps=[]) (hb:i∉j5 ps) (hU:∀d v B U J H N,l d v B U H N->l d v B J H N):MJ Y l E T (iL (Y c) n (wN Y (.O s::g) l C) [] E S t) (Oz c n get set C m):=by
 intro B U As Z H M Q R P;unfold Oz at P;cases e:get M with
 |none=>rw[e]at P;exact P.elim
 |some o=>
   rw[e]at P;dsimp only at P;by_cases z:bH c n o=true
   · rw[Vq z]at P;obtain⟨sh,v0,d0,v,L,A,R',hm,hv,hd,y,ht,W,cl⟩:=p.rd R e;refine ht _ ?_;have x:Dn Y H o v:=Ow.dn R.bh (λ_ _ _ h=>h) W;obtain⟨a,dx,fs,rfl,h1,h2⟩:=jm z x;refine⟨a,dx,fs,rfl,h1,h2,h B U As Z H M _ R ?_⟩;cases F:m M with
     |ok ds=>
       rw[F]at P;intro vs B2 X K N2 R2 f n2 G;rw[Wc]
       have u:∀{a},a∈L\/a∈R'->a∈As i:=λ{a} h=>by
        rw[y];rcases h with h|h
        ·exact VC _ h
        ·exact Vt _ (Vt _ h)
       have same:∀{a},a∈As i->K a=H a:=λ{a} h=>by
        obtain⟨o',q⟩:=R.at h;rw[q,f.h _ _ q]
       exact Jh R2 hm hv hd y (Ow.mono f.b (λa j=>same (by rw[y];exact Vt _ (VC _ j))) W)
        (λI H1 d' A1 sb k w=>cl I H1 d' A1 (f.b.trans sb) (λa j=>by rw[k a j,same (u j)]) w) G hf hl hb hU (Mo.at (r:=g6 set C o ds M) P f.toEx)
     |exc c=>rw[F]at P;exact λB2 X K R2 f=>P B2 X As K R2 f.toEx
     |bad=>rw[F]at P;exact P
   ·rw[on z]at P;exact P.elim
theorem Aa{c:Nat}{d:Str}{a:List Md}{e:List D->Out D}{ps:List Ap}{b:TE}{get:Tp->Option D}{set:Tp->D->Tp}{i:Nat}{s:Sh}{t:TA}{m:Tp->Res (List D)}(p:Prt Y T b get set i s)(h:AJ Y E0 T ps t m)(g:fitM T ps a)
 (f:dG ps=[]) (j:i∉j5 ps):MJ Y (KR Y .F) E0 T (iL (Y c) d (dU Y (.O s::a) (KR Y .F) e) [] E0 b t) (Oz c d get set e m):=JA p h g f j λ_ _ _ _ _ _ _ h=>h
end
end Mi
namespace Cl
open PySem L2 Mi
section
variable{Z σ' W X L J:Type}{rep:Z->Tp}{Y:σ'->Tp}
theorem re:∀l:List (List Int),i4 (l.map (kP D.int))=some l
 |[]=>rfl
 | k::l=>by
   rw[Vr];show(match cF (k.map D.int),i4 (l.map (kP D.int)) with|some k,some a=>some (k::a)|_,_=>none)=_;rw[eC,re l]
@[simp] def gI(g:Z->Option (List W))(k:Z->Option Int):Z->Option W:=λs=>match g s,k s with
 |some l,some k=>if 0<=k then l[k.toNat]? else none
 |_,_=>none
@[simp] def pI(g:Z->Option (List W))(p:Z->List W->Z)(k:Z->Option Int):Z->W->Z:=λs y=>match g s,k s with
 |some l,some k=>p s (l.set k.toNat y)
 |_,_=>s
theorem oh{j:Nat}{k:Z->Option Int}(h:∀s,rg (rep s) j=(k s).map D.int):∀s,Gn j (rep s)=k s:=λs=>by
 unfold Gn;rw[h];cases k s<;>rfl
theorem UM{e:W->D}{get:Tp->Option D}{mk:Tp->Option Int}{g:Z->Option (List W)}{k:Z->Option Int}(b:∀s,get (rep s)=(g s).map (eL e))(a:∀s,mk (rep s)=k s)(s:Z):my get mk (rep s)=(gI g k s).map e:=by
 unfold my gI;rw[b,a];cases g s with
 |none=>rfl
 |some l=>
   cases k s with
   |none=>rfl
   |some k=>
     show(if 0<=k then (l.map e)[k.toNat]? else none)=(if 0<=k then l[k.toNat]? else none).map e;by_cases z:0<=k
     ·rw[Vq z,Vq z,VR]
     ·rw[on z,on z];rfl
theorem Vb{e:W->D}{get:Tp->Option D}{set:Tp->D->Tp}{mk:Tp->Option Int}{g:Z->Option (List W)}{p:Z->List W->Z}{k:Z->Option Int}(c:∀s,get (rep s)=(g s).map (eL e))(a:∀s l,set (rep s) (eL e l)=rep (p s l))(b:∀s,mk (rep s)=k s)(s:Z)(y:W):
 nn get set mk (rep s) (e y)=rep (pI g p k s y):=by
 unfold nn pI;rw[c,b];cases g s with
 |none=>rfl
 |some l=>
   cases k s with
   |none=>rfl
   |some k=>
     show set (rep s) (.lst ((l.map e).set k.toNat (e y)))=rep (p s (l.set k.toNat y));rw[<-a,<-Zd];rfl
@[simp] def UJ(g:Z->Option W)(p:Z->W->Z)(a:σ'->W)(d:Z->Res J)(f:W->J->OutC σ' L):Z->OutC Z L:=λs=>match g s with
 |none=>.bad
 | some o=>match d s with
   |.ok r=>(match f o r with | .ok x b=>.ok x (p s (a b)) | .exc c b=>.exc c (p s (a b)) | .bad=>.bad)
   |.exc c=>.exc c s
   |.bad=>.bad
theorem Lr{e0:W->D}{e:J->List D}{eR:L->D}{c:Nat}{n:Str}{get:Tp->Option D}{set:Tp->D->Tp}{l:List D->Out D}{b:Tp->Res (List D)}{g:Z->Option W}{p:Z->W->Z}{j:σ'->W}{m:Z->Res J}{f:W->J->OutC σ' L}
 (A:∀s,get (rep s)=(g s).map e0) (t:∀s y,set (rep s) (e0 y)=rep (p s y)) (v:∀a,bH c n (e0 a)=true) (u:EJ rep e (λM=>(b M).bind .ok) m) (B:∀a r,SimO Y eR (l (e0 a::e r)) (f a r)) (d:∀i,rg (Y i) 0=some (e0 (j i))):
 NJ rep eR (Oz c n get set l b) (UJ g p j m f):=λs=>by
 unfold Oz UJ;rw[A];cases g s with
 |none=>trivial
 |some o=>
   dsimp only[Option.map];rw[if_pos (v o)];have h:=u s;cases q:m s with
   |bad=>trivial
   |exc x=>
     rw[q]at h;have h:(b (rep s)).bind .ok=.exc x:=h;cases z:b (rep s) with
     |ok y=>rw[z]at h;cases h
     |exc y=>rw[z]at h;cases h;rfl
     |bad=>rw[z]at h;cases h
   |ok r=>
     rw[q]at h;have h:(b (rep s)).bind .ok=.ok (e r):=h
     have z:b (rep s)=.ok (e r):=by
      cases z:b (rep s) with
      |ok y=>rw[z]at h;exact h
      |exc y=>rw[z]at h;cases h
      |bad=>rw[z]at h;cases h
     rw[z];show SimO rep eR (g6 set l (e0 o) (e r) (rep s)) _;unfold g6;have k:=B o r;dsimp only;cases w:f o r with
     |bad=>trivial
     |ok x i=>
       rw[w]at k;have k:l (e0 o::e r)=.ok (eR x) (Y i):=k;rw[k];dsimp only;rw[d];dsimp only;rw[t];rfl
     |exc x i=>
       rw[w]at k;have k:l (e0 o::e r)=.exc x (Y i):=k;rw[k];dsimp only;rw[d];dsimp only;rw[t];rfl
end
end Cl
namespace L2
open PySem PySem.Spec PyProof.Rows
section
variable{X:Cx}{G:P1}{Z:St}{H:Hp}{s:Shared}{a:Addr}{kvs:List (List aP×V)}
theorem GM{h:Heap}{u:HO}(f:∀b xs,H b=some (.tup xs)->b≠a)(x:ObjOk X.prog X.w H h a (.dT kvs)):ObjOk X.prog X.w (upd H a u) h a (.dT kvs):=by
 obtain⟨z,y,xs,r,bJ⟩:=x;refine⟨z,y,xs,?_,bJ⟩
 have d:∀{c:List (List aP×V)} {l2:List (List aP×Addr×Value)},Paired (λ(p:List aP×V) (q:List aP×Addr×Value)=>p.1=q.1/\H q.2.1=some (.tup (p.1.map kV))/\RelV p.2 q.2.2) c l2->
  Paired (λ(p:List aP×V) (q:List aP×Addr×Value)=>p.1=q.1/\upd H a u q.2.1=some (.tup (p.1.map kV))/\RelV p.2 q.2.2) c l2:=by
  intro c l2 h
  induction h with
  |nil=>exact .nil
  |cons h _ e=>exact .cons ⟨h.1,by rw[aE (f _ _ h.2.1)];exact h.2.1,h.2.2⟩ e
 exact d r
theorem Inv.freeze(I:Inv X G Z H s)(d:H a=some (.dT kvs)):∃o,s.heap.get? a=some o/\Inv X G Z (upd H a (.frz o (.dT kvs))) s:=by
 have x:=I.hok a _ d;obtain⟨_,_,_,_,o,f,ep,c,_⟩:=(show ObjOk X.prog X.w H s.heap a (.dT kvs) from x);refine⟨o,c,?_⟩
 have:=I.write (x:=a) (e:=a) (o:=.frz o (.dT kvs)) (h':=s.heap) (t':=s.toks) (by rw[d];trivial) (.inl rfl) (λb u _ e=>e) ⟨o,c⟩ ⟨c,GM (X:=X) (λb xs e z=>by rw[z,d]at e;cases e) x⟩
 exact this
theorem Inv.thaw{o:Obj}(I:Inv X G Z H s)(D:H a=some (.frz o (.dT kvs)))(h0:∀o u,X.H₀ a≠some (.frz o u)):Inv X G Z (upd H a (.dT kvs)) s:=by
 have x:ObjOk X.prog X.w H s.heap a (.frz o (.dT kvs)):=I.hok a _ D;have ne:∀{b:Addr} {u:HO},H b=some u->(∀o v,u≠ .frz o v)->b≠a:=λ{b u} e h z=>by rw[z,D]at e;cases e;exact h _ _ rfl
 have d:∀{b:Addr},H b=none->b≠a:=λ{b} e z=>by rw[z,D]at e;cases e
 refine⟨I.ok,I.os,I.bare,⟨I.base.keep,I.base.slot,λb ob q n B=>?_,I.base.there,λb xs e=>?_,λb ob u e=>?_,λb l e=>?_⟩,I.loc,I.cell,?_,λy c e=>?_,λp hp=>?_,λb u e=>?_,I.len⟩
 · have:=I.base.free b ob q n B
   rw[aE (d this)];exact this
 · have:=I.base.tups b xs e
   rw[aE (ne this λ_ _ z=>by cases z)];exact this
 ·have J:b≠a:=λz=>h0 ob u (z▸e);rw[aE J];exact I.base.frzs b ob u e
 ·obtain⟨f,g⟩:=I.base.tbls b l e;refine⟨by rw[aE (ne f λ_ _ z=>by cases z)];exact f,λc ob e1 m=>?_⟩;obtain⟨j,k⟩:=g c ob e1 m;exact⟨by rw[aE (ne j λ_ _ z=>by cases z)];exact j,k⟩
 ·rw[aE (d I.free)];exact I.free
 ·rw[aE (d (I.freeC y c e))];exact I.freeC y c e
 ·obtain⟨f,g,j,k⟩:=I.pin p hp;exact⟨f,by rw[aE (d g)];exact g,j,k⟩
 · have E:∀b xs,H b=some (.tup xs)->b≠a:=λb xs e=>ne e λ_ _ z=>by cases z
   by_cases z:b=a
   ·subst z;rw[aM]at e;cases e;exact GM (X:=X) E x.2
   · rw[aE z]at e;have y:=I.hok b u e
     have i:∀(u:HO) (b:Addr),ObjOk X.prog X.w H s.heap b u->ObjOk X.prog X.w (upd H a (.dT kvs)) s.heap b u:=by
      intro u
      induction u with
      |dT F=>
        intro b y;obtain⟨z,w,xs,r,bJ⟩:=(show ObjOk X.prog X.w H s.heap b (.dT F) from y);refine⟨z,w,xs,?_,bJ⟩
        have i:∀{t:List (List aP×V)} {l2:List (List aP×Addr×Value)},Paired (λ(p:List aP×V) (q:List aP×Addr×Value)=>p.1=q.1/\H q.2.1=some (.tup (p.1.map kV))/\RelV p.2 q.2.2) t l2->
         Paired (λ(p:List aP×V) (q:List aP×Addr×Value)=>p.1=q.1/\upd H a (.dT kvs) q.2.1=some (.tup (p.1.map kV))/\RelV p.2 q.2.2) t l2:=by
         intro t l2 h
         induction h with
         |nil=>exact .nil
         |cons h _ A=>exact .cons ⟨h.1,by rw[aE (E _ _ h.2.1)];exact h.2.1,h.2.2⟩ A
        exact i r
      |ins C dx fs=>
        intro b y;obtain⟨f,g⟩:=(show ObjOk X.prog X.w H s.heap b (.ins C dx fs) from y);exact⟨by rw[aE (ne f λ_ _ z=>by cases z)];exact f,g⟩
      |frz o u A=>intro b y;exact⟨y.1,A b y.2⟩
      |tbl l=>
        intro b y;obtain⟨f,ps,g,j,k⟩:=(show ObjOk X.prog X.w H s.heap b (.tbl l) from y);exact⟨f,ps,g,j,λx B=>(k x B).imp id λ⟨c,e1,m,K⟩=>⟨c,e1,by rw[aE (ne m λ_ _ z=>by cases z)];exact m,K⟩⟩
      |_=>intro b y;exact y
     exact i u b y
def Itd(a:Addr)(o:Obj)(bs:List Addr):It:=
 ⟨λi H=>(∃kvs:List (List aP×V),H a=some (.frz o (.dT kvs)))/\i<bs.length,λi H x H'=>H'=H/\∃b,bs[i]?=some b/\x=.ref b,λi H=>(∃kvs:List (List aP×V),H a=some (.frz o (.dT kvs)))/\bs.length<=i⟩
theorem BI{P:Program}{w:World}{K:F0}{M:Expr}{o:Obj}{f:Array DictEntry}{ep:Nat}{bs:List Addr}(a g:Addr)(J:o.ExactDict)(hd:o.data=.dict f ep)(U:bs.length=f.size)(O:∀(i:Nat) (h:i<f.size) b,bs[i]?=some b->f[i].key=.ref b):
 Turn P w K M (Itd a o bs) [g] g (λi h=>i<=f.size/\h.IsKeyIter g a i f.size ep) where
 mem:=by simp
 obj:=λi h st b l=>by
  have e:b=g:=by simpa using l
  subst e;obtain⟨_,o,e,c,d⟩:=st;exact⟨o,e,λv z=>by rw[d]at z;cases z⟩
 keep:=λi h h' st k=>⟨st.1,st.2.at λo e=>k g (by simp) o e⟩
 item:=by
  intro X u q x L i G s Z H E I n st r;subst u q x;obtain⟨⟨kvs,t⟩,hi⟩:=r;have y:ObjOk X.prog X.w H s.heap a (.frz o (.dT kvs)):=I.hok a _ t;obtain⟨F,D,Q,C,B,A⟩:=n g (by simp);have j:i<f.size:=by omega
  refine nw st.2 ⟨o,y.1,J,hd⟩ j λh' m N=>?_;have S:Inv X G Z H {s with heap:=h'}:=I.turned (t':=s.toks) (λb o l e=>(N.2 b l).trans e) F D C B A;obtain⟨T,e,c,d⟩:=id m;have p:bs[i]?=some (bs[i]):=VI hi;refine⟨_,rfl,Aw (s:={s with heap:=h'}) e c d (by decide) ⟨.ref bs[i],H,S,O i j _ p,⟨rfl,_,p,rfl⟩,⟨j,m⟩,λb l=>(n b l).1⟩⟩
 done:=by
  intro X u q x L i G s Z H E I n st r;subst u q x;obtain⟨⟨kvs,t⟩,hi⟩:=r;have y:ObjOk X.prog X.w H s.heap a (.frz o (.dT kvs)):=I.hok a _ t;obtain⟨F,D,Q,C,B,A⟩:=n g (by simp);have R:i=f.size:=Nat.le_antisymm st.1 (by omega);subst R;exact sf (I.ok.hd L) st.2 ⟨o,y.1,J,hd⟩ λh' p=>⟨rfl,I.turned (t':=s.toks) (λb o l e=>p b o l e) F D C B A⟩
 self:=λ_ _ _ _ _ st h=>wpAny_pyIter_keyiter st.2 h
def O5(c:TE):TI:=λZ H R=>c Z H λx H1=>∃a o kvs,x=.ref a/\H1 a=some (.frz o (.dT kvs))/\
 ∀bs:List Addr,bs.length=kvs.length->(∀(i:Nat) k v b,kvs[i]?=some (k,v)->bs[i]?=some b->H1 b=some (.tup (k.map kV)))->R (Itd a o bs) H1
theorem M3{K l:Expr}{E:TE}(Q:PE X l E):PI X K l (O5 E):=by
 intro G s Z H R I h;refine bI (Q G s Z H _ I h) λv c ⟨x,H1,B,L,M⟩=>?_;obtain⟨a,o,kvs,rfl,U,q⟩:=M;cases L;have y:ObjOk X.prog X.w H1 c.heap a (.frz o (.dT kvs)):=B.hok a _ U;obtain⟨z,hd,m,n,o',j,ep,J,F,d,u,P⟩:=(show ObjOk X.prog X.w H1 c.heap a (.dT kvs) from y.2);have Y:o'=o:=by have:=y.1;rw[J]at this;exact VO this
 subst Y;have t:kvs.length=m.length:=WC n
 have r:j.size=m.length:=by
  have e:=congrArg List.length u
  rwa [Vs,V8]at e
 have S:∀(i:Nat) (h:i<j.size) b,(m.map λy=>y.2.1)[i]?=some b->j[i].key=.ref b:=λi h b e=>by
  rw[VR]at e;cases g:m[i]? with
  |none=>rw[g]at e;cases e
  |some y=>
    rw[g]at e;have D:y.2.1=b:=VO e;have A:j.toList[i]?=some j[i]:=by rw[WV];exact Wp h
    rw[u,VR,g]at A;have ee:entryOfKey (tupleKind (aG X.prog X.w)) y=j[i]:=VO A;rw[<-ee,lM,D]
 refine nv hd ⟨o',J,F,d⟩ ?_;have I2:Inv X G Z H1 {c with heap:=c.heap.push {cls:=.type "dict_keyiterator",data:=.fields #[.ref a,.int 0 0,.int j.size 0,.int ep 0]}}:=B.kept (t':=c.toks) λb o e=>Vv _ e;refine⟨c.heap.objs.size,[c.heap.objs.size],_,_,H1,rfl,I2,BI (bs:=m.map λy=>y.2.1) a _ F d (by rw[Vs,r]) S,⟨WD _,⟨_,VN _ rfl,rfl,rfl⟩⟩,λb T=>?_,q _ (by rw[Vs,t]) λi k v b e1 f=>?_⟩
 · have e:b=c.heap.objs.size:=by simpa using T
   subst e;exact B.fpOk (VE _) (B.hok.fresh (VE _))
 · rw[VR]at f;cases g:m[i]? with
   |none=>rw[g]at f;cases f
   |some y=>
     rw[g]at f;have D:y.2.1=b:=VO f
     have N:∀{C:List (List aP×V)} {l2:List (List aP×Addr×Value)},Paired (λ(p:List aP×V) (q:List aP×Addr×Value)=>p.1=q.1/\H1 q.2.1=some (.tup (p.1.map kV))/\RelV p.2 q.2.2) C l2->
      ∀{i:Nat} {p q},C[i]?=some p->l2[i]?=some q->H1 q.2.1=some (.tup (p.1.map kV)):=by
      intro C l2 hp
      induction hp with
      |nil=>intro i p q e;cases e
      |cons W _ O=>
        intro i p q e1 f;cases i with
        |zero=>cases e1;cases f;exact W.2.1
        |succ i=>exact O e1 f
     rw[<-D];exact N n e1 g
def KD(t:TE):TE:=λZ H Q=>t Z H Q\/∃a kvs,H a=some (.dT kvs)/\∀o,t Z (upd H a (.frz o (.dT kvs))) λv H1=>H1 a=some (.frz o (.dT kvs))/\Q v (upd H1 a (.dT kvs))
theorem Jg{e:Expr}{t:TE}(h:PE X e t):PE X e (KD t):=by
 intro G s Z H Q I q;rcases q with q|⟨a,kvs,b,q⟩
 ·exact h G s Z H Q I q
 · obtain⟨o,j,g⟩:=I.freeze b;refine bI (h G s Z _ _ g (q o)) λu i ⟨v,H1,f,r,e1,d⟩=>⟨v,_,f.thaw e1 λo' c z=>?_,r,d⟩
   have:=I.base.frzs a o' c z
   rw[b]at this;cases this
end
end L2
namespace Mi
open PySem L2
structure Fz (a:Addr) (kvs:List (List aP×V)) (G G':Hp):Prop where
 ne:∀b,b≠a->G' b=G b
 fr:∀x,G a=some x->x=.dT kvs\/∃o,x=.frz o (.dT kvs)
 to:∀x,G a=some x->Rd G' a (.dT kvs)
 no:G a=none->G' a=none
section
variable{Y:Cm}{a:Addr}{kvs:List (List aP×V)}{E:XK}{T:List Md}{K:F0}
theorem Fz.at{G d:Hp}(F:Fz a kvs G d){b:Addr}{x:HO}(e:G b=some x)(n:nd x):b≠a/\d b=some x:=by
 have c:b≠a:=λz=>by
  subst z;rcases F.fr x e with q|⟨o,q⟩<;>rw[q]at n<;>exact n
 exact⟨c,by rw[F.ne b c];exact e⟩
theorem AD{G e:Hp}(F:Fz a kvs G e){d:D}{v:V}:Dn Y G d v->Dn Y e d v:=Dn.imp ⟨λb x q n=>(F.at q n).2,λb k c=>by
 by_cases z:b=a
 ·subst z;rcases c with c|⟨o,c⟩<;>rcases F.fr _ c with q|⟨o,q⟩<;>cases q<;>exact F.to _ c
 · show e b=_\/∃o,e b=_;rw[F.ne b z]
   exact c⟩
theorem Rel.fz{B U H S J H':Hp}{As:Nat->List Addr}{Z:St}{M:Tp}(R:Rel Y T B U As Z H M)(FB:Fz a kvs B S)(g:Fz a kvs U J)(o:Fz a kvs H H')(k:∀i,a∉As i)(bu:Same S J)(uh:Same J H'):Rel Y T S J As Z H' M:=by
 have c:∀{i b},b∈As i->b≠a:=λ{i b} h z=>k i (z▸h);refine⟨bu,uh,R.nd,R.dj,λi b e=>by rw[g.ne b (c e)];exact R.un i b e,λi=>?_,R.len,λp hp=>?_⟩
 · have l:=R.lo i;unfold Lo at l ⊢;cases q:rg M i with
   |none=>rw[q]at l;exact l
   |some d=>
     rw[q]at l;obtain⟨v,j,w⟩:=l;refine⟨v,j,?_⟩;cases f:T.getD i .F with
     |F=>rw[f]at w;exact⟨AD FB w.1,w.2⟩
     |R=>rw[f]at w;exact⟨AD g w.1,w.2⟩
     |O s=>rw[f]at w;exact Ow.imp (AD FB) (λb e=>o.ne b (c e)) w
 ·obtain⟨l,n,m⟩:=R.tb p hp;exact⟨l,(FB.at n trivial).2,m⟩
def m7(G:Hp)(a:Addr)(u:HO):Hp:=λb=>if b=a then (G a).map λ_=>u else G b
theorem cG{G:Hp}{u:HO}{b:Addr}(h:b≠a):m7 G a u b=G b:=on h
theorem c6{G:Hp}{u x:HO}(h:G a=some x):m7 G a u a=some u:=by unfold m7;rw[if_pos rfl,h];rfl
theorem ou{G:Hp}{u:HO}(h:G a=none):m7 G a u a=none:=by unfold m7;rw[if_pos rfl,h];rfl
theorem jR{G:Hp}{u:HO}(fr:∀x,G a=some x->x=.dT kvs\/∃o,x=.frz o (.dT kvs))(c:u=.dT kvs\/∃o,u=.frz o (.dT kvs)):Fz a kvs G (m7 G a u):=
 ⟨λb h=>cG h,fr,λx e=>by
  rcases c with q|⟨o,q⟩
  ·exact .inl (by rw[c6 e,q])
  ·exact .inr ⟨o,by rw[c6 e,q]⟩,λe=>ou e⟩
theorem kK{G c:Hp}{u:HO}(s:Same G c):Same (m7 G a u) (m7 c a u):=λb x e=>by
 by_cases z:b=a
 · subst z;cases q:G b with
   |none=>rw[ou q]at e;cases e
   |some y=>rw[c6 q]at e;rw[c6 (s _ _ q)];exact e
 ·rw[cG z]at e ⊢;exact s _ _ e
theorem mL{mi:Tp->Res Bool}{me:Tp->Res D}{W:Tp}:∀(ds:List D) (c:Nat),bG mi me W ds≠ .exc c
 |[],c,h=>by cases h
 | d::ds,c,h=>by
   rw[bG]at h;have f:=mL (mi:=mi) (me:=me) (W:=W) ds;cases e1:mi (some d::W) with
   |bad=>rw[e1]at h;cases h
   |exc x=>rw[e1]at h;cases h
   |ok b=>
     rw[e1]at h;cases b with
     |false=>exact f c h
     |true=>
       cases e:me (some d::W) with
       |bad=>rw[e]at h;cases h
       |exc x=>rw[e]at h;cases h
       |ok x=>
         rw[e]at h;cases a:bG mi me W ds with
         |ok y=>rw[a]at h;cases h
         |exc y=>exact f y a
         |bad=>rw[a]at h;cases h
def Dq(m:Tp->Res D):Tp->Res (List D):=λM=>(m M).bind λd=>match d with
 |.dT a _=>.ok (a.map λk=>.tup (k.map kD))
 |_=>.bad
theorem Jj{i c:Nat}{f:Str}{ix:List Nat}{ti:TT}{te:TE}{mi:Tp->Res Bool}{me:Tp->Res D}(hc:Cls K (Y c))(hn:NoAttr K (Y c) f)(hm:T.getD i .F= .R)(hix:ix.Nodup)
 (hti:PJ Y KB E0 (lI .F T ix) ti mi) (hte:PJ Y (KR Y .F) E0 (lI .F T ix) te me):PJ Y (KO Y (.ct .fz)) E T (KD (lZ (O5 (qp K (dD i) f)) ix ti te)) (je (Dq (un (bQ c f) (vr i))) ix mi me):=by
 intro B U As Z H M Q R P;have l:=R.lo i;rw[hm]at l;unfold je Dq un vr at P;cases e:rg M i with
 |none=>rw[e]at P;exact P.elim
 |some d0=>
   rw[e]at P l;obtain⟨v0,hv0,w0⟩:=l;have w0:Dn Y U d0 v0:=w0.1;replace P:Po Y (KO Y (.ct .fz)) E T B U As Z H M (((bQ c f d0).bind λd=>match d with | .dT C _=>Res.ok (C.map λk=>D.tup (k.map kD))|_=>.bad).bind λxs=>if xs.length<aq then (bG mi me (eF M ix) xs).bind λys=>.ok (.lst ys) else .bad) Q:=P;cases ef:bQ c f d0 with
   |bad=>rw[ef]at P;exact P.elim
   |exc x=>exact(kM ef).elim
   |ok d=>
     rw[ef]at P;obtain⟨ns,vs,rfl,lk⟩:=m9 ef;rw[Dn]at w0;obtain⟨b,dx,fs,rfl,hb,hns,hvs⟩:=w0;subst hns;obtain⟨x,hx,dx'⟩:=kB hvs lk;cases d with
     |dT C ds=>
       replace P:Po Y (KO Y (.ct .fz)) E T B U As Z H M (if (C.map λk=>D.tup (k.map kD)).length<aq then (bG mi me (eF M ix) (C.map λk=>D.tup (k.map kD))).bind λys=>.ok (.lst ys) else .bad) Q:=P;rw[Dn]at dx';obtain⟨a,kvs,rfl,hrd,hks,_⟩:=dx'
       -- the QA over a frozen dict
       have core:∀{I U1 H1:Hp} {o:Obj} {Q1:VK},Rel Y T I U1 As Z H1 M->H1 a=some (.frz o (.dT kvs))->H1 b=some (.ins (Y c) dx fs)->
        (∀bs:List Addr,(∀y∈bs,∃q,H1 y=some q/\fD q)->Po Y (KO Y (.ct .fz)) E T (Mi.frz I H1 bs) (Mi.frz U1 H1 bs) As Z H1 M (if (C.map λk=>D.tup (k.map kD)).length<aq then (bG mi me (eF M ix) (C.map λk=>D.tup (k.map kD))).bind λys=>.ok (.lst ys) else .bad) Q1)->
        lZ (O5 (qp K (dD i) f)) ix ti te Z H1 Q1:=λ{I U1 H1 o Q1} r ha1 S W=>by
        refine⟨.ref b,ci hv0,b,_,dx,fs,.ref a,rfl,S,hc,hn,hx,a,o,kvs,rfl,ha1,λbs hl hk p hp=>?_⟩
        have g:∀y∈bs,∃q,H1 y=some q/\fD q:=λy m=>by
         obtain⟨j,hj,ej⟩:=XJ m;have h4:bs[j]?=some y:=by rw[<-ej];exact VI hj
         have h5:kvs[j]?=some (kvs[j]'(by omega)):=VI (by omega);exact⟨_,hk j _ _ y (by rw[h5]) h4,_,rfl⟩
        have R2:Rel Y T (Mi.frz I H1 bs) (Mi.frz U1 H1 bs) As Z H1 M:=r.grow (bO r.bh) (bO r.uh) (Same.refl _) (kL r.bu) (m8 r.uh) λi a n=>by
         unfold Mi.frz;split
         ·rename_i z;obtain⟨o,e,t⟩:=g a z;exact(r.nt n e t).elim
         ·exact r.un i a n
        refine Bm (k:= .F) hix (λ_ _ _ _ _=>Ta) hti hte (λ_ _ _ _ _ _ _ _ _ _ _ _ _=>O8) (.inl rfl) R2 (vs:=bs.map V.ref) (λH2 s2=>?_) ?_ (W bs g) p hp
        ·have h1:=s2 _ _ ha1;refine⟨λj hj=>⟨⟨kvs,h1⟩,by simpa using hj⟩,λj hj=>⟨⟨kvs,h1⟩,by simpa using hj⟩,λj y H' hj m=>⟨m.1,?_⟩⟩;obtain⟨q,e1,e2⟩:=m.2;rw[VR,e1,e2];rfl
        · refine Dns.of_get (by rw[Vs,Vs,hl,<-hks,Vs]) λj d y ed ey=>?_;rw[VR]at ed ey;obtain⟨kk,ek,rfl⟩:=VJ.mp ed;obtain⟨q,eq,rfl⟩:=VJ.mp ey;rw[<-hks,VR]at ek;obtain⟨kv,ekv,rfl⟩:=VJ.mp ek
          have:=hk j kv.1 kv.2 q (by rw[ekv]) eq
          show Dn Y (Mi.frz I H1 bs) (.tup (kv.1.map kD)) (.ref q);rw[Dn];refine⟨q,_,rfl,?_,tm kv.1⟩;unfold Mi.frz;rw[if_pos (List.mem_of_getElem? eq)];exact this
       have L:∀{I U1 H1:Hp} {bs:List Addr},Rel Y T I U1 As Z H1 M->(∀y∈bs,∃q,H1 y=some q/\fD q)->Gw I U1 H1 (Mi.frz I H1 bs) (Mi.frz U1 H1 bs) H1:=λ{I U1 H1 bs} r g=>by
        refine⟨⟨bO r.bh,bO r.uh,λa o q=>?_⟩,Same.refl _,λa o q=>?_⟩
        · unfold Mi.frz at q;split at q
          ·rename_i z;obtain⟨o',e,t⟩:=g a z;rw[e]at q;cases q;exact .inr (.inr t)
          ·exact .inl q
        · unfold Mi.frz at q;split at q
          ·rename_i z;obtain⟨o',e,t⟩:=g a z;rw[e]at q;cases q;exact .inr (.inr t)
          ·exact .inl q
       rcases hrd with n|⟨o,n⟩
       · refine .inr ⟨a,kvs,R.uh _ _ n,λo=>?_⟩;have hU:∀x,U a=some x->x=.dT kvs:=λx q=>by rw[n]at q;cases q;rfl
         have hB:∀x,B a=some x->x=.dT kvs:=λx q=>hU x (R.bu _ _ q);have J:H a=some (.dT kvs):=R.uh _ _ n;have hA:∀i,a∉As i:=λi z=>by rw[R.un i a z]at n;cases n
         have eH:upd H a (.frz o (.dT kvs))=m7 H a (.frz o (.dT kvs)):=by
          funext y;by_cases z:y=a
          ·subst z;rw[aM,c6 J]
          ·rw[aE z,cG z]
         rw[eH];have u0:(HO.frz o (.dT kvs))=.dT kvs\/∃o',(HO.frz o (.dT kvs))=.frz o' (.dT kvs):=.inr ⟨o,rfl⟩
         have r:Rel Y T (m7 B a (.frz o (.dT kvs))) (m7 U a (.frz o (.dT kvs))) As Z (m7 H a (.frz o (.dT kvs))) M:=
          R.fz (jR (λx q=>.inl (hB x q)) u0) (jR (λx q=>.inl (hU x q)) u0) (jR (λx q=>by rw[J]at q;cases q;exact .inl rfl) u0) hA (kK R.bu) (kK R.uh)
         have S:m7 H a (.frz o (.dT kvs)) b=some (.ins (Y c) dx fs):=by
          have hba:b≠a:=λz=>by rw[z,n]at hb;cases hb
          rw[cG hba];exact R.uh _ _ hb
         refine core r (c6 J) S λbs g=>?_;have g1:=L r g
         have abs:a∉bs:=λz=>by
          obtain⟨q,e1,t⟩:=g a z;rw[c6 J]at e1;cases e1;obtain⟨_,t⟩:=t;cases t
         by_cases zl:(C.map λk=>D.tup (k.map kD)).length<aq
         · rw[Vq zl]at P ⊢;cases ec:bG mi me (eF M ix) (C.map λk=>D.tup (k.map kD)) with
           |bad=>rw[ec]at P;exact P.elim
           |exc q=>exact(mL _ _ ec).elim
           |ok zs=>
             rw[ec]at P;intro v B3 U3 H3 N R3 g3 n3 w3;have w3:Ow Y B3 H3 (.lst zs) (.ct .fz) v N:=w3;have A:H3 a=some (.frz o (.dT kvs)):=g3.h _ _ (c6 J);refine⟨A,?_⟩
             have eH3:upd H3 a (.dT kvs)=m7 H3 a (.dT kvs):=by
              funext y;by_cases z:y=a
              ·subst z;rw[aM,c6 A]
              ·rw[aE z,cG z]
             rw[eH3];have t0:(HO.dT kvs)=.dT kvs\/∃o',(HO.dT kvs)=.frz o' (.dT kvs):=.inl rfl
             have f3:∀{G:Hp},Same G H3->∀x,G a=some x->x=.dT kvs\/∃o',x=.frz o' (.dT kvs):=λs x q=>by
              have:=s _ _ q
              rw[A]at this;cases this;exact .inr ⟨o,rfl⟩
             have X:a∉N:=λz=>by have:=n3.fr a z;rw[c6 J]at this;cases this
             have U2a:Mi.frz (m7 U a (.frz o (.dT kvs))) (m7 H a (.frz o (.dT kvs))) bs a=some (.frz o (.dT kvs)):=by unfold Mi.frz;rw[if_neg abs];exact c6 n
             have w:∀{G G3:Hp},Same G H->Same (Mi.frz (m7 G a (.frz o (.dT kvs))) (m7 H a (.frz o (.dT kvs))) bs) G3->Same G (m7 G3 a (.dT kvs)):=λ{G G3} sg s3 y x q=>by
              by_cases z:y=a
              · subst z;have hx:x=.dT kvs:=by have:=sg _ _ q;rw[J]at this;cases this;rfl
                have:Mi.frz (m7 G y (.frz o (.dT kvs))) (m7 H y (.frz o (.dT kvs))) bs y=some (.frz o (.dT kvs)):=by unfold Mi.frz;rw[if_neg abs];exact c6 q
                rw[c6 (s3 _ _ this),hx]
              · rw[cG z];refine s3 _ _ ?_;unfold Mi.frz;split
                ·rw[cG z];exact sg _ _ q
                ·rw[cG z];exact q
             refine P v (m7 B3 a (.dT kvs)) (m7 U3 a (.dT kvs)) (m7 H3 a (.dT kvs)) N (R3.fz (jR (f3 R3.bh) t0) (jR (f3 R3.uh) t0) (jR (f3 (Same.refl _)) t0) hA (kK R3.bu) (kK R3.uh)) ⟨⟨w R.bh g3.b,w R.uh g3.u,λy x q=>?_⟩,λy x q=>?_,λy x q=>?_⟩ ⟨n3.nd,λy m=>?_,λy m=>?_⟩ (Ow.imp (AD (jR (f3 R3.bh) t0)) (λy m=>cG λz=>X (z▸m)) w3)
             · by_cases z:y=a
               · subst z;cases O:B3 y with
                 |none=>rw[ou O]at q;cases q
                 |some x'=>
                   rw[c6 O]at q;cases q;rcases g3.nb y x' O with h|h|h
                   · unfold Mi.frz at h;rw[if_neg abs]at h;cases q0:B y with
                     |none=>rw[ou q0]at h;cases h
                     |some x0=>rw[hB x0 q0];exact .inl rfl
                   ·rw[U2a]at h;cases h
                   ·have:=R3.bh _ _ O;rw[A]at this;cases this;obtain⟨_,h⟩:=h;cases h
               · rw[cG z]at q;rcases g3.nb y x q with h|h|h
                 · unfold Mi.frz at h;split at h
                   ·rename_i m;obtain⟨q1,e1,t⟩:=g y m;rw[e1]at h;cases h;exact .inr (.inr t)
                   ·rw[cG z]at h;exact .inl h
                 · unfold Mi.frz at h;split at h
                   ·rename_i m;obtain⟨q1,e1,t⟩:=g y m;rw[e1]at h;cases h
                   ·rw[cG z]at h;exact .inr (.inl h)
                 ·exact .inr (.inr h)
             · by_cases z:y=a
               ·subst z;rw[J]at q;cases q;exact c6 A
               ·rw[cG z];exact g3.h _ _ (by rw[cG z];exact q)
             · by_cases z:y=a
               · subst z;cases O:U3 y with
                 |none=>rw[ou O]at q;cases q
                 |some x'=>rw[c6 O]at q;cases q;exact .inl n
               · rw[cG z]at q;rcases g3.fr y x q with h|h|h
                 · unfold Mi.frz at h;split at h
                   ·rename_i m;obtain⟨q1,e1,t⟩:=g y m;rw[e1]at h;cases h;exact .inr (.inr t)
                   ·rw[cG z]at h;exact .inl h
                 ·rw[cG z]at h;exact .inr (.inl h)
                 ·exact .inr (.inr h)
             · have:=n3.fr y m
               have z:y≠a:=λz=>X (z▸m);rw[cG z]at this;exact this
             · have:=n3.un y m
               have z:y≠a:=λz=>X (z▸m);rw[cG z];exact this
         ·rw[on zl]at P;exact P.elim
       ·exact .inl (core R (R.uh _ _ n) (R.uh _ _ hb) λbs g=>Po.at P (L R g))
     |_=>exact P.elim
end
end Mi
namespace L2
open PySem PySem.Spec PyProof.Rows
section
variable{prog:Program}{w:World}{A:Around}{E:P4}{s:Shared}
def uk(h:Heap)(a:Array DictEntry):Prop:=∀e∈a,∃b o,e.key=.ref b/\h.get? b=some o/\o.cls=.type "tuple"
theorem BY{b:Addr}{o:Obj}{Q:Bool->Shared->Prop}(a:s.heap.get? b=some o)(c:o.cls=.type "tuple")(h:Q false s):wpAny (model prog w) A (Builtin.Dict.quietEq (.ref b)) Q E s:=by
 unfold Builtin.Dict.quietEq;dsimp only;refine wpAny_bind (wpAny_specialOf (T := "tuple") ⟨o,a,c⟩ PySem.F.slot_tuple_eq.lookup ?_);exact wpAny_pure h
theorem GI{id:String}{d:Addr}{o:Obj}{a:Array DictEntry}{ep:Nat}{Q:Array DictEntry->Shared->Prop}(k:s.heap.get? d=some o)(hd:o.data=.dict a ep)(m:uk s.heap a)(n:∀e∈a,¬ (a.filter (·.hash==e.hash)).size>1)(h:Q a s):
 wpAny (model prog w) A (Builtin.Dict.entriesForEmpty id d) Q E s:=by
 unfold Builtin.Dict.entriesForEmpty;refine wpAny_bind (wpAny_dictEntries k hd ?_);refine wpAny_bind ?_;rw[<-Array.forIn_toList]
 have c:∀l:List DictEntry,(∀e∈l,e∈a)->wpAny (model prog w) A (forIn l PUnit.unit λe (_:PUnit)=>(do
  let q <-Builtin.Dict.quietEq e.key
  if (!q)=true then
   if (a.filter (·.hash==e.hash)).size>1 then (do let _ <-(unsupported s!"{id}:keys-of-equal-hash" : Sem PUnit);pure (ForInStep.yield PUnit.unit)) else pure (ForInStep.yield PUnit.unit)
  else pure (ForInStep.yield PUnit.unit):Sem (ForInStep PUnit))) (λ_ g=>g=s) E s:=by
  intro l
  induction l with
  |nil=>intro _;exact Vz rfl
  |cons e l i=>
    intro f;rw[List.forIn_cons];obtain⟨b,ob,u,t,r⟩:=m e (f e Vu);refine Vp (Vp ?_);rw[u];refine BY t r ?_;simp only[Bool.not_false,YO];rw[on (n e (f e Vu))];exact Vz (i λx j=>f x (Vw _ j))
 refine XE (c a.toList λe p=>XF.mp p) (λ_ g e=>?_) λ_ _ e=>e;subst e;exact Vz h
theorem Fm{p:String}{d o:Addr}{m:Obj}{l:Nat}{a:Array DictEntry}{ep:Nat}{Q:Unit->Shared->Prop}(j:d≠o)(h:(o==sysModules)=false)(hd:s.heap.get? d=some m)(g:m.data=.dict #[] l)(r:RawD s.heap o a ep)
 (n:uk s.heap a) (t:∀e∈a,¬ (a.filter (·.hash==e.hash)).size>1) (hz:a.size<=sizeLine) (h0:a=#[]->Q () s) (u:Q () {s with heap:=s.heap.update d (Obj.mapDictKeys λ_=>a)}):
 wpAny (model prog w) A (Builtin.Dict.mergeDict p d o) Q E s:=by
 obtain⟨x,c,y,f⟩:=id r;unfold Builtin.Dict.mergeDict;rw[if_neg (by simpa using j)];unfold Builtin.Dict.showsAll;rw[if_neg (by rw[h];exact Bool.false_ne_true)];refine wpAny_bind (wpAny_pure ?_);refine wpAny_bind (wpAny_dictEntries c f ?_);dsimp only;by_cases k:a=#[]
 · subst k;have few:(!(decide ((#[]:Array DictEntry).size<=8)&&(#[]:Array DictEntry).all λe=>(keyPart e.key).isSome))=false:=by simp
   rw[few,on VD];refine Vp (Yu c f ?_);refine Vp (WZ c f ?_);refine Vp ?_;rw[Std.Legacy.Range.forIn_eq_forIn_range'];simp only[Std.Legacy.Range.size,Nat.sub_zero,Nat.add_sub_cancel,Nat.div_one,Array.size_empty,List.range'_zero,List.forIn_nil];exact Vz (Vz (h0 rfl))
 · have hsz:0<a.size:=by
    by_cases z:0<a.size
    ·exact z
    ·exact absurd (Array.eq_empty_of_size_eq_zero (by omega)) k
   have few:(!(decide (a.size<=8)&&a.all λe=>(keyPart e.key).isSome))=true:=by
    obtain⟨b,ob,v,_⟩:=n a[0] (Array.getElem_mem hsz)
    have:(a.all λe=>(keyPart e.key).isSome)=false:=by
     cases q:a.all λe=>(keyPart e.key).isSome with
     |false=>rfl
     |true=>
       have:=Array.all_eq_true.mp q 0 hsz
       rw[v]at this;cases this
    rw[this,Bool.and_false];rfl
   rw[few,Vq rfl];refine Vp (WZ hd g ?_);rw[Vq (by rfl)];refine Vp (GI c f n t ?_);have i:(!a.isEmpty)=true:=by simp[k]
   rw[Vq i];exact Vp (wpAny_updateDictKeysTo hd g (Vz u) (by omega))
end
def cX(k:List Int):Int:=reduceHash (Builtin.Tuple.tupleHashOf (k.map hashInt))
theorem CB{P:Program}{w:World}(k:List Int):(tupleKind (aG P w)).hash (k.map Sum.inl)=cX k:=by
 show reduceHash (Builtin.Tuple.tupleHashOf ((k.map Sum.inl).map (S9 w)))=_;rw[Wi];rfl
theorem yo{b:Array DictEntry}(h:(b.toList.map (·.hash)).Nodup):∀e∈b,¬ (b.filter (·.hash==e.hash)).size>1:=λe g=>by
 rw[<-V8,Array.toList_filter]
 have a:∀{l:List DictEntry},(l.map (·.hash)).Nodup->(l.filter (·.hash==e.hash)).length<=1:=by
  intro l
  induction l with
  |nil=>intro _;simp
  |cons x l c=>
    intro nd;rw[Vr,VQ]at nd;rw[Wv];by_cases z:(x.hash==e.hash)=true
    · rw[Vq z]
      have:l.filter (·.hash==e.hash)=[]:=List.filter_eq_nil_iff.mpr λy d q=>by
       have e1:x.hash=e.hash:=by simpa using z
       have f:y.hash=e.hash:=by simpa using q
       exact nd.1 (VY.mpr ⟨y,d,by rw[e1,f]⟩)
      rw[this];simp
    ·rw[on z];exact c nd.2
 have:=a h
 omega
section
variable{X:Cx}
def Rm:V->List V->Hp->VK->Prop:=λx vs H Q=>∃(d b:Addr) (kvs:List (List aP×V)) (a:List (List Int)),x=.ref d/\vs=[.ref b]/\H d=some (.dT [])/\Rd H b (.dT kvs)/\d≠b/\kvs.map (·.1)=a.map (λk=>k.map Sum.inl)/\(a.map cX).Nodup/\Q .non (upd H d (.dT kvs))
theorem jk:MtR X "dict.update" Rm:=by
 intro G s Z H x vs v us Q I rx rv h;obtain⟨d,b,kvs,J,rfl,rfl,hd,hb,W,hk,hh,q⟩:=h;cases rx;obtain⟨u,rfl,ru⟩:=rv.one;cases ru;obtain⟨_,T,S,E,od,P,epd,c,A,j,N,_⟩:=(show ObjOk X.prog X.w H s.heap d (.dT []) from I.hok d _ hd);obtain⟨z,U,l,g,ob,R,ep,M,L,hdb,i,Y⟩:=(show ObjOk X.prog X.w H s.heap b (.dT kvs) from hb.ok I.hok);have l0:S=[]:=by cases E;rfl
 subst l0
 have e0:P=#[]:=by
  have:P.toList=[]:=N
  exact Array.toList_inj.mp this
 subst e0;have n:kvs.length=l.length:=WC g
 have m:R.size=l.length:=by
  have e:=congrArg List.length i
  rwa [Vs,V8]at e
 have tk:uk s.heap R:=λe he=>by
  have O:e∈R.toList:=XF.mpr he;rw[i]at O;obtain⟨y,t,rfl⟩:=VY.mp O
  have r:∀{f:List (List aP×V)} {l2:List (List aP×Addr×Value)},Paired (λ(p:List aP×V) (q:List aP×Addr×Value)=>p.1=q.1/\H q.2.1=some (.tup (p.1.map kV))/\RelV p.2 q.2.2) f l2->∀y∈l2,∃k:List aP,H y.2.1=some (.tup (k.map kV)):=by
   intro f l2 h
   induction h with
   |nil=>intro y t;cases t
   |cons h _ K=>
     intro y t;rcases VA.mp t with e|e
     ·subst e;exact⟨_,h.2.1⟩
     ·exact K y e
  obtain⟨k,hk⟩:=r g y t;obtain⟨its,_,⟨o,ho,hc,_⟩,_⟩:=I.tuple (a:=y.2.1) (xs:=k.map kV) (.inl (.inl hk));exact⟨y.2.1,o,rfl,ho,hc⟩
 have hk2:∀{f:List (List aP×V)} {l2:List (List aP×Addr×Value)},Paired (λ(p:List aP×V) (q:List aP×Addr×Value)=>p.1=q.1/\H q.2.1=some (.tup (p.1.map kV))/\RelV p.2 q.2.2) f l2->f.map (·.1)=l2.map (·.1):=by
  intro f l2 h
  induction h with
  |nil=>rfl
  |cons h _ K=>rw[Vr,Vr,h.1,K]
 have B:(R.toList.map (·.hash)).Nodup:=by
  rw[i,Wi]
  have e1:(l.map ((·.hash)∘entryOfKey (tupleKind (aG X.prog X.w))))=J.map cX:=by
   have e2:l.map (·.1)=J.map λk=>k.map Sum.inl:=by rw[<-hk2 g];exact hk
   have e3:l.map ((·.hash)∘entryOfKey (tupleKind (aG X.prog X.w)))=(l.map (·.1)).map (tupleKind (aG X.prog X.w)).hash:=by rw[Wi];rfl
   rw[e3,e2,Wi];exact WO λk _=>CB k
  rw[e1];exact hh
 refine wpAny_call_entry PySem.F.slot_dict_update ⟨od,c,A.1⟩ PySem.F.entry_dict_update ?_ (PySem.F.args_dict_update_2 _ _);have hTd:s.TypeIs (.ref d) "dict" := ⟨od,c,A.1⟩;have C:s.TypeIs (.ref b) "dict" := ⟨ob,M,L.1⟩;unfold Builtin.«dict.update»;refine wpAny_bind ?_;unfold Builtin.Dict.selfAndRest;refine wpAny_bind (wpAny_notOrdered_dict hTd ?_);show wpAny _ _ (pure (d,[Value.ref b])) _ _ s;refine wpAny_pure ?_;show wpAny _ _ (Builtin.Dict.updateFrom "dict.update" d (.ref b) [] .none) _ _ s;unfold Builtin.Dict.updateFrom;refine wpAny_bind (wpAny_typeOf C ?_);rw[if_neg (by decide)];refine wpAny_bind ?_;unfold Builtin.Dict.merge;refine wpAny_bind ?_;unfold Builtin.Dict.readDirectly;refine wpAny_bind (wpAny_isInstance C isSubtype_dict_dict ?_);simp only[Bool.not_true,Bool.false_eq_true,if_false];refine wpAny_bind (wpAny_specialOf C PySem.F.slot_dict_iter.lookup (wpAny_pure ?_));simp only[beq_self_eq_true,if_true];refine wpAny_bind (wpAny_pure ?_)
 have D:Paired (λ(p:List aP×V) (q:List aP×Addr×Value)=>p.1=q.1/\upd H d (.dT kvs) q.2.1=some (.tup (p.1.map kV))/\RelV p.2 q.2.2) kvs l:=by
  have r:∀{f:List (List aP×V)} {l2:List (List aP×Addr×Value)},Paired (λ(p:List aP×V) (q:List aP×Addr×Value)=>p.1=q.1/\H q.2.1=some (.tup (p.1.map kV))/\RelV p.2 q.2.2) f l2->
   Paired (λ(p:List aP×V) (q:List aP×Addr×Value)=>p.1=q.1/\upd H d (.dT kvs) q.2.1=some (.tup (p.1.map kV))/\RelV p.2 q.2.2) f l2:=by
   intro f l2 h
   induction h with
   |nil=>exact .nil
   |cons h _ K=>exact .cons ⟨h.1,by rw[aE (λz=>by have:=h.2.1;rw[z,hd]at this;cases this)];exact h.2.1,h.2.2⟩ K
  exact r g
 refine Fm W U c j ⟨ob,M,L,hdb⟩ tk (yo B) (by rw[m,<-n];exact z) (λez=>?_) ?_
 · show wpAny _ _ (Builtin.Dict.addKeywords d [] >>= _) _ _ _;have ey:kvs=[]:=V2.mp (by rw[n,<-m,ez];rfl);refine Vp (Vz (Vz ⟨.none,rfl,.non,H,I,rfl,?_⟩))
   have:upd H d (.dT kvs)=H:=by
    funext y;by_cases zy:y=d
    ·subst zy;rw[aM,ey,hd]
    ·exact aE zy
   rw[this]at q;exact q
 · show wpAny _ _ (Builtin.Dict.addKeywords d [] >>= _) _ _ _;refine Vp (Vz (Vz ⟨.none,rfl,.non,_,I.write (x:=d) (e:=d) (o:=.dT kvs) (t':=s.toks) (by rw[hd];trivial) (.inl rfl) (λy u t e=>?_) ⟨_,V6 _ c (WM (Wg j _))⟩ ?_,rfl,q⟩))
   ·exact(V3 _ _ (W6 t)).trans e
   ·exact⟨z,T,l,D,_,R,epd+1,V6 _ c (WM (Wg j _)),A.mapDictKeys _,Wg j _,i,Y⟩
end
section
variable{X:Cx}
def KA(b:TE):TE:=λZ H Q=>b Z H λx H1=>∃a kvs,x=.ref a/\Rd H1 a (.dK kvs)/\∀l,H1 l=none->Q (.ref l) (upd H1 l (.lst (kvs.map (·.2))))
theorem JG{kvs:List (aP×V)}{vs:List (aP×Value)}(r:KV kvs vs):Vals (kvs.map (·.2)) (vs.map (·.2)):=by
 induction r with
 |nil=>exact .nil
 |cons h _ a=>exact .cons h.2 a
theorem uL{x:Str}{o:Expr}{L:TE}{p ap m pos:Pos}(hc:X.calm=true)(hg:Gl X x)(hm:X.mg x=none)(U:bootBuiltins x=some (.type "list"))(V:PE X o L)
 (Y:x ≠ "__name__" := by decide) (J:(x==("__debug__" : Str))=false:=by decide)
 (k:attributeBase o "values" X.env (eval o X.env)=eval o X.env:=by rfl) (i:(ap.endLine==m.line)=true:=by rfl)
 (t:starEach [.Call (.Attribute o "values" ap) [] [] m] X.env=(false,eval (.Call (.Attribute o "values" ap) [] [] m) X.env)::starEach [] X.env:=by rfl):
 PE X (.Call (.Name x p) [.Call (.Attribute o "values" ap) [] [] m] [] pos) (KA L):=by
 intro G s Z H Q I h;refine WS (jP I hg hm U ?_ Y J);refine WP (e:= .Call (.Attribute o "values" ap) [] [] m) ?_ t rfl;rw[t];show wpAny _ _ (spliced ((false,eval (.Call (.Attribute o "values" ap) [] [] m) X.env)::backTo pos (starEach [] X.env))) _ _ s;refine Wh ?_;refine wpAny_Call_method0_late k i (bI (V G s Z H _ I h) λu c ⟨x1,H1,B,R,S⟩=>?_);obtain⟨a,kvs,rfl,N,q⟩:=S;have C:u=Value.ref a:=R;subst C;obtain⟨M,P,_⟩:=lO B (.inl ⟨kvs,N⟩);refine⟨"dict","dict.values",V1,Yc,PySem.F.type_dict_values,M,P,Wo rfl (PySem.evalArgs_none ?_)⟩;obtain⟨z,hd,vs,n,dd⟩:=kQ B.hok N;refine Xj Yc M PySem.F.entry_dict_values (PySem.F.args_dict_values_1 _) (meets_dict_values (aG X.prog X.w) a hd) ⟨⟨vs,dd⟩,?_⟩;refine WI ?_;obtain⟨ob,es,ep,y,T,A,hk,hp,E⟩:=id dd;have hla:a<c.heap.objs.size:=VB y
 refine PySem.W.kdl_call (s:={c with heap:=c.heap.push {cls:=.type "dict_values",data:=.fields #[.ref a]}}) (PySem.W.kdl_values (knd:=aG X.prog X.w) (d:=a) (r:=c.heap.objs.size) (kvs:=vs) (ep:=ep)) (B.ok.hd hc)
  ⟨⟨_,VN _ rfl,rfl,rfl⟩,ob,es,Vv _ y,T,A,hk,hp,E⟩ (by rw[<-n.length];exact z) λh' O g c' kp K f=>?_
 have D:∀b o,c.heap.get? b=some o->h'.get? b=some o:=λb o eb=>kp b o (Heap.get?_push_of_some _ eb);have l:g.toList=vs.map (·.2):=PySem.W.kdl_vals_eq _ (by rw[Array.length_toList,f.1]) λj v e=>f.2 j v (by rw[<-Array.getElem?_toList];exact e);have sz:(c.heap.push {cls:=.type "dict_values",data:=.fields #[.ref a]}).objs.size=c.heap.objs.size+1:=Heap.size_push ..;dsimp only at K;rw[sz]at K;show EP X G Z Q (.ref (c.heap.push {cls:=.type "dict_values",data:=.fields #[.ref a]}).objs.size) _;rw[sz];refine⟨.ref (c.heap.objs.size+1),_,B.laid (t':=O) D (Nat.le_succ _) ?_,rfl,q _ (B.hok.fresh (Nat.le_succ _))⟩;refine⟨by rw[List.length_map];exact z,g.toList,c',by rw[l];exact JG n,?_⟩;rw[Array.toArray_toList];exact K
theorem CQ:dR X (.builtin "len") (λxs H Q=>∃a kvs,xs=[V.ref a]/\Rd H a (.dT kvs)/\Q (.int kvs.length) H):=by
 intro G s Z H xs us Q I r h;obtain⟨a,kvs,rfl,v,q⟩:=h;obtain⟨u,rfl,p⟩:=zc r;cases p;obtain⟨z,hd,i,f,o,l,ep,k,t,d,g,_⟩:=(show ObjOk X.prog X.w H s.heap a (.dT kvs) from v.ok I.hok);have c:kvs.length=i.length:=WC f
 have b:l.size=i.length:=by
  have e:=congrArg List.length g
  rwa [Vs,V8]at e
 have j:s.TypeIs (.ref a) "dict" := ⟨o,k,t.1⟩;refine Calls.call_function_entry kind_len plain_len entry_len (args_len1 _) ?_;unfold Builtin.«len»;refine wpAny_bind (m:=oneArg "len" _) (wpAny_pure ?_)
 refine Vp (m:=callSpecial? (.ref a) (Str.ofString "__len__")) (wpAny_callSpecial?_slot (name:=Str.ofString "__len__") j YB
  (wpAny_call_entry YB j PySem.F.entry_dict_len ?_ (PySem.F.args_dict_len_1 _)))
 show wpAny _ _ (dictSize a >>= _) _ _ s;unfold dictSize;refine wpAny_bind (wpAny_bind (wpAny_dictEntries k d (wpAny_pure ?_)));show wpAny _ _ (Builtin.Dict.pendingCount a >>= _) _ _ s;refine wpAny_bind (wpAny_pendingCount_other hd ?_);refine wpAny_ret_mkInt ?_;have x:((l.size:Int)+((0:Nat):Int))=(kvs.length:Int):=by rw[b,<-c];simp
 first | rw[x] | (rw[Nat.add_zero,b,<-c])
 refine Vp (WQ (Vz ?_));refine Vp (Xv ?_);have n:=z;rw[YG]at n;show wpAny _ _ (if ((kvs.length:Nat):Int)<0 then _ else _) _ _ _;rw[on (by omega)];show wpAny _ _ (if ((kvs.length:Nat):Int)>=2 ^ 63 then _ else _) _ _ _;rw[on (by omega)];exact Vp (wpAny_mkInt (Vz ⟨_,rfl,.int kvs.length,H,(I.tok _),⟨_,rfl⟩,q⟩))
def Dg(d:TE)(g:TG)(tb:TS):TS:=λD Z H=>d Z H λx H1=>∃a kvs,x=.ref a/\Rd H1 a (.dT kvs)/\(kvs=[]->D.nx Z H1)/\
 ∀k v r b,kvs=(k,v)::r->H1 b=some (.tup (k.map kV))->g (.ref b) Z H1 λc e=>tb {D with nx:=λ_ _=>False,ct:=λ_ _=>False,bk:=D.nx} c e
theorem EA{S iter:Expr}{body:List Stmt}{T:TE}{g:TG}{tb:TS}{pos:Pos}(hp:PassesOwn (model X.prog X.w) X.A X.env X.xe)(hc:X.calm=true)(hl:PE X iter T)(hg:PG X S g)(J:PSs X body tb)
 (hs:∀x,foldedSetIterable iter X.env x=pure x:=by intro _;rfl):PS X (.For S iter body [] pos) (Dg T g tb):=by
 intro G s Z H D I h;refine wpAny_For (bI (hl G s Z H _ I h) λv i ⟨x,H1,N,r1,q1⟩=>?_) hs;obtain⟨a,kvs,rfl,ha,q0,q⟩:=q1;cases r1;obtain⟨z,hd,M,t,o,j,ep,W,V,r,E,hnd⟩:=(show ObjOk X.prog X.w H1 i.heap a (.dT kvs) from ha.ok N.hok);have p:kvs.length=M.length:=WC t
 have m:j.size=M.length:=by
  have e:=congrArg List.length E
  rwa [Vs,V8]at e
 refine nv hd ⟨o,W,V,r⟩ ?_;have R:Inv X G Z H1 {i with heap:=i.heap.push {cls:=.type "dict_keyiterator",data:=.fields #[.ref a,.int 0 0,.int j.size 0,.int ep 0]}}:=N.kept (t':=i.toks) λb o e=>Vv _ e;have hf:=N.fpOk (VE _) (N.hok.fresh (VE _));have u:(i.heap.push {cls:=.type "dict_keyiterator",data:=.fields #[.ref a,.int 0 0,.int j.size 0,.int ep 0]}).IsKeyIter i.heap.objs.size a 0 j.size ep:=⟨_,VN _ rfl,rfl,rfl⟩;have B:RawD (i.heap.push {cls:=.type "dict_keyiterator",data:=.fields #[.ref a,.int 0 0,.int j.size 0,.int ep 0]}) a j ep:=⟨o,Vv _ W,V,r⟩;obtain⟨f0,f1,f2,f3,f4,Y⟩:=hf;refine codeAny_forLoop_any (λ_ s'=>s'={i with heap:=i.heap.push {cls:=.type "dict_keyiterator",data:=.fields #[.ref a,.int 0 0,.int j.size 0,.int ep 0]}}) ?_ 0 rfl;rintro n s3 rfl;cases kvs with
 |nil=>
   have e0:j.size=0:=by rw[m,<-p];rfl
   rw[e0]at u;refine Wj hp (sf (s:={i with heap:=_}) (R.ok.hd hc) (by rw[e0];exact u) B λh' eb=>?_);exact Xr ⟨Z,H1,R.turned (t':=i.toks) (λb o J e=>eb b o J e) f0 f1 f3 f4 Y,q0 rfl⟩
 |cons U kvs=>
   cases M with
   |nil=>cases p
   |cons y M=>
     cases t with
     |cons hy t=>
       have C:0<j.size:=by rw[m];exact Nat.succ_pos _
       refine Wj hp (nw (s:={i with heap:=_}) u B C λh' P sb=>?_)
       have ek:j[0].key=.ref y.2.1:=by
        have F:j.toList[0]?=some j[0]:=by rw[WV];exact Wp C
        rw[E]at F;have ee:entryOfKey (tupleKind (aG X.prog X.w)) y=j[0]:=VO F;rw[<-ee,lM]
       rw[ek];have I3:Inv X G Z H1 {i with heap:=h'}:=R.turned (t':=i.toks) (λb o J e=>(sb.2 b J).trans e) f0 f1 f3 f4 Y;obtain⟨oi,e,c,d⟩:=id P;refine Wj hp (Aw (s:={i with heap:=h'}) e c d (by decide) ?_);refine Wj hp (bI (hg G _ Z H1 (.ref y.2.1) (.ref y.2.1) _ I3 rfl (q U.1 U.2 kvs y.2.1 rfl hy.2.1)) λ_ s6 ⟨O,H6,I6,q6⟩=>?_);refine Wj hp (bI (J _ s6 O H6 _ I6 q6) λf s7 l=>?_);cases f with
       |next=>obtain⟨k,L,K,Q⟩:=l;exact Q.elim
       |cont=>obtain⟨k,L,K,Q⟩:=l;exact Q.elim
       |brk=>obtain⟨k,L,K,l⟩:=l;exact⟨k,L,K,l⟩
       |ret v=>obtain⟨x7,k,L,K,r7,l⟩:=l;exact⟨x7,k,L,K,r7,l⟩
end
end L2
namespace Mi
open PySem L2
section
variable{Y:Cm}{E:XK}{T:List Md}{K:F0}{B U H:Hp}{As:Nat->List Addr}{Z:St}{M:Tp}{t:TE}{get:Tp->Option D}{set:Tp->D->Tp}
def Rl(get:Tp->Option D):Tp->Res D:=λM=>match get M with|some d=>.ok d|none=>.bad
theorem Rr{i:Nat}(p:Prt Y T t get set i (.ct .fz)):PJ Y (KC Y .F) E T t (Rl get):=by
 intro B U As Z H M Q R P;unfold Rl at P;cases e:get M with
 |none=>rw[e]at P;exact P.elim
 |some d=>
   rw[e]at P;obtain⟨sh,c,d0,v,L,A,k,g,f,hd,h,b,a,j⟩:=p.rd R e;exact b _ (P v B U H [] R (Gw.refl _ _ _) New.nil (Ow.cn R.bh a))
def C7:D->Res D | .dK _ vs=>.ok (.lst vs)|_=>.bad
theorem M7{b:TE}{c:Tp->Res D}(e:PJ Y (KC Y .F) E T b c):PJ Y (KO Y (.ct .fz)) E T (KA b) (un C7 c):=by
 intro B U As Z H M Q R P;refine e.bnd R P λx v I U1 H1 L _ i e1 j h W=>?_;cases x with
 |dK k ds=>
   obtain⟨a,kvs,rfl,g,m,f⟩:=h;exact⟨a,kvs,rfl,.inl g,λl d=>fi i W f d⟩
 |_=>exact W.elim
def OV:D->Res D | .dT a _=>.ok (.int a.length)|_=>.bad
theorem Nd{c:TE}{d:Tp->Res D}(f:PJ Y (KR Y .X) E T c d):PJ Y (KR Y .F) E T (Ie (λxs H Q=>∃a kvs,xs=[V.ref a]/\Rd H a (.dT kvs)/\Q (.int kvs.length) H) (bL c dh)) (un OV d):=by
 intro B U As Z H M Q R P;refine f.bnd R P λx v I U1 H1 L _ i e1 j b W=>?_;cases x with
 |dT e ds=>
   have b:Dn Y H1 (.dT e ds) v:=b;rw[Dn]at b;obtain⟨a,kvs,rfl,h,g,k⟩:=b;refine⟨a,kvs,rfl,h,?_⟩
   have:kvs.length=e.length:=by rw[<-g,Vs]
   rw[this];exact W _ I U1 H1 [] i (Gw.refl _ _ _) New.nil (by show Dn Y I (.int _) _;rw[Dn])
 |_=>exact W.elim
def iA:List aP->List D->aP->List aP×List D
 |k::a,d::ds,j=>if k=j then iA a ds j else (k::(iA a ds j).1,d::(iA a ds j).2)
 |_,_,_=>([],[])
theorem rn{G:Hp}{k:aP}:∀{kvs:List (aP×V)} {ds:List D},Dns Y G ds (kvs.map (·.2))->(fo kvs k).map (·.1)=(iA (kvs.map (·.1)) ds k).1/\Dns Y G (iA (kvs.map (·.1)) ds k).2 ((fo kvs k).map (·.2))
 | [],ds,h=>by
   cases ds<;>exact⟨rfl,by show Dns Y G [] [];rw[Dns]⟩
 | p::kvs,ds,h=>by
   cases ds with
   |nil=>rw[Dns]at h;cases h
   |cons d ds=>
     rw[List.map_cons,Dns]at h;obtain⟨y,r,e,f,c⟩:=h;cases e;obtain⟨b,a⟩:=rn (k:=k) c;unfold fo at b a ⊢;rw[List.map_cons,List.filter_cons,iA];by_cases q:p.1=k
     ·rw[on (by simp[q]),Vq q];exact⟨b,a⟩
     ·rw[Vq (by simpa using q),on q];refine⟨by rw[Vr,b],?_⟩;rw[Vr,Dns];exact⟨_,_,rfl,f,a⟩
def mF(set:Tp->D->Tp)(M:Tp)(a:List aP)(vs:List D)(k:aP):Out D:=match bF a vs k with
 |some y=>.ok y (set M (.dK (iA a vs k).1 (iA a vs k).2))
 |none=>.ok .non M
def rs(get:Tp->Option D)(set:Tp->D->Tp)(mk:Tp->Res D):Tp->Out D:=λM=>match get M with
 |some (.dK a vs)=>((mk M).up M).bind λk M=>(match fk k with|some k=>mF set M a vs k|none=>.bad)
 |_=>.bad
theorem Ah{z:TE}{mk:Tp->Res D}(p:Pth Y T t get set)(V:PJ Y (KR Y .X) E T z mk):MJ Y (KR Y .F) E T (Di t z (tC .non)) (rs get set mk):=by
 intro B U As Z H M Q R P;unfold rs at P;cases e:get M with
 |none=>rw[e]at P;exact P.elim
 |some d=>
   obtain⟨v,A,S,K,hA,cl⟩:=p.rd R e;cases d with
   |dK n vs=>
     rw[e]at P;replace P:Mo Y (KR Y .F) E T B U Z (((mk M).up M).bind λk M=>(match fk k with|some k=>mF set M n vs k|none=>.bad)) Q:=P;obtain⟨a,kvs,rfl,C,h2,rfl,W⟩:=K.dK rfl;refine S _ ⟨a,rfl,.inl ⟨kvs,.inl C⟩,V B U As Z H M _ R ?_⟩;cases s:mk M with
     |exc c=>rw[s]at P;exact λI U1 H1 m f=>P I U1 As H1 m f.toEx
     |bad=>rw[s]at P;exact P.elim
     |ok o=>
       rw[s]at P;intro u I U1 H1 N m f n1 q;have q:Dn Y H1 o u:=q;replace P:Mo Y (KR Y .F) E T B U Z (match fk o with|some k=>mF set M n vs k|none=>.bad) Q:=P;cases x:fk o with
       |none=>rw[x]at P;exact P.elim
       |some k=>
         rw[x]at P;replace P:Mo Y (KR Y .F) E T B U Z (mF set M n vs k) Q:=P;have j:Dns Y I vs (kvs.map (·.2)):=W.mono f.b;have i:=gN (Y:=Y) (G:=I) k j;subst h2;unfold mF at P;refine⟨kvs,k,f.h _ _ C,og x q,λv g=>?_,λg=>?_⟩
         · cases l:bF (kvs.map (·.1)) vs k with
           |none=>rw[l]at i;rw[show cY kvs k=none from i]at g;cases g
           |some y=>
             rw[l]at i P;obtain⟨w,r,J⟩:=i;rw[r]at g;cases g;obtain⟨O,L⟩:=rn (Y:=Y) (G:=I) (k:=k) j;refine P _ I U1 As _ [] (cl I U1 H1 m f.b f.h a Vu _ _ ?_) f.toEx NewM.nil J;rw[<-O];exact Ow.dK' aM L
         · cases l:bF (kvs.map (·.1)) vs k with
           |some y=>rw[l]at i;obtain⟨w,r,J⟩:=i;rw[r]at g;cases g
           |none=>
             rw[l]at P;exact P .non I U1 As H1 [] m f.toEx NewM.nil (by show Dn Y I .non .non;rw[Dn])
   |_=>rw[e]at P;exact P.elim
def Io(set:Tp->D->Tp)(M:Tp):D->Out D
 |.dT b vs=>(match i4 (b.map λk=>.tup (k.map kD)) with|some a=>(if (a.map cX).Nodup/\vs.all bx=true then .ok .non (set M (.dT b vs)) else .bad)|none=>.bad)
 |_=>.bad
def ut(get:Tp->Option D)(set:Tp->D->Tp)(me:Tp->Res D):Tp->Out D:=λM=>match get M with
 |some (.dT [] _)=>((me M).up M).bind λd M=>Io set M d
 |_=>.bad
theorem kA{te:TE}{me:Tp->Res D}(p:Pth Y T t get set)(X:PJ Y (KR Y .U) E T te me):MJ Y (KR Y .F) E T (L3 K "dict" Rm t (bL te dh)) (ut get set me):=by
 intro B U As Z H M Q R P;unfold ut at P;cases e:get M with
 |none=>rw[e]at P;exact P.elim
 |some d=>
   obtain⟨v,A,W,V,hA,cl⟩:=p.rd R e;cases d with
   |dT l vs=>
     cases l with
     |cons _ _=>rw[e]at P;exact P.elim
     |nil=>
       rw[e]at P;replace P:Mo Y (KR Y .F) E T B U Z (((me M).up M).bind λd M=>Io set M d) Q:=P;obtain⟨a,kvs,rfl,O,h2,rfl,h3⟩:=V.dT rfl;have y:kvs=[]:=List.map_eq_nil_iff.mp h2;subst y;refine W _ ⟨.inr (.inr (.inl ⟨rfl,.inr ⟨_,O⟩⟩)),X B U As Z H M _ R ?_⟩;cases J:me M with
       |exc c=>rw[J]at P;exact λI U1 H1 n j=>P I U1 As H1 n j.toEx
       |bad=>rw[J]at P;exact P.elim
       |ok x=>
         rw[J]at P;intro u I U1 H1 N n j n1 r;have r:Dn Y U1 x u:=r;replace P:Mo Y (KR Y .F) E T B U Z (Io set M x) Q:=P;cases x with
         |dT l ds=>
           replace P:Mo Y (KR Y .F) E T B U Z (match i4 (l.map λk=>.tup (k.map kD)) with|some f=>(if (f.map cX).Nodup/\ds.all bx=true then .ok .non (set M (.dT l ds)) else .bad)|none=>.bad) Q:=P;cases L:i4 (l.map λk=>.tup (k.map kD)) with
           |none=>rw[L]at P;exact P.elim
           |some f=>
             rw[L]at P;dsimp only at P;by_cases z:(f.map cX).Nodup/\ds.all bx=true
             · rw[Vq z]at P;rw[Dn]at r;obtain⟨b,s,rfl,g,m,C⟩:=r;have ek:=Gk L;obtain⟨i,G⟩:=hA a Vu;have S:=n.un i a G
               have w:a≠b:=λq=>by
                subst q;rcases g with g|⟨o,g⟩<;>(rw[S]at g;cases g)
               refine⟨a,b,s,f,rfl,rfl,j.h _ _ O,kg n.uh g,w,by rw[m,ek],z.1,?_⟩;refine P .non I U1 As _ [] (cl I U1 H1 n j.b j.h a Vu _ _ ?_) j.toEx NewM.nil (by show Dn Y I .non .non;rw[Dn]);rw[<-m];exact Ow.dT' aM (fe z.2 C)
             ·rw[on z]at P;exact P.elim
         |_=>exact P.elim
   |_=>rw[e]at P;exact P.elim
def Qt(c:Nat)(f:Str)(i:Nat)(g:List D->Out D)(a b:Tp->Res D)(x:Tp->Out D):Tp->Out D:=λM=>match rg M i with
 |none=>.bad
 |some o=>if bH c f o=true then ((a M).up M).bind λy M=>((b M).up M).bind λz M=>(x M).bind λw d=>(match rg d i with|some e=>cC [.O i,.F,.F,.F] g [e,y,z,w] d|none=>.bad) else .bad
theorem JB{c:Nat}{C:Str}{p:List Md}{j:KT D V}{m:List D->Out D}{i:Nat}{ta tb tx:TE}{G x:Tp->Res D}{n:Tp->Out D}(ha:PJ Y (KR Y .F) E T ta G)(hb:PJ Y (KR Y .F) E T tb x)(hx:MJ Y (KR Y .F) E T tx n)
 (hf:fitM T [.O i,.F,.F,.F] p) (hU:∀d v B U J H N,j d v B U H N->j d v B J H N):MJ Y j E T (iL (Y c) C (wN Y p j m) [] E (dD i) (bL ta (bL tb (bL tx dh)))) (Qt c C i m G x n):=by
 intro B U As Z H M Q R P;unfold Qt at P;cases e:rg M i with
 |none=>rw[e]at P;exact P.elim
 |some o=>
   rw[e]at P;dsimp only at P;by_cases z:bH c C o=true
   · rw[Vq z]at P;have l:=R.lo i;rw[e]at l;obtain⟨v0,h,_⟩:=l;refine⟨v0,ci h,?_⟩;obtain⟨a,dx,fs,rfl,h1,h2⟩:=jm z (R.read h e);refine⟨a,dx,fs,rfl,h1,h2,ha B U As Z H M _ R ?_⟩;cases e1:G M with
     |bad=>rw[e1]at P;exact P
     |exc c=>rw[e1]at P;exact λI U1 H1 R1 t=>P I U1 As H1 R1 t.toEx
     |ok y=>
       rw[e1]at P;intro v1 I U1 H1 L R1 t n1 d1;refine hb I U1 As Z H1 M _ R1 ?_;replace P:Mo Y j E T B U Z (((x M).up M).bind λz M=>(n M).bind λw f=>(match rg f i with|some g=>cC [.O i,.F,.F,.F] m [g,y,z,w] f|none=>.bad)) Q:=P;cases W:x M with
       |bad=>rw[W]at P;exact P
       |exc c=>rw[W]at P;exact λA U2 H2 R2 s=>P A U2 As H2 R2 (t.toEx.trans s.toEx)
       |ok z=>
         rw[W]at P;intro v2 A U2 H2 N2 R2 s n2 d2;refine hx A U2 As Z H2 M _ R2 ?_;replace P:Mo Y j E T B U Z ((n M).bind λw f=>(match rg f i with|some g=>cC [.O i,.F,.F,.F] m [g,y,z,w] f|none=>.bad)) Q:=P;cases S:n M with
         |bad=>rw[S]at P;exact P
         |exc c f=>rw[S]at P;exact λB3 U3 u H3 R3 q=>P B3 U3 u H3 R3 ((t.toEx.trans s.toEx).trans q)
         |ok w f=>
           rw[S]at P;replace P:Mo Y j E T B U Z (match rg f i with|some g=>cC [.O i,.F,.F,.F] m [g,y,z,w] f|none=>.bad) Q:=P;intro v3 B3 U3 u H3 N3 R3 q n3 X;cases K:rg f i with
           |none=>rw[K]at P;exact P.elim
           |some g=>
             rw[K]at P;dsimp only at P;have d1:Dn Y I y v1:=d1;have d2:Dn Y A z v2:=d2;have X:Dn Y B3 w v3:=X;refine lh (ps:=[.O i,.F,.F,.F]) (ds:=[g,y,z,w]) (vs:=[.ref a,v1,v2,v3]) R3 ?_ hf (by simp[dG]) (λk hk=>by simp[j5]at hk) hU (Mo.at (r:=cC [.O i,.F,.F,.F] m [g,y,z,w] f) P ((t.toEx.trans s.toEx).trans q));exact⟨g,_,_,_,rfl,rfl,⟨h,K⟩,y,_,_,_,rfl,rfl,Dn.mono (s.b.trans q.b) d1,z,_,_,_,rfl,rfl,Dn.mono q.b d2,w,_,_,_,rfl,rfl,X,rfl,rfl⟩
   ·rw[on z]at P;exact P.elim
theorem Jt{c:Nat}{f:Str}{a:List Md}{k:List D->Out D}{i:Nat}{d tb b:TE}{j g:Tp->Res D}{e:Tp->Out D}(o:PJ Y (KR Y .F) E0 T d j)(n:PJ Y (KR Y .F) E0 T tb g)(l:MJ Y (KR Y .F) E0 T b e)
 (m:fitM T [.O i,.F,.F,.F] a):MJ Y (KR Y .F) E0 T (iL (Y c) f (dU Y a (KR Y .F) k) [] E0 (dD i) (bL d (bL tb (bL b dh)))) (Qt c f i k j g e):=JB o n l m λ_ _ _ _ _ _ _ h=>h
end
section
variable{Y:Cm}{E:XK}{Kr:KT D V}{pr:Nat->Bool}{T:List Md}{K:F0}{B U H:Hp}{As:Nat->List Addr}{Z:St}{M:Tp}
def oz(c:Nat)(f:Str)(i j:Nat):Tp->SO:=λM=>match rg M i with
 |none=>.bad
 | some d=>(match bQ c f d with
   |.ok (.dT [] _)=>.nx M
   |.ok (.dT (k::_) _)=>if j<M.length then .rt (.tup (k.map kD)) (M.set j (some (.tup (k.map kD)))) else .bad
   |_=>.bad)
theorem IW{i j c:Nat}{f:Str}(hc:Cls K (Y c))(hn:NoAttr K (Y c) f)(hm:T.getD i .F= .R)(hj:T.getD j .F= .F)(hp:pr j=false):
 SJ Y E (KR Y .F) pr T (Dg (qp K (dD i) f) (fE j) (L1 (dD j))) (oz c f i j):=by
 intro B U As Z H M D R P;have l:=R.lo i;rw[hm]at l;unfold oz at P;cases e:rg M i with
 |none=>rw[e]at P;exact P.elim
 |some d0=>
   rw[e]at P l;dsimp only at P;obtain⟨W,A,p⟩:=l;have p:Dn Y U d0 W:=p.1;cases s:bQ c f d0 with
   |bad=>rw[s]at P;exact P.elim
   |exc x=>exact(kM s).elim
   |ok d=>
     rw[s]at P;obtain⟨ns,vs,rfl,X⟩:=m9 s;rw[Dn]at p;obtain⟨b,dx,fs,rfl,hb,G,w⟩:=p;subst G;obtain⟨x,hx,n⟩:=kB w X;cases d with
     |dT u ds=>
       rw[Dn]at n;obtain⟨a,kvs,rfl,C,h,_⟩:=n;refine⟨.ref b,ci A,b,_,dx,fs,.ref a,rfl,R.uh _ _ hb,hc,hn,hx,a,kvs,rfl,kg R.uh C,λL=>?_,λk v r y L Q=>?_⟩
       · subst L;cases u with
         |cons _ _=>cases h
         |nil=>exact P Z B U As H R (Ex.refl _ _) (Kp.refl _ _)
       · subst L;cases u with
         |nil=>cases h
         |cons k' u=>
           have J:k=k':=by injection h
           subst J;replace P:So Y E (KR Y .F) pr T B U Z (if j<M.length then .rt (.tup (k.map kD)) (M.set j (some (.tup (k.map kD)))) else .bad) D:=P;by_cases m:j<M.length
           case neg=>rw[on m]at P;exact P.elim
           rw[Vq m]at P;have g:∀z∈[y],∃q,H z=some q/\fD q:=λz hz=>by rw[VG.mp hz];exact⟨_,Q,_,rfl⟩
           have R2:Rel Y T (Mi.frz B H [y]) (Mi.frz U H [y]) As Z H M:=R.grow (bO R.bh) (bO R.uh) (Same.refl _) (kL R.bu) (m8 R.uh) λi a S=>by
            unfold Mi.frz;split
            ·rename_i z;obtain⟨o,e,t⟩:=g a z;exact(R.nt S e t).elim
            ·exact R.un i a S
           have V:Dn Y (Mi.frz B H [y]) (.tup (k.map kD)) (.ref y):=by
            rw[Dn];refine⟨y,_,rfl,?_,tm k⟩;unfold Mi.frz;rw[if_pos (List.mem_singleton.mpr rfl)];exact Q
           have ex:Ex B U (Mi.frz B H [y]) (Mi.frz U H [y]):=⟨bO R.bh,bO R.uh,λa o q=>by
            unfold Mi.frz at q;split at q
            ·rename_i z;obtain⟨o',e,t⟩:=g a z;rw[e]at q;cases q;exact .inr (.inr t)
            ·exact .inl q⟩
           obtain⟨O,R3⟩:=R2.store (i:=j) (d:=.tup (k.map kD)) (v:=.ref y) (N:=[]) NewM.nil (by rw[hj];exact⟨_,rfl,V,rfl⟩);have I:j<Z.length:=by rw[<-R.len];exact m
           refine⟨.ref y,?_,P (.ref y) _ _ _ O H [] R3 ex (Kp.set hp) NewM.nil V⟩;rw[Xx I]
     |_=>exact P.elim
theorem Rg{i:Nat}{te:TE}{me:Tp->Res D}(p:PJ Y (KR Y .X) E T te me)(n:T.getD i .F= .F)(hp:pr i=false):SJ Y E Kr pr T (QN i te (ipI λi j=>i+j)) (bN i (aQ (bn j7 (vr i) me))):=by
 intro B U As Z H M D R P;unfold bN aQ bn vr at P;have l:=R.lo i;cases e:rg M i with
 |none=>rw[e]at P;exact P.elim
 |some d=>
   rw[e]at P l;rw[n]at l;obtain⟨v,o,w⟩:=l;have w:Dn Y B d v:=w.1;refine⟨v,ci o,p B U As Z H M _ R ?_⟩;cases h:me M with
   |bad=>simp[h]at P;exact P.elim
   |exc c=>simp[h]at P;exact λI U1 H1 k g=>P Z I U1 As H1 k g.toEx (Kp.refl _ _)
   |ok y=>
     intro u I U1 H1 N k g r f;have f:Dn Y H1 y u:=f;simp only[Res.bind,h]at P;cases d with
     |int a=>
       cases y with
       |int b=>
         rw[Dn]at w f;refine⟨a,b,w,f,?_⟩;obtain⟨m,q⟩:=k.store (i:=i) (d:=.int (a+b)) (v:=.int (a+b)) (N:=[]) NewM.nil (by rw[n];exact⟨_,rfl,by rw[Dn],rfl⟩);exact P _ I U1 m H1 q g.toEx (Kp.set hp)
       |_=>exact P.elim
     |_=>exact P.elim
theorem ET{s:Sh}{wi:TI}{ix:List Nat}{ti:TT}{te:TE}{src:Tp->Res (List D)}{mi:Tp->Res Bool}{me:Tp->Res D}(hs:PJ Y (KI Y .F .X) E T wi src)(hix:ix.Nodup)(hti:PJ Y KB E0 (lI .F T ix) ti mi)(hte:PJ Y (KO Y s) E0 (lI .F T ix) te me):
 PJ Y (KO Y (.ct s)) E T (lZ wi ix ti te) (je src ix mi me):=by
 intro B U As Z H M Q R P;refine hs.bnd R P λds J I U1 H1 L _ R1 e1 n1 ⟨vs,hJ,hd⟩ W p hp=>?_;have hd:Dns Y I ds vs:=hd;by_cases z:ds.length<aq
 · rw[Vq z]at W;have hvl:ds.length=vs.length:=hd.len;have hpA:∀i,p∉As i:=λi=>R1.fresh hp i
   refine⟨λi m t H2=>i<=ds.length/\m=ds.length-i/\H2 p=some (.lst t)/\t.length<=i/\∃B2 O l N,Rel Y T B2 O As Z H2 M/\Gw I U1 H1 B2 O H2/\O p=none/\p∉N/\New N H1 O As/\Ows Y B2 H2 l s t N/\
    Po Y (KO Y (.ct s)) E T I U1 As Z H1 M ((bG mi me (eF M ix) (ds.drop i)).bind λr=>.ok (.lst (l++r))) Q,⟨ds.length,WD _,rfl,aM,VE _,I,U1,[],[],R1.new hp,Gw.newO R1 hp,R1.uh.free hp,by simp,New.nil,by rw[Ows];exact⟨rfl,rfl⟩,W⟩,?_⟩
   rintro i m t H2 ⟨hi,rfl,hy,hle,B2,O,l,N,R2,g2,u2,pN,nN,dz,k⟩;have S:=hJ H2 g2.h;refine⟨hy,W9 hle (fJ (Wx (W9 hi z))),?_⟩;by_cases hlt:i<ds.length
   · refine .inr ⟨S.2.1 i (by omega),λv H3 hyl=>?_⟩;obtain⟨rfl,ev⟩:=S.2.2 i v H3 (by omega) hyl;obtain⟨d,ed,dd⟩:=hd.geti ev;rw[lT ed,bG]at k;have RI:=R2.inner (m:= .F) hix (Ta R2.bu R2.uh (Dn.mono g2.b dd));refine hti B2 O _ _ H3 _ _ RI ?_
     -- what an inner step leaves
     have n:∀{G f A:Hp} {a:Addr} {o1:HO},Same f A->Gw B2 O H3 G f A->O a=none->H3 a=some o1->¬ fD o1->f a=none:=λ{G f A a o1} uh g h1 h2 h3=>by
      cases q:f a with
      |none=>rfl
      |some o=>
        rcases g.fr a o q with z|z|z
        ·rw[h1]at z;cases z
        ·rw[h2]at z;cases z
        ·have:=uh a o q;rw[g.h _ _ h2]at this;cases this;exact(h3 z).elim
     have relU:∀{G f A:Hp},Same G f->Same f A->Gw B2 O H3 G f A->Rel Y T G f As Z A M:=λ{G f A} bu uh g=>R2.grow g.b g.u g.h bu uh λj a C=>by
      obtain⟨o',q',nt⟩:=(R2.lo j).at2 C;exact n uh g (R2.un j a C) q' nt
     have nU:∀{G f A:Hp},Same f A->Gw B2 O H3 G f A->New N H1 f As:=λ{G f A} uh g=>⟨nN.nd,nN.fr,λa C=>by
      obtain⟨o',q',nt⟩:=Ows.at2 dz C
      exact n uh g (nN.un a C) q' nt⟩
     have dzU:∀{G f A:Hp},Gw B2 O H3 G f A->Ows Y G A l s t N:=λ{G f A} g=>Ows.mono g.b (λa C=>by
      obtain⟨o',q',nt⟩:=Ows.at2 dz C
      rw[q',g.h _ _ q']) dz
     have pt:¬ fD (.lst t):=λ⟨_,z⟩=>by cases z
     cases eb:mi (some d::eF M ix) with
     |bad=>rw[eb]at k;exact k.elim
     |exc c=>rw[eb]at k;exact k.elim
     |ok c=>
       rw[eb]at k;intro b G f A N3 R3' g3 n3 hb;cases hb;cases c with
       |false=>
         rw[on VD];exact⟨ds.length-(i+1),by omega,hlt,rfl,g3.h _ _ hy,by omega,G,f,l,N,relU R3'.bu R3'.uh g3,g2.trans g3,n R3'.uh g3 u2 hy pt,pN,nU R3'.uh g3,dzU g3,k⟩
       |true=>
         rw[Vq rfl];refine hte G f _ _ A _ _ R3' ?_;replace k:Po Y (KO Y (.ct s)) E T I U1 As Z H1 M (((me (some d::eF M ix)).calm.bind λx=>(bG mi me (eF M ix) (ds.drop (i+1))).bind λxs=>.ok (x::xs)).bind λr=>.ok (.lst (l++r))) Q:=k;cases ee:me (some d::eF M ix) with
         |bad=>rw[ee]at k;exact k.elim
         |exc c=>rw[ee]at k;exact k.elim
         |ok x=>
           rw[ee]at k;intro y B4 U4 H5 N4 R4' g4 n4 hx;have hx:Ow Y B4 H5 x s y N4:=hx;have K:=g3.trans g4;have y5:H5 p=some (.lst t):=K.h _ _ hy;have pN4:p∉N4:=λhm=>by have:=n4.fr p hm;rw[g3.h _ _ hy]at this;cases this
           have up4:=n R4'.uh K u2 hy pt;have nN4:=nU R4'.uh K;have R4:=relU R4'.bu R4'.uh K
           have g5:Gw I U1 H1 B4 U4 (upd H5 p (.lst (t++[y]))):=by
            have g:=g2.trans K;exact⟨g.toEx,λa o q=>by rw[aE (br q hp)];exact g.h a o q,g.fr⟩
           refine⟨y5,ds.length-(i+1),by omega,hlt,rfl,aM,by rw[Vy,Xe];omega,B4,U4,l++[x],N++N4,R4.poke up4 hpA,g5,up4,?_,?_,?_,?_⟩
           · intro hm;rcases VH.mp hm with h|h
             ·exact pN h
             ·exact pN4 h
           · refine⟨VZ.mpr ⟨nN.nd,n4.nd,λa C c hc e=>?_⟩,λa C=>?_,λa C=>?_⟩
             · obtain⟨o',q',nt⟩:=Ows.at2 dz C
               have:=n4.fr c hc
               rw[<-e,g3.h _ _ q']at this;cases this
             · rcases VH.mp C with h|h
               ·exact nN.fr a h
               ·exact(g2.h.trans g3.h).free (n4.fr a h)
             · rcases VH.mp C with h|h
               ·exact nN4.un a h
               ·exact n4.un a h
           · have app:∀{l:List D} {t:List V} {N:List Addr},Ows Y B4 H5 l s t N->p∉N->Ows Y B4 (upd H5 p (.lst (t++[y]))) l s t N->True:=λ_ _ _=>trivial
             have key:∀{H6:Hp} {l:List D} {t:List V} {N:List Addr},Ows Y B4 H6 l s t N->Ow Y B4 H6 x s y N4->Ows Y B4 H6 (l++[x]) s (t++[y]) (N++N4):=by
              intro H6 l
              induction l with
              |nil=>
                intro t N h w;rw[Ows]at h;obtain⟨rfl,rfl⟩:=h;show Ows Y B4 H6 [x] s [y] N4;rw[Ows];exact⟨y,[],N4,[],rfl,by simp,w,by rw[Ows];exact⟨rfl,rfl⟩⟩
              |cons z l ih=>
                intro t N h w;rw[Ows]at h;obtain⟨u,r,A1,A2,rfl,rfl,h1,h2⟩:=h;show Ows Y B4 H6 (z::(l++[x])) s (u::(r++[y])) _;rw[Ows];exact⟨u,r++[y],A1,A2++N4,rfl,by rw[Ws],h1,ih h2 w⟩
             exact key (Ows.mono (Same.refl _) (λa C=>aE (λe:a=p=>pN (e▸C))) (dzU K)) (Ow.mono (Same.refl _) (λa C=>aE (λe:a=p=>pN4 (e▸C))) hx)
           · cases eg:bG mi me (eF M ix) (ds.drop (i+1)) with
             |ok r=>
               rw[eg]at k;show Po Y (KO Y (.ct s)) E T I U1 As Z H1 M (.ok (.lst (l++[x]++r))) Q;rw[Ws];exact k
             |exc c=>rw[eg]at k;exact k
             |bad=>rw[eg]at k;exact k
   · have e:i=ds.length:=by omega
     subst e;rw[Yj,bG]at k;refine .inl ⟨S.1 _ (by omega),?_⟩;have P3:Po Y (KO Y (.ct s)) E T I U1 As Z H1 M (.ok (.lst (l++[]))) Q:=k;rw[Wc]at P3;refine P3 (.ref p) B2 O H2 (p::N) R2 g2 ⟨VQ.mpr ⟨pN,nN.nd⟩,λa q=>?_,λa q=>?_⟩ ?_
     · rcases VA.mp q with e|e
       ·rw[e];exact hp
       ·exact nN.fr a e
     · rcases VA.mp q with e|e
       ·rw[e];exact u2
       ·exact nN.un a e
     ·show Ow Y B2 H2 (.lst l) (.ct s) (.ref p) (p::N);rw[Ow];exact⟨p,t,N,rfl,hy,rfl,dz⟩
 ·rw[on z]at W;exact W.elim
end
end Mi
namespace Cl
open PySem L2 Mi
abbrev DJ(X:Type):=List (Int×X)
section
variable{X:Type}
def lR(f:X->D)(F:DJ X):D:=.dK (F.map λp=>Sum.inl p.1) (F.map λp=>f p.2)
def DJ.get(F:DJ X)(k:Int):Option X:=(F.find? λp=>decide (p.1=k)).map (·.2)
def DJ.put(F:DJ X)(k:Int)(v:X):DJ X:=if (DJ.get F k).isSome=true then F.map λp=>if p.1=k then (p.1,v) else p else F++[(k,v)]
def DJ.del(F:DJ X)(k:Int):DJ X:=F.filter λp=>decide (p.1≠k)
theorem qS{f:X->D}{k:Int}:∀F:DJ X,bF (F.map λp=>(Sum.inl p.1:aP)) (F.map λp=>f p.2) (Sum.inl k)=(DJ.get F k).map f
 |[]=>rfl
 | p::F=>by
   have a:=qS (f:=f) (k:=k) F;unfold DJ.get at *;rw[List.map_cons,List.map_cons,bF,List.find?_cons];by_cases q:p.1=k
   ·simp[q]
   · have:¬ (Sum.inl p.1:aP)=Sum.inl k:=λz=>q (XZ z)
     rw[on this,a];simp[q]
theorem vm{k:Int}:∀F:DJ X,cL (F.map λp=>(Sum.inl p.1:aP)) (Sum.inl k)=(DJ.get F k).isSome
 |[]=>rfl
 | p::F=>by
   have a:=vm (k:=k) F;unfold cL DJ.get at *;rw[List.map_cons,List.any_cons,List.find?_cons,a];by_cases q:p.1=k
   ·simp[q]
   · have:¬ (Sum.inl p.1:aP)=Sum.inl k:=λz=>q (XZ z)
     simp[q,this]
theorem qG{f:X->D}{k:Int}{v:X}:∀F:DJ X,iQ (F.map λp=>(Sum.inl p.1:aP)) (F.map λp=>f p.2) (Sum.inl k) (f v)=(F.map λp=>if p.1=k then (p.1,v) else p).map λp=>f p.2
 |[]=>rfl
 | p::F=>by
   rw[Vr,Vr,iQ,qG F];by_cases q:p.1=k
   ·simp[q]
   · have:¬ (Sum.inl p.1:aP)=Sum.inl k:=λz=>q (XZ z)
     simp[q,this]
theorem CH{f:X->D}{F:DJ X}{k:Int}{v:X}(h:F.length<aq):rp (lR f F) (.int k) (f v)=some (lR f (DJ.put F k v)):=by
 show((fk (.int k)).bind λk=>if (F.map λp=>(Sum.inl p.1:aP)).length<aq then some (if cL (F.map λp=>(Sum.inl p.1:aP)) k=true then D.dK _ (iQ _ _ k (f v)) else .dK _ _) else none)=_;show(if (F.map λp=>(Sum.inl p.1:aP)).length<aq then some (if cL (F.map λp=>(Sum.inl p.1:aP)) (Sum.inl k)=true then D.dK _ (iQ _ _ (Sum.inl k) (f v)) else .dK _ _) else none)=_;rw[if_pos (by rw[List.length_map];exact h),vm];unfold DJ.put;by_cases q:(DJ.get F k).isSome=true
 ·rw[if_pos q,if_pos q,qG];unfold lR;congr 2;rw[List.map_map];refine List.map_congr_left λp _=>?_;show Sum.inl p.1=Sum.inl (if p.1=k then (p.1,v) else p).1;split<;>rfl
 ·rw[if_neg q,if_neg q];unfold lR;rw[List.map_append,List.map_append];rfl
theorem rk{f:X->D}{k:Int}:∀F:DJ X,iA (F.map λp=>(Sum.inl p.1:aP)) (F.map λp=>f p.2) (Sum.inl k)=((DJ.del F k).map (λp=>Sum.inl p.1),(DJ.del F k).map λp=>f p.2)
 |[]=>rfl
 | p::F=>by
   have a:=rk (f:=f) (k:=k) F;unfold DJ.del at *;rw[List.map_cons,List.map_cons,iA,List.filter_cons,a];by_cases q:p.1=k
   ·simp[q]
   · have:¬ (Sum.inl p.1:aP)=Sum.inl k:=λz=>q (XZ z)
     simp[q,this]
theorem CD{p:Int×X}{F:DJ X}{k:Int}:DJ.get (p::F) k=if p.1=k then some p.2 else DJ.get F k:=by
 unfold DJ.get;rw[List.find?_cons];by_cases q:p.1=k
 ·simp[q]
 ·simp[q]
def DJ.nd(F:DJ X):Prop:=(F.map (·.1)).Nodup
theorem GA{F:DJ X}(n:DJ.nd F){k:Int}{v:X}(h:(k,v)∈F):DJ.get F k=some v:=by
 induction F with
 |nil=>cases h
 |cons p F a=>
   unfold DJ.nd at n;rw[List.map_cons,List.nodup_cons]at n;rw[CD];rcases List.mem_cons.mp h with e|e
   ·subst e;rw[Vq rfl]
   · by_cases q:p.1=k
     ·exact(n.1 (VY.mpr ⟨_,e,q.symm⟩)).elim
     ·rw[on q];exact a n.2 e
theorem z9{F:DJ X}{k:Int}(n:DJ.nd F):DJ.nd (DJ.del F k):=by
 unfold DJ.nd DJ.del at *;exact n.sublist (List.Sublist.map _ List.filter_sublist)
theorem Cs{F:DJ X}{k:Int}{v:X}:(DJ.put F k v).map (·.1)=if (DJ.get F k).isSome=true then F.map (·.1) else F.map (·.1)++[k]:=by
 unfold DJ.put;split
 ·rw[Wi];refine WO λp _=>?_;show(if p.1=k then (p.1,v) else p).1=p.1;split<;>rfl
 ·rw[V9];rfl
theorem Js{F:DJ X}{k:Int}{v:X}(n:DJ.nd F):DJ.nd (DJ.put F k v):=by
 unfold DJ.nd at *;rw[Cs];split
 ·exact n
 ·rename_i q;refine VZ.mpr ⟨n,by simp,λa d b c e=>?_⟩;rw[VG.mp c]at e;subst e;obtain⟨p,hp,rfl⟩:=VY.mp d;exact q (by rw[GA n (show(p.1,p.2)∈F from hp)];rfl)
end
section
variable{Z σ' W X L J:Type}{rep:Z->Tp}{Y:σ'->Tp}
theorem Pa{e:W->D}{get:Tp->Option D}{g:Z->Option W}(b:∀s,get (rep s)=(g s).map e):EJ rep e (Rl get) (vC g):=λs=>by
 unfold Rl vC;rw[b];cases g s with
 |none=>trivial
 |some a=>exact rfl
@[simp] def Ky(F:DJ X):Res (List X):=.ok (F.map (·.2))
theorem NA{e:X->D}(F:DJ X):SimR (eL e) (C7 (lR e F)) (Ky F):=by
 show Res.ok (D.lst (F.map λp=>e p.2))=Res.ok (D.lst ((F.map (·.2)).map e));rw[Wi];rfl
@[simp] def Al(F:DI X):Res Int:=.ok F.length
theorem NE{e:X->D}(F:DI X):SimR D.int (OV (bB e F)) (Al F):=by
 show Res.ok (D.int ((F.map λp=>p.1.map (Sum.inl:Int->aP)).length))=Res.ok (D.int F.length);rw[Vs]
@[simp] def LH(F:DI (Option X))(k:List Int):Res (Option X):=.ok ((F.get k).bind id)
theorem GK{e:X->D}{a mk:Tp->Res D}{b:Z->Res (DI (Option X))}{ck:Z->Res (List Int)}(d:EJ rep (bB (eO e)) a b)(c:EJ rep (kP D.int) mk ck):EJ rep (eO e) (vq a mk) (a9 LH b ck):=λs=>(d s).bnd λF=>by
 show SimR (eO e) (if true=true then _ else _) _;rw[if_pos rfl];refine(c s).bnd λk=>?_;show gB (bB (eO e) F) (.tup (k.map D.int)) .non=.ok (eO e ((F.get k).bind id));unfold gB;rw[gP];cases F.get k<;>rfl
theorem JO{e:X->D}{m:Tp->Res D}{c:Z->Res (DI X)}(h:EJ rep (bB e) m c):EJ rep (List.map (kP D.int)) (Dq m) (bD qX c):=λs=>by
 unfold Dq bD;refine(h s).bnd λF=>?_;show Res.ok _=Res.ok _;rw[List.map_map,List.map_map];congr 1;refine List.map_congr_left λp _=>?_;show D.tup ((p.1.map (Sum.inl:Int->aP)).map kD)=D.tup (p.1.map D.int);rw[List.map_map];rfl
@[simp] def Lx(g:Z->Option (DJ W))(p:Z->DJ W->Z)(ck:Z->Res Int)(a:Z->OutC Z W):Z->FlC Z X:=λs=>JZ (a s) λx s=>match g s with
 |none=>.bad
 | some F=>(match ck s with
   |.ok k=>if F.length<aq then .nx (p s (DJ.put F k x)) else .bad
   |.exc y=>.exc y s
   |.bad=>.bad)
theorem Iv{e:W->D}{eR:X->D}{get:Tp->Option D}{set:Tp->D->Tp}{g:Z->Option (DJ W)}{p:Z->DJ W->Z}{mk:Tp->Res D}{ck:Z->Res Int}{b:Tp->Out D}{c:Z->OutC Z W}(i:∀s,get (rep s)=(g s).map (lR e))(f:∀s F,set (rep s) (lR e F)=rep (p s F))
 (a:EJ rep D.int mk ck) (d:NJ rep e b c):TJ rep eR (gm get set mk b) (Lx g p ck c):=λs=>SimS.bd (d s) λx s=>by
 have a:=a s;rw[i];cases g s with
 |none=>trivial
 |some F=>
   show SimS rep eR (mE set (e x) (lR e F) (rep s) (mk (rep s))) _;dsimp only;refine SimR.el a (λk=>?_) (λ_=>rfl) λ_=>trivial;show SimS rep eR (mE set (e x) (lR e F) (rep s) (.ok (.int k))) (if F.length<aq then FlC.nx (p s (DJ.put F k x)) else .bad);by_cases h:F.length<aq
   ·rw[if_pos h];unfold mE;dsimp only;rw[CH h];show SO.nx _=SO.nx _;rw[f]
   ·rw[on h];trivial
@[simp] def qZ(g:Z->Option (DJ W))(p:Z->DJ W->Z)(ck:Z->Res Int):Z->OutC Z (Option W):=λs=>match g s with
 |none=>.bad
 | some F=>bndO (ck s) s λk=>match DJ.get F k with
   |some x=>.ok (some x) (p s (DJ.del F k))
   |none=>.ok none s
theorem z8{e:W->D}{get:Tp->Option D}{set:Tp->D->Tp}{g:Z->Option (DJ W)}{p:Z->DJ W->Z}{mk:Tp->Res D}{ck:Z->Res Int}(c:∀s,get (rep s)=(g s).map (lR e))(b:∀s F,set (rep s) (lR e F)=rep (p s F))(a:EJ rep D.int mk ck):NJ rep (eO e) (rs get set mk) (qZ g p ck):=λs=>by
 have a:=a s;unfold rs qZ;rw[c];cases g s with
 |none=>trivial
 |some F=>
   show SimO rep (eO e) (((mk (rep s)).up (rep s)).bind λk M=>(match fk k with|some k=>mF set M (F.map λp=>(Sum.inl p.1:aP)) (F.map λp=>e p.2) k|none=>.bad)) (bndO (ck s) s _);refine SimR.el a (λk=>?_) (λ_=>rfl) λ_=>trivial;show SimO rep (eO e) (mF set (rep s) (F.map λp=>(Sum.inl p.1:aP)) (F.map λp=>e p.2) (Sum.inl k)) (match DJ.get F k with|some x=>OutC.ok (some x) (p s (DJ.del F k))|none=>.ok none s);unfold mF;rw[qS];cases d:DJ.get F k with
   |none=>exact rfl
   |some x=>
     show Out.ok (e x) (set (rep s) (.dK (iA _ _ (Sum.inl k)).1 (iA _ _ (Sum.inl k)).2))=Out.ok (e x) (rep (p s (DJ.del F k)));rw[rk,<-b];rfl
open Classical in
noncomputable def rV(g:Z->Option (DI W))(p:Z->DI W->Z)(c:Z->Res (DI W)):Z->OutC Z Unit:=λs=>match g s with
 |some []=>bndO (c s) s λF=>if ((F.map (·.1)).map cX).Nodup then .ok () (p s F) else .bad
 |_=>.bad
theorem yi(F:DI W):i4 ((F.map λp=>p.1.map (Sum.inl:Int->aP)).map λk=>.tup (k.map kD))=some (F.map (·.1)):=by
 have:((F.map λp=>p.1.map (Sum.inl:Int->aP)).map λk=>D.tup (k.map kD))=(F.map (·.1)).map (kP D.int):=by
  rw[Wi,Wi];refine WO λp _=>?_;show D.tup ((p.1.map (Sum.inl:Int->aP)).map kD)=D.tup (p.1.map D.int);rw[Wi];rfl
 rw[this];exact re _
theorem sG{e:W->D}{get:Tp->Option D}{set:Tp->D->Tp}{g:Z->Option (DI W)}{p:Z->DI W->Z}{me:Tp->Res D}{c:Z->Res (DI W)}(j:∀s,get (rep s)=(g s).map (bB e))(h:∀s F,set (rep s) (bB e F)=rep (p s F))(f:∀a,bx (e a)=true)(l:EJ rep (bB e) me c):NJ rep eN (ut get set me) (rV g p c):=λs=>by
 have i:=l s;unfold ut rV;rw[j];cases g s with
 |none=>trivial
 |some m=>
   cases m with
   |cons _ _=>trivial
   |nil=>
     show SimO rep eN (((me (rep s)).up (rep s)).bind λd M=>Io set M d) (bndO (c s) s _);refine SimR.el i (λF=>?_) (λ_=>rfl) λ_=>trivial;show SimO rep eN (match i4 ((F.map λp=>p.1.map (Sum.inl:Int->aP)).map λk=>.tup (k.map kD)) with|some b=>(if (b.map cX).Nodup/\(F.map λp=>e p.2).all bx=true then Out.ok .non (set (rep s) (bB e F)) else .bad)|none=>.bad) (if ((F.map (·.1)).map cX).Nodup then OutC.ok () (p s F) else .bad);rw[yi];dsimp only;by_cases z:((F.map (·.1)).map cX).Nodup
     ·rw[Vq z,Vq ⟨z,by rw[Ys,WB];exact λa _=>f _⟩,h];rfl
     ·rw[on z];trivial
@[simp] def U8{d c b a:Type}(f:d->c->b->a->OutC σ' L)(w:σ'->Z->Z)(e:Z->Option d)(o:Z->Res c)(n:Z->Res b)(m:Z->OutC Z a):Z->OutC Z L:=λs=>match e s with
 |none=>.bad
 | some _=>bndO (o s) s λk=>bndO (n s) s λj=>Bn (m s) λi g=>match e g with
   |none=>.bad
   |some l=>(match f l k j i with | .ok r h=>.ok r (w h g) | .exc x h=>.exc x (w h g) | .bad=>.bad)
theorem RS{p n m l:Type}{e0:p->D}{e1:n->D}{v:m->D}{C:l->D}{N u:Tp->Res D}{A:Tp->Out D}{e:Z->Option p}{Q:Z->Res n}{E:Z->Res m}{G:Z->OutC Z l}{eR:L->D}{c:Nat}{K:Str}{i:Nat}{t:List D->Out D}{f:p->n->m->l->OutC σ' L}{w:σ'->Z->Z}
 (S:∀a,bH c K (e0 a)=true) (P:∀y s,cK [.O i,.F,.F,.F] 0 (Y y) (rep s)=rep (w y s)) (j:∀s,rg (rep s) i=(e s).map e0) (T:∀H d g q,SimO Y eR (t [e0 H,e1 d,v g,C q]) (f H d g q)) (W:EJ rep e1 N Q) (V:EJ rep v u E) (U:NJ rep C A G):
 NJ rep eR (Qt c K i t N u A) (U8 f w e Q E G):=λs=>by
 have g1:=W s;have B:=V s;have X:=U s;unfold Qt U8;rw[j];cases e s with
 |none=>trivial
 |some o=>
   dsimp only[Option.map];rw[if_pos (S o)];refine SimR.el g1 (λd=>?_) (λ_=>rfl) λ_=>trivial;show SimO rep eR (((u (rep s)).up (rep s)).bind λz M=>(A M).bind λw b=>(match rg b i with|some h=>cC [.O i,.F,.F,.F] t [h,e1 d,z,w] b|none=>.bad)) (bndO (E s) s _);cases J:E s with
   |bad=>trivial
   |exc x=>rw[J]at B;rw[show u (rep s)=_ from B];rfl
   |ok g=>
     rw[J]at B;rw[show u (rep s)=_ from B];show SimO rep eR ((A (rep s)).bind λw b=>(match rg b i with|some h=>cC [.O i,.F,.F,.F] t [h,e1 d,v g,w] b|none=>.bad)) (Bn (G s) _);refine SimO.bd X λq R=>?_;rw[j];cases e R with
     |none=>trivial
     |some h=>
       dsimp only[Option.map];have k:=T h d g q;unfold cC;cases I:f h d g q with
       |bad=>trivial
       |ok r y=>rw[I]at k;rw[show t [e0 h,e1 d,v g,C q]=_ from k];show Out.ok _ _=Out.ok _ _;rw[P]
       |exc x y=>rw[I]at k;rw[show t [e0 h,e1 d,v g,C q]=_ from k];show Out.exc _ _=Out.exc _ _;rw[P]
@[simp] def yn(g:Z->DI W)(p:List Int->Z->Z):Z->FlC Z (List Int):=λs=>match g s with
 |[]=>.nx s
 |q::_=>.rt q.1 (p q.1 s)
theorem Dc{e:W->D}{c i j:Nat}{f:Str}{g:Z->DI W}{p:List Int->Z->Z}(b:∀s,∃d,rg (rep s) i=some d/\bQ c f d=.ok (bB e (g s)))(a:∀s,j<(rep s).length)(hp:∀s k,(rep s).set j (some (kP D.int k))=rep (p k s)):
 TJ rep (kP D.int) (oz c f i j) (yn g p):=λs=>by
 obtain⟨d,l,h⟩:=b s;unfold oz yn;rw[l];dsimp only;rw[h];cases q:g s with
 |nil=>exact rfl
 |cons x r=>
   show SimS rep (kP D.int) (if j<(rep s).length then .rt (.tup ((x.1.map (Sum.inl:Int->aP)).map kD)) ((rep s).set j (some (.tup ((x.1.map (Sum.inl:Int->aP)).map kD)))) else .bad) (.rt x.1 (p x.1 s))
   have m:D.tup ((x.1.map (Sum.inl:Int->aP)).map kD)=kP D.int x.1:=by
    show D.tup ((x.1.map (Sum.inl:Int->aP)).map kD)=D.tup (x.1.map D.int);rw[Wi];rfl
   rw[Vq (a s),m,hp];exact rfl
end
end Cl
namespace L2
open PySem PySem.Spec PyProof.Rows
section
variable{X:Cx}{G:P1}{Z:St}{H:Hp}{s:Shared}{a b:Addr}{kvs:List (List aP×V)}{k:List aP}{v:V}{A:Around}{E:P4}
theorem JT{dflt:Value}{Q:P4}(l:A.units+1<cLine)(I:Inv X G Z H s)(e:H a=some (.dT kvs))(V:H b=some (.tup (k.map kV)))
 (h:∀v M r,cY kvs k=some v->Inv X G Z (upd H a (.dT (fo kvs k))) r->RelV v M->Q M r) (h0:cY kvs k=none->∀r,Inv X G Z H r->Q dflt r):wpAny (model X.prog X.w) A (call (.builtin "dict.pop") [.ref a,.ref b,dflt]) Q E s:=by
 obtain⟨z,hd,xs,f,dd⟩:=GN I.hok e;have hz:xs.length<=sizeLine:=by rw[<-WC f];exact z
 have i:=fZ I.hok V;have g:=tupleKind_room_in1 (knd:=aG X.prog X.w) l;have N:=dd.typeIs;obtain⟨o,n,ep,m,U,d,x,K,t⟩:=dd;have T:n.size=xs.length:=size_of_entries x;refine wpAny_call_entry PySem.F.slot_dict_pop N PySem.F.entry_dict_pop ?_ (PySem.F.args_dict_pop_3 _ _ _);unfold Builtin.«dict.pop»;refine wpAny_bind ?_;unfold Builtin.Dict.keyAndDefault;refine wpAny_bind (wpAny_notOrdered_dict N ?_);show wpAny _ _ (pure (a,Value.ref b,some dflt)) _ _ s;refine wpAny_pure ?_;dsimp only;rw[if_neg (by simp[keyPart])];refine wpAny_bind (wpAny_dictEntries m d ?_);refine wpAny_bind (wpAny_pure ?_);cases D:n.isEmpty with
 |true=>
   have R:xs=[]:=by
    have e1:n.size=0:=by simpa using D
    exact V2.mp (by omega)
   rw[Vq rfl];refine Vp (Vp (wpAny_rule (Vz ?_)));show wpAny _ _ (Builtin.Dict.missedRemoval a (.ref b) >>= _) _ _ _;refine Vp (wpAny_missedRemoval_other hd ?_);refine Vp (wpAny_rule (Vz ⟨_,rfl,?_⟩));refine h0 ?_ _ I
   have:=f.val k
   rw[R]at this;cases q:cY kvs k with
   |none=>rfl
   |some v=>rw[q]at this;obtain⟨u,l,_⟩:=RelO.some_of this;cases l
 |false=>
   rw[if_neg Bool.false_ne_true];refine wpAny_bind ?_;unfold Builtin.Dict.takeOut
   try with_reducible refine WQ ?_
   refine Vp ((tupleKind (aG X.prog X.w)).pyHash g i ?_);refine Vp (wpAny_dictFind_heap (knd:=tupleKind (aG X.prog X.w)) (s:={s with toks:=s.toks+(tupleKind (aG X.prog X.w)).draws k}) g i m d x K t ?_ ?_)
   · intro C
     have B:cY kvs k=none:=by
      have:=f.val k
      rw[atKey_none_of_get C]at this;cases q:cY kvs k with
      |none=>rfl
      |some v=>rw[q]at this;obtain⟨u,l,_⟩:=RelO.some_of this;cases l
     refine Vz ?_;simp only[Option.isNone_none,YO];refine Vp (wpAny_missedRemoval_other hd ?_);exact Vp (wpAny_rule (Vz ⟨_,rfl,h0 B _ (I.tok _)⟩))
   · intro j p J;have hp:atKey xs k=some p:=atKey_of_get t J
     obtain⟨v,B,y⟩:∃v,cY kvs k=some v/\RelV v p.2:=by
      have:=f.val k
      rw[hp]at this;cases q:cY kvs k with
      |none=>rw[q]at this;have:=RelO.none_of this;cases this
      |some v=>rw[q]at this;obtain⟨u,l,P⟩:=RelO.some_of this;cases l;exact⟨v,rfl,P⟩
     refine Vp (WZ (s:={s with toks:=s.toks+(tupleKind (aG X.prog X.w)).draws k}) m d ?_);rw[entry_at x j,J];refine Vp (wpAny_updateDictKeys (hz:=by omega) (s:={s with toks:=s.toks+(tupleKind (aG X.prog X.w)).draws k}) m d (Vz ?_));rw[on (by simp)];refine Vp (Xv (Vz ⟨_,rfl,?_⟩));show Q p.2 _;refine h v p.2 _ B ?_ y;have S:=Xo s.heap a (Obj.mapDictKeys λn=>n.eraseIdxIfInBounds j);refine kT (s:=s) (t':=s.toks+(tupleKind (aG X.prog X.w)).draws k) I (by rw[e];exact True.intro) S ⟨_,V6 _ m (WM (Wg d _))⟩ ⟨VW (oJ kvs k) z,hd,_,(f.drop k).keeps λc W O=>?_,_,_,ep+1,V6 _ m (WM (Wg d _)),U.mapDictKeys _,Wg d _,?_,?_⟩
     ·rw[aE (Fg O e (λz=>nomatch z))];exact O
     ·rw[<-ia t J];obtain⟨el⟩:=n;have L:el=xs.map (entryOfKey (tupleKind (aG X.prog X.w))):=x;rw[Wz];show el.eraseIdx j=_;rw[L];exact lJ
     ·exact(t.sublist ((List.filter_sublist).map _))
end
def zf(e ty d:TE):TE:=λZ H Q=>e Z H λx H1=>∃a,x=.ref a/\LV H1 a/\ty Z H1 λy f=>d Z f λz c=>∃kvs k b,c a=some (.dT kvs)/\y=.ref b/\c b=some (.tup (k.map kV))/\(∀v,cY kvs k=some v->Q v (upd c a (.dT (fo kvs k))))/\(cY kvs k=none->Q z c)
theorem lC{X:Cx}{o e f:Expr}{g c:Pos}{p ty n:TE}(N:X.A.units+1<cLine)(O:PE X o p)(R:PE X e ty)(P:PE X f n)(m:M2 X o "pop" g e f c):PE X (.Call (.Attribute o "pop" g) [e,f] [] c) (zf p ty n):=by
 intro G s Z H Q I h;refine Xg m.base m.few m.line V1 WU XC (bI (O G s Z H _ I h) λu B ⟨x,H1,q,E,a,ex,d,L⟩=>?_);subst ex;obtain rfl:u=Value.ref a:=E;obtain⟨t,r,_⟩:=lO q d;refine⟨t,r,?_⟩;rw[m.trees]
 refine Wo rfl (WF (Wh (bI (R G B Z H1 _ q L) λM s2 ⟨y,H2,W,D,K⟩=>
  Wh (bI (P G s2 Z H2 _ W K) λfv s3 ⟨z,Y,V,C,kvs,k,b,U,S,T,J,F⟩=>WI ?_))))
 subst S;obtain rfl:M=Value.ref b:=D;exact JT N V U T (λv w' w l j i=>⟨v,_,j,i,J v l⟩) λl w j=>⟨z,Y,j,C,F l⟩
end L2
namespace Mi
open PySem L2
section
variable{Y:Cm}{E:XK}{T:List Md}{B U H:Hp}{As:Nat->List Addr}{Z:St}{M:Tp}{t:TE}{get:Tp->Option D}{set:Tp->D->Tp}
def ib(set:Tp->D->Tp)(a:List (List aP))(vs:List D)(k:List aP)(M:Tp):Out D:=match bF a vs k with
 |some y=>.ok y (set M (.dT (d4 a vs k).1 (d4 a vs k).2))
 |none=>.ok .non M
def jS(get:Tp->Option D)(set:Tp->D->Tp)(mk:Tp->Res D):Tp->Out D:=λM=>match get M with
 |some (.dT b vs)=>((mk M).up M).bind λk M=>(match k with | .tup a=>(match bV a with|some k=>ib set b vs k M|none=>.bad)|_=>.bad)
 |_=>.bad
theorem nR{C:TE}{mk:Tp->Res D}(p:Pth Y T t get set)(hk:PJ Y (KR Y .X) E T C mk):MJ Y (KR Y .F) E T (zf t C (tC .non)) (jS get set mk):=by
 intro B U As Z H M Q R P;unfold jS at P;cases e:get M with
 |none=>rw[e]at P;exact P.elim
 |some d=>
   obtain⟨v,A,W,O,hA,cl⟩:=p.rd R e;cases d with
   |dT r vs=>
     rw[e]at P;replace P:Mo Y (KR Y .F) E T B U Z (((mk M).up M).bind λk M=>(match k with | .tup n=>(match bV n with|some k=>ib set r vs k M|none=>.bad)|_=>.bad)) Q:=P;obtain⟨a,kvs,rfl,K,h2,rfl,h3⟩:=O.dT rfl;refine W _ ⟨a,rfl,.inr ⟨kvs,.inl K⟩,hk B U As Z H M _ R ?_⟩;cases x:mk M with
     |exc c=>rw[x]at P;exact λI U1 H1 q f=>P I U1 As H1 q f.toEx
     |bad=>rw[x]at P;exact P.elim
     |ok J=>
       rw[x]at P;intro u I U1 H1 N q f n1 o;have o:Dn Y H1 J u:=o;cases J with
       |tup n=>
         replace P:Mo Y (KR Y .F) E T B U Z (match bV n with|some k=>ib set r vs k M|none=>.bad) Q:=P;cases z:bV n with
         |none=>rw[z]at P;exact P.elim
         |some g=>
           rw[z]at P;replace P:Mo Y (KR Y .F) E T B U Z (ib set r vs g M) Q:=P;rw[Dn]at o;obtain⟨b,xs,rfl,h4,h5⟩:=o;have ex:=fY z h5;subst ex;subst h2;have l:Dns Y I vs (kvs.map (·.2)):=h3.mono f.b;have j:=gN (Y:=Y) (G:=I) g l;unfold ib at P;refine⟨kvs,g,b,f.h _ _ K,rfl,h4,λv i=>?_,λi=>?_⟩
           · cases m:bF (kvs.map (·.1)) vs g with
             |none=>rw[m]at j;rw[show cY kvs g=none from j]at i;cases i
             |some y=>
               rw[m]at j P;obtain⟨w,s,L⟩:=j;rw[s]at i;cases i;obtain⟨V,S⟩:=oI (Y:=Y) (G:=I) (k:=g) l;refine P _ I U1 As _ [] (cl I U1 H1 q f.b f.h a Vu _ _ ?_) f.toEx NewM.nil L;rw[<-V];exact Ow.dT' aM S
           · cases m:bF (kvs.map (·.1)) vs g with
             |some y=>rw[m]at j;obtain⟨w,s,L⟩:=j;rw[s]at i;cases i
             |none=>
               rw[m]at P;exact P .non I U1 As H1 [] q f.toEx NewM.nil (by show Dn Y I .non .non;rw[Dn])
       |_=>exact P.elim
   |_=>rw[e]at P;exact P.elim
end
end Mi
namespace Cl
open PySem L2 Mi
section
variable{Z W X L:Type}{rep:Z->Tp}
def yw{e:W->D}{d:X->D}{c:L->D}[DecidableEq W][DecidableEq X][DecidableEq L](A:Dat e)(B:Dat d)(C:Dat c):Dat (wO e d c):=⟨λp=>.tuple [A.py p.1,B.py p.2.1,C.py p.2.2],A.dep+B.dep+C.dep+1,λp=>by
 show(toPys [e p.1,d p.2.1,c p.2.2]).map PyData.tuple=_;rw[toPys,toPys,toPys,toPys,A.h0,B.h0,C.h0];rfl,λp=>by rw[PyData.canLay0];simp[PyData.canLayAll0,A.lay,B.lay,C.lay],λp=>by
 rw[PyData.depth];simp only[PyData.depthAll];have:=A.depth p.1;have:=B.depth p.2.1;have:=C.depth p.2.2;omega,λa b=>by
 rw[PyData.eqv];simp only[PyData.eqvAll,A.eqv,B.eqv,C.eqv];obtain⟨n,m,l⟩:=a;obtain⟨k,j,i⟩:=b
 by_cases h:n=k<;>by_cases g:m=j<;>by_cases f:l=i<;>simp[h,g,f],λa b=>by rw[SeqAt.noMix];simp[SeqAt.noMixAll,A.nomix,B.nomix,C.nomix]⟩
@[simp] def jG(g:Z->Option (DI (Option W)))(p:Z->DI (Option W)->Z)(ck:Z->Res (List Int)):Z->OutC Z (Option W):=λs=>match g s with
 |none=>.bad
 | some F=>bndO (ck s) s λk=>match DI.get F k with
   |some x=>.ok x (p s (F.del k))
   |none=>.ok none s
theorem oe:∀k:List Int,bV (k.map D.int)=some (k.map Sum.inl)
 |[]=>rfl
 | x::k=>by
   have:=oe k
   rw[Vr,Vr,bV,this];rfl
theorem nI{e:W->D}{get:Tp->Option D}{set:Tp->D->Tp}{g:Z->Option (DI (Option W))}{p:Z->DI (Option W)->Z}{mk:Tp->Res D}{ck:Z->Res (List Int)}(d:∀s,get (rep s)=(g s).map (bB (eO e)))(c:∀s F,set (rep s) (bB (eO e) F)=rep (p s F))(a:EJ rep (kP D.int) mk ck):NJ rep (eO e) (jS get set mk) (jG g p ck):=λs=>by
 have a:=a s;unfold jS jG;rw[d];cases g s with
 |none=>trivial
 |some F=>
   show SimO rep (eO e) (((mk (rep s)).up (rep s)).bind λk M=>(match k with | .tup b=>(match bV b with|some k=>ib set (F.map λp=>p.1.map (Sum.inl:Int->aP)) (F.map λp=>eO e p.2) k M|none=>.bad)|_=>.bad)) (bndO (ck s) s _);refine SimR.el a (λk=>?_) (λ_=>rfl) λ_=>trivial;show SimO rep (eO e) (match bV (k.map D.int) with|some k=>ib set (F.map λp=>p.1.map (Sum.inl:Int->aP)) (F.map λp=>eO e p.2) k (rep s)|none=>.bad) (match DI.get F k with|some x=>OutC.ok x (p s (F.del k))|none=>.ok none s);rw[oe];show SimO rep (eO e) (ib set (F.map λp=>p.1.map (Sum.inl:Int->aP)) (F.map λp=>eO e p.2) (k.map Sum.inl) (rep s)) _;unfold ib;rw[kE];cases f:DI.get F k with
   |none=>exact rfl
   |some x=>
     show Out.ok (eO e x) (set (rep s) (.dT (d4 _ _ (k.map Sum.inl)).1 (d4 _ _ (k.map Sum.inl)).2))=Out.ok (eO e x) (rep (p s (F.del k)));rw[oH,<-c];rfl
end
end Cl
namespace Mi
open PySem L2 PyProof.Rows PySem.W
section
variable{P:Program}{w:World}{K:F0}{mg:Str->Option Value}{base:Heap}{Y:Cm}{x qual:Str}{st:Stmt}{f:Addr}{fd:FuncData}{N ps:List Str}{k:Nat}{T more:List Md}{body:Tp->SO}{fm:List D->Out D}
theorem iU(F:Fun K x qual st f fd)(S:FnScope N ps (ai st))(d:∀{a:Value} {A:Around} {outer:List PySem.Env} {s:Shared} {H:Hp} {E:XK},Room k (A.deeper (envOfC qual (ai st) s.heap.objs.size f a))->∃t,PSs (vF d5 P w K mg base N qual (ai st) f a A outer s H E).nox (cV st) t/\SJ Y E0 (KR Y .F) (qJ T T.length) (T++more) t body)
 (hp:ps.length=T.length:=by rfl) (e:N.length=T.length+more.length:=by rfl) (b:fm=run N.length body:=by rfl):FnOk P w K mg base d5 (k+1) f fd ps (dU Y T (KR Y .F) fm):=by
 refine F.ok S (λvs H Q E h=>by rw[hp];exact zm h) (λa A outer s H vs Q E c h=>?_);obtain⟨t,p,j⟩:=d c;exact⟨t,p,JN j e b (λ_ _ _=>Rj) h⟩
theorem mP{sh:Sh}(F:Fun K x qual st f fd)(S:FnScope N ps (ai st))(d:∀{a:Value} {A:Around} {outer:List PySem.Env} {s:Shared} {H:Hp} {E:XK},Room k (A.deeper (envOfC qual (ai st) s.heap.objs.size f a))->∃t,PSs (vF d5 P w K mg base N qual (ai st) f a A outer s H E).nox (cV st) t/\SJ Y E0 (KO Y sh) (qJ T T.length) (T++more) t body)
 (hp:ps.length=T.length:=by rfl) (e:N.length=T.length+more.length:=by rfl) (b:fm=iO N.length body:=by rfl):FnOk P w K mg base d5 (k+1) f fd ps (dU Y T (KO Y sh) fm):=by
 refine F.ok S (λvs H Q E h=>by rw[hp];exact zm h) (λa A outer s H vs Q E c h=>?_);obtain⟨t,p,j⟩:=d c;exact⟨t,p,GE j e b h⟩
end
end Mi
set_option genInjectivity false
set_option genSizeOf false
open PySem L2 in
theorem L2.Room.mm{j k:Nat}{A:Around}(r:Room k A)(h:j<=k:=by decide):Room j A:=r.mono h
namespace K13
open PySem L2
def top(i:Nat):Stmt:=PySem.Challenge.pw_heraldways_k13_letters_counted.main.body.getD i (.Pass ⟨0,0,0,0⟩)
abbrev MQ:Stmt:=bb (top 12) 0
abbrev DZ:Stmt:=bb (top 12) 13
abbrev IU:Stmt:=bb (top 12) 15
abbrev MC:Stmt:=bb (top 12) 1
abbrev Mt:Stmt:=bb (top 19) 11
abbrev Ms:Stmt:=bb (top 19) 15
abbrev DY:Stmt:=bb (top 19) 12
abbrev DT:Stmt:=top 21
abbrev DP:Stmt:=top 25
abbrev uD:Stmt:=top 23
abbrev DM:Stmt:=top 27
abbrev DL:Stmt:=top 24
abbrev DK:Stmt:=top 22
abbrev DW:Stmt:=top 16
abbrev DV:Stmt:=top 18
abbrev DG:Stmt:=top 11
abbrev MH:Stmt:=bb (top 12) 16
abbrev uF:Stmt:=bb (top 19) 2
abbrev uE:Stmt:=bb (top 19) 4
abbrev DR:Stmt:=top 26
abbrev DH:Stmt:=top 15
abbrev MN:Stmt:=bb (top 12) 6
abbrev MM:Stmt:=bb (top 12) 7
abbrev MK:Stmt:=bb (top 12) 2
abbrev MG:Stmt:=bb (top 12) 18
abbrev MF:Stmt:=bb (top 12) 17
abbrev MA:Stmt:=bb (top 12) 14
abbrev MP:Stmt:=bb (top 12) 4
abbrev MO:Stmt:=bb (top 12) 5
abbrev MI:Stmt:=bb (top 12) 12
abbrev ME:Stmt:=bb (top 12) 8
abbrev Mz:Stmt:=bb (top 12) 10
abbrev DX:Stmt:=bb (top 19) 13
abbrev DD:Stmt:=bb (top 19) 0
abbrev Mv:Stmt:=bb (top 19) 16
abbrev Mq:Stmt:=bb (top 19) 10
abbrev DO:Stmt:=top 28
abbrev DF:Stmt:=top 14
abbrev Mu:Stmt:=bb (top 19) 9
abbrev Mr:Stmt:=bb (top 19) 14
abbrev My:Stmt:=bb (top 19) 6
abbrev DN:Stmt:=top 29
abbrev Mw:Stmt:=bb (top 19) 7
abbrev DQ:Stmt:=top 30
abbrev Mp:Stmt:=bb (top 19) 8
abbrev DS:Stmt:=top 31
abbrev DU:Stmt:=top 32
theorem Re:FnScope ["self","size"] ["self","size"] (ai MQ):=by ac_rfl
theorem Rb:FnScope ["self","pairs","a"] ["self","pairs","a"] (ai DZ):=by ac_rfl
theorem Q0:FnScope ["self","a","houses"] ["self","a","houses"] (ai IU):=by ac_rfl
theorem QZ:FnScope ["self"] ["self"] (ai MC):=by ac_rfl
theorem KP:FnScope ["self","pair"] ["self"] (ai Mt):=by ac_rfl
theorem QU:FnScope ["self","writer","receiver"] ["self","writer","receiver"] (ai Ms):=by ac_rfl
theorem DC:FnScope ["self","writer","receiver","road"] ["self","writer","receiver"] (ai DY):=by ac_rfl
theorem Mj:FnScope ["script","k"] ["script","k"] (ai DT):=by ac_rfl
theorem rZ:FnScope ["cell","size","fond","k"] ["cell","size"] (ai DP):=by ac_rfl
theorem iM:FnScope ["cell","house","size","rest","road","many"] ["cell","house","size"] (ai uD):=by ac_rfl
theorem lx:FnScope ["cell","size","shy","k","a","b"] ["cell","size"] (ai DM):=by ac_rfl
theorem jI:FnScope ["cell","size","seed","ways","k","a","b"] ["cell","size"] (ai DL):=by ac_rfl
theorem Mh:FnScope ["found"] ["found"] (ai DK):=by ac_rfl
theorem DA:FnScope ["house","standings","best"] ["house","standings"] (ai DW):=by ac_rfl
theorem Ml:FnScope ["road"] ["road"] (ai DV):=by ac_rfl
theorem Mf:FnScope ["houses","count"] ["houses","count"] (ai DG):=by ac_rfl
theorem Q5:FnScope ["self","houses"] ["self","houses"] (ai MH):=by ac_rfl
theorem Mn:FnScope ["self"] ["self"] (ai uF):=by ac_rfl
theorem Mm:FnScope ["self"] ["self"] (ai uE):=by ac_rfl
theorem nu:FnScope ["cell","size","dear","k","road"] ["cell","size"] (ai DR):=by ac_rfl
theorem Mg:FnScope ["guild","house","road"] ["guild","house","road"] (ai DH):=by ac_rfl
theorem Q8:FnScope ["self","a","b","rank"] ["self","a","b","rank"] (ai MN):=by ac_rfl
theorem Q7:FnScope ["self","a","b"] ["self","a","b"] (ai MM):=by ac_rfl
theorem Q6:FnScope ["self","a"] ["self","a"] (ai MK):=by ac_rfl
theorem Q4:FnScope ["self","road"] ["self","road"] (ai MG):=by ac_rfl
theorem Q3:FnScope ["self","a","b"] ["self","a","b"] (ai MF):=by ac_rfl
theorem KU:FnScope ["self","other"] ["self"] (ai MA):=by ac_rfl
theorem Ra:FnScope ["self","a","b"] ["self","a","b"] (ai MP):=by ac_rfl
theorem Q9:FnScope ["self","a","b"] ["self","a","b"] (ai MO):=by ac_rfl
theorem KW:FnScope ["self","road","wish_rank"] ["self","road"] (ai MI):=by ac_rfl
theorem Q2:FnScope ["self","a","b"] ["self","a","b"] (ai ME):=by ac_rfl
theorem QY:FnScope ["self","road","rank"] ["self","road","rank"] (ai Mz):=by ac_rfl
theorem DB:FnScope ["self","writer","receiver"] ["self","writer"] (ai DX):=by ac_rfl
theorem QX:FnScope ["self","guild"] ["self","guild"] (ai DD):=by ac_rfl
theorem KQ:FnScope ["self","house","road"] ["self","house"] (ai Mv):=by ac_rfl
theorem QS:FnScope ["self","a","b"] ["self","a","b"] (ai Mq):=by ac_rfl
theorem iN:FnScope ["size","ways","fond","dear","shy","guild","a","b","pair","key"] ["size","ways","fond","dear","shy"] (ai DO):=by ac_rfl
theorem Me:FnScope ["guild","road"] ["guild","road"] (ai DF):=by ac_rfl
theorem QV:FnScope ["self","a","b"] ["self","a","b"] (ai Mu):=by ac_rfl
theorem QT:FnScope ["self","writer","receiver","road"] ["self","writer","receiver","road"] (ai Mr):=by ac_rfl
theorem QW:FnScope ["self","a","b"] ["self","a","b"] (ai My):=by ac_rfl
theorem rY:FnScope ["script","size","ways","fond","dear","shy"] ["script","size","ways"] (ai DN):=by ac_rfl
theorem KS:FnScope ["self","pair"] ["self"] (ai Mw):=by ac_rfl
theorem lA:FnScope ["post","ways","size","cell","a","b","line","pair","pick"] ["post","ways","size","cell"] (ai DQ):=by ac_rfl
theorem Dz:FnScope ["self","most","carried"] ["self","most"] (ai Mp):=by ac_rfl
theorem wZ:FnScope ["post","other","most","found","k"] ["post","other","most"] (ai DS):=by ac_rfl
theorem gr:FnScope ["script","size","ways","post","other","left","right","cell","most"] ["script"] (ai DU):=by ac_rfl
structure Adr where
 C_Guild:Addr
 C_Post:Addr
 f_a9:Addr
 d_a9:FuncData
 f_b9:Addr
 d_b9:FuncData
 f_m9:Addr
 d_m9:FuncData
 f_n9:Addr
 d_n9:FuncData
 f_v9:Addr
 d_v9:FuncData
 f_w9:Addr
 d_w9:FuncData
 f_bc9:Addr
 d_bc9:FuncData
 f_bh9:Addr
 d_bh9:FuncData
 f_bl9:Addr
 d_bl9:FuncData
 f_bo9:Addr
 d_bo9:FuncData
 f_bp9:Addr
 d_bp9:FuncData
 f_bq9:Addr
 d_bq9:FuncData
 f_br9:Addr
 d_br9:FuncData
 f_be9:Addr
 d_be9:FuncData
 f_bf9:Addr
 d_bf9:FuncData
 f_bt9:Addr
 d_bt9:FuncData
 f_i9:Addr
 d_i9:FuncData
 f_ba9:Addr
 d_ba9:FuncData
 f_bb9:Addr
 d_bb9:FuncData
 f_bj9:Addr
 d_bj9:FuncData
 f_bs9:Addr
 d_bs9:FuncData
 f_e9:Addr
 d_e9:FuncData
 f_f9:Addr
 d_f9:FuncData
 f_g9:Addr
 d_g9:FuncData
 f_j9:Addr
 d_j9:FuncData
 f_k9:Addr
 d_k9:FuncData
 f_o9:Addr
 d_o9:FuncData
 f_c9:Addr
 d_c9:FuncData
 f_d9:Addr
 d_d9:FuncData
 f_h9:Addr
 d_h9:FuncData
 f_l9:Addr
 d_l9:FuncData
 f_p9:Addr
 d_p9:FuncData
 f_bd9:Addr
 d_bd9:FuncData
 f_q9:Addr
 d_q9:FuncData
 f_t9:Addr
 d_t9:FuncData
 f_y9:Addr
 d_y9:FuncData
 f_bm9:Addr
 d_bm9:FuncData
 f_bu9:Addr
 d_bu9:FuncData
 f_u9:Addr
 d_u9:FuncData
 f_x9:Addr
 d_x9:FuncData
 f_r9:Addr
 d_r9:FuncData
 f_bn9:Addr
 d_bn9:FuncData
 f_s9:Addr
 d_s9:FuncData
 f_bk9:Addr
 d_bk9:FuncData
 f_z9:Addr
 d_z9:FuncData
 f_bi9:Addr
 d_bi9:FuncData
 f_bg9:Addr
 d_bg9:FuncData
structure Txt (K:F0) (mg:Str->Option Value) (a:Adr) (base:Heap):Prop where
 cl_Guild:Cls K a.C_Guild
 mgC_Guild:mg "Guild" = some (.ref a.C_Guild)
 mk_Guild:Mk K a.C_Guild a.f_a9
 cl_Post:Cls K a.C_Post
 mgC_Post:mg "Post" = some (.ref a.C_Post)
 mk_Post:Mk K a.C_Post a.f_q9
 n_house_count:NoAttr K a.C_Guild "house_count"
 n_ways:NoAttr K a.C_Guild "ways"
 n_likings:NoAttr K a.C_Guild "likings"
 n_shuns:NoAttr K a.C_Guild "shuns"
 n_wish_ranks:NoAttr K a.C_Guild "wish_ranks"
 n_guild:NoAttr K a.C_Post "guild"
 n_roads:NoAttr K a.C_Post "roads"
 n_told_last:NoAttr K a.C_Post "told_last"
 n_written_last:NoAttr K a.C_Post "written_last"
 n_letters:NoAttr K a.C_Post "letters"
 n_standings:NoAttr K a.C_Post "standings"
 F_a9:Fun K "__init__" "Guild.__init__" MQ a.f_a9 a.d_a9
 b_a9:Binds K a.d_a9 ["self","size"] []
 F_b9:Fun K "houses_paired" "Guild.houses_paired" DZ a.f_b9 a.d_b9
 b_b9:Binds K a.d_b9 ["self","pairs","a"] []
 me_b9:Meth K a.C_Guild "houses_paired" a.f_b9
 F_m9:Fun K "shuns_one_of" "Guild.shuns_one_of" IU a.f_m9 a.d_m9
 b_m9:Binds K a.d_m9 ["self","a","houses"] []
 me_m9:Meth K a.C_Guild "shuns_one_of" a.f_m9
 F_n9:Fun K "size" "Guild.size" MC a.f_n9 a.d_n9
 b_n9:Binds K a.d_n9 ["self"] []
 me_n9:Meth K a.C_Guild "size" a.f_n9
 F_v9:Fun K "first_of_line" "Post.first_of_line" Mt a.f_v9 a.d_v9
 b_v9:Binds K a.d_v9 ["self"] []
 me_v9:Meth K a.C_Post "first_of_line" a.f_v9
 F_w9:Fun K "forget" "Post.forget" Ms a.f_w9 a.d_w9
 b_w9:Binds K a.d_w9 ["self","writer","receiver"] []
 me_w9:Meth K a.C_Post "forget" a.f_w9
 F_bc9:Fun K "write_road" "Post.write_road" DY a.f_bc9 a.d_bc9
 b_bc9:Binds K a.d_bc9 ["self","writer","receiver"] []
 me_bc9:Meth K a.C_Post "write_road" a.f_bc9
 F_bh9:Fun K "_law_cell_at" "_law_cell_at" DT a.f_bh9 a.d_bh9
 b_bh9:Binds K a.d_bh9 ["script","k"] []
 m_bh9:mg "_law_cell_at" = some (.ref a.f_bh9)
 F_bl9:Fun K "_law_fond_by" "_law_fond_by" DP a.f_bl9 a.d_bl9
 b_bl9:Binds K a.d_bl9 ["cell","size"] []
 m_bl9:mg "_law_fond_by" = some (.ref a.f_bl9)
 F_bo9:Fun K "_law_road_by" "_law_road_by" uD a.f_bo9 a.d_bo9
 b_bo9:Binds K a.d_bo9 ["cell","house","size"] []
 m_bo9:mg "_law_road_by" = some (.ref a.f_bo9)
 F_bp9:Fun K "_law_shy_by" "_law_shy_by" DM a.f_bp9 a.d_bp9
 b_bp9:Binds K a.d_bp9 ["cell","size"] []
 m_bp9:mg "_law_shy_by" = some (.ref a.f_bp9)
 F_bq9:Fun K "_law_ways_by" "_law_ways_by" DL a.f_bq9 a.d_bq9
 b_bq9:Binds K a.d_bq9 ["cell","size"] []
 m_bq9:mg "_law_ways_by" = some (.ref a.f_bq9)
 F_br9:Fun K "_law_whole" "_law_whole" DK a.f_br9 a.d_br9
 b_br9:Binds K a.d_br9 ["found"] []
 m_br9:mg "_law_whole" = some (.ref a.f_br9)
 F_be9:Fun K "best_road" "best_road" DW a.f_be9 a.d_be9
 b_be9:Binds K a.d_be9 ["house","standings"] []
 m_be9:mg "best_road" = some (.ref a.f_be9)
 F_bf9:Fun K "copied" "copied" DV a.f_bf9 a.d_bf9
 b_bf9:Binds K a.d_bf9 ["road"] []
 m_bf9:mg "copied" = some (.ref a.f_bf9)
 F_bt9:Fun K "require_within" "require_within" DG a.f_bt9 a.d_bt9
 b_bt9:Binds K a.d_bt9 ["houses","count"] []
 m_bt9:mg "require_within" = some (.ref a.f_bt9)
 F_i9:Fun K "require_houses" "Guild.require_houses" MH a.f_i9 a.d_i9
 b_i9:Binds K a.d_i9 ["self","houses"] []
 me_i9:Meth K a.C_Guild "require_houses" a.f_i9
 F_ba9:Fun K "table" "Post.table" uF a.f_ba9 a.d_ba9
 b_ba9:Binds K a.d_ba9 ["self"] []
 me_ba9:Meth K a.C_Post "table" a.f_ba9
 F_bb9:Fun K "waiting" "Post.waiting" uE a.f_bb9 a.d_bb9
 b_bb9:Binds K a.d_bb9 ["self"] []
 me_bb9:Meth K a.C_Post "waiting" a.f_bb9
 F_bj9:Fun K "_law_dear_by" "_law_dear_by" DR a.f_bj9 a.d_bj9
 b_bj9:Binds K a.d_bj9 ["cell","size"] []
 m_bj9:mg "_law_dear_by" = some (.ref a.f_bj9)
 F_bs9:Fun K "may_take" "may_take" DH a.f_bs9 a.d_bs9
 b_bs9:Binds K a.d_bs9 ["guild","house","road"] []
 m_bs9:mg "may_take" = some (.ref a.f_bs9)
 F_e9:Fun K "like" "Guild.like" MN a.f_e9 a.d_e9
 b_e9:Binds K a.d_e9 ["self","a","b","rank"] []
 me_e9:Meth K a.C_Guild "like" a.f_e9
 F_f9:Fun K "liking" "Guild.liking" MM a.f_f9 a.d_f9
 b_f9:Binds K a.d_f9 ["self","a","b"] []
 me_f9:Meth K a.C_Guild "liking" a.f_f9
 F_g9:Fun K "neighbours" "Guild.neighbours" MK a.f_g9 a.d_g9
 b_g9:Binds K a.d_g9 ["self","a"] []
 me_g9:Meth K a.C_Guild "neighbours" a.f_g9
 F_j9:Fun K "require_long_road" "Guild.require_long_road" MG a.f_j9 a.d_j9
 b_j9:Binds K a.d_j9 ["self","road"] []
 me_j9:Meth K a.C_Guild "require_long_road" a.f_j9
 F_k9:Fun K "require_two_houses" "Guild.require_two_houses" MF a.f_k9 a.d_k9
 b_k9:Binds K a.d_k9 ["self","a","b"] []
 me_k9:Meth K a.C_Guild "require_two_houses" a.f_k9
 F_o9:Fun K "twin" "Guild.twin" MA a.f_o9 a.d_o9
 b_o9:Binds K a.d_o9 ["self"] []
 me_o9:Meth K a.C_Guild "twin" a.f_o9
 F_c9:Fun K "lay_way" "Guild.lay_way" MP a.f_c9 a.d_c9
 b_c9:Binds K a.d_c9 ["self","a","b"] []
 me_c9:Meth K a.C_Guild "lay_way" a.f_c9
 F_d9:Fun K "lift_way" "Guild.lift_way" MO a.f_d9 a.d_d9
 b_d9:Binds K a.d_d9 ["self","a","b"] []
 me_d9:Meth K a.C_Guild "lift_way" a.f_d9
 F_h9:Fun K "rank_of" "Guild.rank_of" MI a.f_h9 a.d_h9
 b_h9:Binds K a.d_h9 ["self","road"] []
 me_h9:Meth K a.C_Guild "rank_of" a.f_h9
 F_l9:Fun K "shun" "Guild.shun" ME a.f_l9 a.d_l9
 b_l9:Binds K a.d_l9 ["self","a","b"] []
 me_l9:Meth K a.C_Guild "shun" a.f_l9
 F_p9:Fun K "wish" "Guild.wish" Mz a.f_p9 a.d_p9
 b_p9:Binds K a.d_p9 ["self","road","rank"] []
 me_p9:Meth K a.C_Guild "wish" a.f_p9
 F_bd9:Fun K "write_to_all" "Post.write_to_all" DX a.f_bd9 a.d_bd9
 b_bd9:Binds K a.d_bd9 ["self","writer"] []
 me_bd9:Meth K a.C_Post "write_to_all" a.f_bd9
 F_q9:Fun K "__init__" "Post.__init__" DD a.f_q9 a.d_q9
 b_q9:Binds K a.d_q9 ["self","guild"] []
 F_t9:Fun K "choose_anew" "Post.choose_anew" Mv a.f_t9 a.d_t9
 b_t9:Binds K a.d_t9 ["self","house"] []
 me_t9:Meth K a.C_Post "choose_anew" a.f_t9
 F_y9:Fun K "rise" "Post.rise" Mq a.f_y9 a.d_y9
 b_y9:Binds K a.d_y9 ["self","a","b"] []
 me_y9:Meth K a.C_Post "rise" a.f_y9
 F_bm9:Fun K "_law_guild_by" "_law_guild_by" DO a.f_bm9 a.d_bm9
 b_bm9:Binds K a.d_bm9 ["size","ways","fond","dear","shy"] []
 m_bm9:mg "_law_guild_by" = some (.ref a.f_bm9)
 F_bu9:Fun K "standing" "standing" DF a.f_bu9 a.d_bu9
 b_bu9:Binds K a.d_bu9 ["guild","road"] []
 m_bu9:mg "standing" = some (.ref a.f_bu9)
 F_u9:Fun K "fall" "Post.fall" Mu a.f_u9 a.d_u9
 b_u9:Binds K a.d_u9 ["self","a","b"] []
 me_u9:Meth K a.C_Post "fall" a.f_u9
 F_x9:Fun K "hear" "Post.hear" Mr a.f_x9 a.d_x9
 b_x9:Binds K a.d_x9 ["self","writer","receiver","road"] []
 me_x9:Meth K a.C_Post "hear" a.f_x9
 F_r9:Fun K "carry" "Post.carry" My a.f_r9 a.d_r9
 b_r9:Binds K a.d_r9 ["self","a","b"] []
 me_r9:Meth K a.C_Post "carry" a.f_r9
 F_bn9:Fun K "_law_post_by" "_law_post_by" DN a.f_bn9 a.d_bn9
 b_bn9:Binds K a.d_bn9 ["script","size","ways"] []
 m_bn9:mg "_law_post_by" = some (.ref a.f_bn9)
 F_s9:Fun K "carry_next" "Post.carry_next" Mw a.f_s9 a.d_s9
 b_s9:Binds K a.d_s9 ["self"] []
 me_s9:Meth K a.C_Post "carry_next" a.f_s9
 F_bk9:Fun K "_law_deed_done" "_law_deed_done" DQ a.f_bk9 a.d_bk9
 b_bk9:Binds K a.d_bk9 ["post","ways","size","cell"] []
 m_bk9:mg "_law_deed_done" = some (.ref a.f_bk9)
 F_z9:Fun K "settle" "Post.settle" Mp a.f_z9 a.d_z9
 b_z9:Binds K a.d_z9 ["self","most"] []
 me_z9:Meth K a.C_Post "settle" a.f_z9
 F_bi9:Fun K "_law_counted" "_law_counted" DS a.f_bi9 a.d_bi9
 b_bi9:Binds K a.d_bi9 ["post","other","most"] []
 m_bi9:mg "_law_counted" = some (.ref a.f_bi9)
 F_bg9:Fun K "law" "law" DU a.f_bg9 a.d_bg9
 b_bg9:Binds K a.d_bg9 ["script"] []
 m_bg9:mg "law" = some (.ref a.f_bg9)
 g_SEAT:∃t,mg "SEAT" = some (.int 0 t)
 g_MOST_HOUSES:∃t,mg "MOST_HOUSES" = some (.int 60 t)
 z_len:mg "len" = none
 z_range:mg "range" = none
 z_min:mg "min" = none
 z_max:mg "max" = none
 z_set:mg "set" = none
 z_list:mg "list" = none
 z_tuple:mg "tuple" = none
 z_isinstance:mg "isinstance" = none
 z_bool:mg "bool" = none
 z_int:mg "int" = none
 z_any:mg "any" = none
def aN(a:Adr)(K:F0):Mi.Cm:=⟨λc=>match c with|0=>a.C_Guild|1=>a.C_Post|_=>0,K,[]⟩
end K13
namespace K13
open PySem L2 Mi
def cO:List (Str×Sh):=[("ways",.ct .fz),("likings",.ct .fz),("shuns",.ct .fz),("wish_ranks",.ct .fz)]
def b8:List (Str×Sh):=[("guild",.ob cO),("roads",.ct .fz),("told_last",.ct .fz),("written_last",.ct .fz),("letters",.ct .fz),("standings",.ct (.ct .fz))]
def Sq:List Md:=[.O (.ob cO),.F]
def SX:List Md:=[]
def FT:Tp->SO:=aw (jo (aQ (Ih (d7 (bn Ck (vr 1) (aV (.int 1)))) (d7 (bn Gx (vr 1) (aV (.int 60))))))
 (λ_=>.bad)
 bT)
 (aw (cR 0 "house_count" 0 (aQ (vr 1)))
 (aw (cR 0 "ways" 0 (aQ (aV (.dT [] []))))
 (aw (cR 0 "likings" 0 (aQ (aV (.dT [] []))))
 (aw (cR 0 "shuns" 0 (aQ (aV (.dT [] []))))
 (cR 0 "wish_ranks" 0 (aQ (aV (.dT [] []))))))))
def Cj:List D->Out D:=run 2 FT
theorem FS:FT=(aw (jo (aQ (Ih (d7 (bn Ck (vr 1) (aV (.int 1)))) (d7 (bn Gx (vr 1) (aV (.int 60))))))
 (λ_=>.bad)
 bT)
 (aw (cR 0 "house_count" 0 (aQ (vr 1)))
 (aw (cR 0 "ways" 0 (aQ (aV (.dT [] []))))
 (aw (cR 0 "likings" 0 (aQ (aV (.dT [] []))))
 (aw (cR 0 "shuns" 0 (aQ (aV (.dT [] []))))
 (cR 0 "wish_ranks" 0 (aQ (aV (.dT [] []))))))))):=rfl
def Sn:List Md:=[.R,.R,.F]
def SW:List Md:=[]
def FR:Tp->SO:=cq (aQ (je (gb (un (bQ 0 "house_count") (vr 0))) [1,2] (d7 (bn (mS false) (j9 (aB (vr 2) (aB (vr 0) a7))) (vr 1))) (vr 0)))
def OR:List D->Out D:=iO 3 FR
def Sb:List Md:=[.R,.F,.R]
def SH:List Md:=[]
def FF:Tp->SO:=cq (aQ (un uj (je (ke (vr 2)) [1,0] (λ_=>.ok true) (bn (mS false) (j9 (aB (vr 1) (aB (ql (vr 0)) a7))) (un (bQ 0 "shuns") (vr 2))))))
def OJ:List D->Out D:=run 3 FF
def Sa:List Md:=[.R]
def SG:List Md:=[]
def FE:Tp->SO:=cq (aQ (ql (un (bQ 0 "house_count") (vr 0))))
def nQ:List D->Out D:=run 1 FE
def RX:List Md:=[.R]
def Sy:List Md:=[.F]
def Fu:Tp->SO:=aw (oz 1 "letters" 0 1)
 (λ_=>.bad)
def OE:List D->Out D:=run 2 Fu
def RW:List Md:=[.O (.ob b8),.F,.F]
def Sx:List Md:=[]
def Ft:Tp->SO:=aw (aY (jS (fy 1 "letters" 0) (fc "letters" 0) (j9 (aB (vr 1) (aB (vr 2) a7)))))
 (aw (aY (jS (fy 1 "told_last" 0) (fc "told_last" 0) (j9 (aB (vr 1) (aB (vr 2) a7)))))
 (aw (aY (jS (fy 1 "written_last" 0) (fc "written_last" 0) (j9 (aB (vr 1) (aB (vr 2) a7)))))
 (aY (rs (my (i5 (cN 0) 1 "standings") (Gn 2)) (nn (i5 (cN 0) 1 "standings") (nq (cN 0) (fb 0) "standings") (Gn 2)) (vr 1)))))
def Jw:List D->Out D:=run 3 Ft
def N7:List Md:=[.O (.ob b8),.F,.F]
def Ov:List Md:=[.F]
def xY:Tp->SO:=aw (bN 3 (aQ (bn Ij (un (bQ 1 "roads") (vr 0)) (vr 1))))
 (aw (jo (aQ (d7 (bn (GG false) (vq (un (bQ 1 "written_last") (vr 0)) (j9 (aB (vr 1) (aB (vr 2) a7)))) (vr 3))))
 MR
 bT)
 (aw (gm (fy 1 "written_last" 0) (fc "written_last" 0) (j9 (aB (vr 1) (aB (vr 2) a7))) (aQ (vr 3)))
 (gm (fy 1 "letters" 0) (fc "letters" 0) (j9 (aB (vr 1) (aB (vr 2) a7))) (aQ (vr 3)))))
def u9:List D->Out D:=run 4 xY
def NY:List Md:=[.R,.F]
def Op:List Md:=[]
def xT:Tp->SO:=aw (jo (aQ (d7 (bn Ck (vr 1) (un n6 (vr 0)))))
 (cq (aQ (ql (bn Ij (vr 0) (vr 1)))))
 bT)
 (cq (aQ (aV (.int 0))))
def m_bh9:List D->Out D:=run 2 xT
def NU:List Md:=[.F,.F]
def Ol:List Md:=[.O (.ct .fz),.F]
abbrev Gc:Tp->SO:=(aw (bN 0 (aQ (bn cZ (bn j7 (bn sJ (vr 0) (aV (.int 48271))) (aV (.int 11))) (aV (.int 2147483647)))))
 (gm (cN 2) (fb 2) (j9 (aB (bn cZ (vr 0) (vr 1)) (aB (bn cZ (bn dN (vr 0) (aV (.int 7))) (vr 1)) a7))) (aQ (bn uu (bn cZ (bn dN (vr 0) (aV (.int 49))) (aV (.int 7))) (aV (.int 3))))))
def xN:Tp->SO:=aw (bN 2 (aQ (aV (.dT [] []))))
 (aw (fW (aQ (gb (bn cZ (vr 0) (aV (.int 5))))) (wT 3)
 Gc)
 (cq (C4 2)))
def m_bl9:List D->Out D:=iO 4 xN
def NR:List Md:=[.F,.F,.F]
def Oh:List Md:=[.O (.ct .fz),.O (.ct .fz),.F]
abbrev F7:Tp->SO:=(aw (aY (HH 4 (mQ (cN 3) (fb 3) EC (bn cZ (vr 0) (un n6 (vr 3))))))
 (aw (bN 0 (aQ (bn dN (vr 0) (aV (.int 5)))))
 (bN 5 (aQ (bn uu (vr 5) (aV (.int 1)))))))
def xK:Tp->SO:=aw (bN 3 (aQ (je (BL (aV (.int 1)) (vr 2)) [1] (d7 (bn (Az true) (vr 0) (vr 1))) (vr 0))))
 (aw (bN 4 (aQ (nM (aB (vr 1) a7))))
 (aw (bN 5 (aQ (bn cZ (vr 0) (aV (.int 4)))))
 (aw (jo (aQ (d7 (bn (Az false) (bn cZ (bn dN (vr 0) (aV (.int 4))) (aV (.int 8))) (aV (.int 3)))))
 (bN 5 (aQ (vr 2)))
 bT)
 (aw (bN 0 (aQ (bn dN (vr 0) (aV (.int 4)))))
 (aw (za (aQ (CY (d7 (bn Gx (vr 5) (aV (.int 0)))) (d7 (bn Gx (un n6 (vr 3)) (aV (.int 0))))))
 F7 100000)
 (cq (aQ (bn HF (vr 4) (nM (aB (aV (.int 0)) a7))))))))))
def m_bo9:List D->Out D:=iO 6 xK
def NQ:List Md:=[.F,.F]
def Og:List Md:=[.O (.ct .fz),.F,.F,.F]
abbrev F6:Tp->SO:=(aw (bN 0 (aQ (bn cZ (bn j7 (bn sJ (vr 0) (aV (.int 48271))) (aV (.int 23))) (aV (.int 2147483647)))))
 (aw (bN 4 (aQ (bn cZ (vr 0) (vr 1))))
 (aw (bN 5 (aQ (bn cZ (bn j7 (bn j7 (vr 4) (aV (.int 1))) (bn cZ (bn dN (vr 0) (aV (.int 7))) (bn uu (vr 1) (aV (.int 1))))) (vr 1))))
 (jo (aQ (d7 (bn xA (j9 (aB (vr 4) (aB (vr 5) a7))) (vr 2))))
 (aY (mQ (cN 2) (fb 2) lX (j9 (aB (vr 4) (aB (vr 5) a7)))))
 bT))))
def xJ:Tp->SO:=aw (bN 2 (aQ (nM a7)))
 (aw (jo (aQ (d7 (bn Ck (vr 1) (aV (.int 2)))))
 (cq (C4 2))
 bT)
 (aw (fW (aQ (gb (bn cZ (vr 0) (aV (.int 3))))) (wT 3)
 F6)
 (cq (C4 2))))
def m_bp9:List D->Out D:=iO 6 xJ
def NP:List Md:=[.F,.F]
def Of:List Md:=[.F,.O (.ct .fz),.F,.F,.F]
abbrev yh:Tp->SO:=(aw (jo (aQ (d7 (bn (Az false) (bn cZ (bn Dy (vr 2) (bn cZ (vr 4) (aV (.int 29)))) (aV (.int 2))) (aV (.int 1)))))
 (aY (mQ (cN 3) (fb 3) lX (j9 (aB (vr 5) (aB (vr 6) a7)))))
 bT)
 (bN 4 (aQ (bn j7 (vr 4) (aV (.int 1))))))
abbrev F5:Tp->SO:=(fW (aQ (BL (bn j7 (vr 5) (aV (.int 1))) (vr 1))) (wT 6)
 yh)
def xI:Tp->SO:=aw (bN 2 (aQ (bn cZ (bn sJ (bn cZ (bn sJ (bn j7 (vr 0) (aV (.int 1))) (aV (.int 48271))) (aV (.int 2147483647))) (aV (.int 16807))) (aV (.int 2147483647)))))
 (aw (bN 3 (aQ (nM a7)))
 (aw (bN 4 (aQ (aV (.int 0))))
 (aw (fW (aQ (gb (vr 1))) (wT 5)
 F5)
 (cq (C4 3)))))
def m_bq9:List D->Out D:=iO 7 xI
def NO:List Md:=[.F]
def Oe:List Md:=[]
def xH:Tp->SO:=cq (aQ (HK (bn Qu (vr 0) (aV (.ty "int"))) (un Jp (bn Qu (vr 0) (aV (.ty "bool"))))))
def m_br9:List D->Out D:=run 1 xH
def N5:List Md:=[.F,.F]
def Ot:List Md:=[.F]
def xW:Tp->SO:=aw (jo (aQ (d7 (bn (Az false) (vr 0) (aV (.int 0)))))
 (cq (aQ (nM (aB (aV (.int 0)) a7))))
 bT)
 (aw (bN 2 (aQ (bn u4 (vr 1) (aV .non))))
 (aw (jo (aQ (d7 (bn (vf false) (vr 2) (aV .non))))
 (cq (aQ (aV .non)))
 bT)
 (cq (aQ (bn Aq (vr 2) (aV (.int 2)))))))
def m_be9:List D->Out D:=run 3 xW
def N0:List Md:=[.R]
def Os:List Md:=[]
def xV:Tp->SO:=aw (jo (aQ (d7 (bn (vf false) (vr 0) (aV .non))))
 (cq (aQ (aV .non)))
 bT)
 (cq (aQ (un i0 (qu (vr 0)))))
def m_bf9:List D->Out D:=run 1 xV
def NM:List Md:=[.R,.F]
def Oc:List Md:=[]
def xE:Tp->SO:=jo (aQ (Ih (d7 (bn Ck (bn (oA dM) (vr 0) (aV (.int 0))) (aV (.int 0)))) (d7 (bn UP (bn (oA gK) (vr 0) (aV (.int 0))) (vr 1)))))
 (λ_=>.bad)
 bT
def m_bt9:List D->Out D:=run 2 xE
def Sf:List Md:=[.R,.R]
def SM:List Md:=[]
def FK:Tp->SO:=aY (aQ (pc m_bt9 (aB (vr 1) (aB (ql (un (bQ 0 "house_count") (vr 0))) a7))))
def u8:List D->Out D:=run 2 FK
def N9:List Md:=[.R]
def Oy:List Md:=[]
def x5:Tp->SO:=cq (aQ (je (ke (un (bQ 1 "roads") (vr 0))) [] (λ_=>.ok true) (pc m_bf9 (aB (vr 0) a7))))
def Ai:List D->Out D:=iO 1 x5
def N8:List Md:=[.R]
def Ox:List Md:=[]
def xZ:Tp->SO:=cq (aQ (je (Dq (un (bQ 1 "letters") (vr 0))) [0] (λ_=>.ok true) (j9 (aB (bn Aq (vr 0) (aV (.int 0))) (aB (bn Aq (vr 0) (aV (.int 1))) (aB (pc m_bf9 (aB (bn mG (un (bQ 1 "letters") (vr 1)) (vr 0)) a7)) a7))))))
def nT:List D->Out D:=iO 1 xZ
def NW:List Md:=[.F,.F]
def On:List Md:=[.O (.ct .fz),.F,.F]
abbrev Ge:Tp->SO:=(aw (bN 0 (aQ (bn cZ (bn j7 (bn sJ (vr 0) (aV (.int 48271))) (aV (.int 17))) (aV (.int 2147483647)))))
 (aw (bN 4 (aQ (pc m_bo9 (aB (bn dN (vr 0) (aV (.int 9))) (aB (bn j7 (aV (.int 1)) (bn cZ (vr 0) (bn uu (vr 1) (aV (.int 1))))) (aB (vr 1) a7))))))
 (gm (cN 2) (fb 2) (un Db (vr 4)) (aQ (bn uu (bn cZ (bn dN (vr 0) (aV (.int 5))) (aV (.int 9))) (aV (.int 4)))))))
def xQ:Tp->SO:=aw (bN 2 (aQ (aV (.dT [] []))))
 (aw (jo (aQ (d7 (bn Ck (vr 1) (aV (.int 2)))))
 (cq (C4 2))
 bT)
 (aw (fW (aQ (gb (bn cZ (vr 0) (aV (.int 4))))) (wT 3)
 Ge)
 (cq (C4 2))))
def m_bj9:List D->Out D:=iO 5 xQ
def NN:List Md:=[.R,.F,.R]
def Od:List Md:=[]
def xG:Tp->SO:=aw (jo (aQ (Ih (d7 (bn (vf false) (vr 2) (aV .non))) (Ih (d7 (bn (Az false) (vr 1) (aV (.int 0)))) (d7 (bn Ly (vr 1) (vr 2))))))
 (cq (aQ (aV (.bl false))))
 bT)
 (cq (aQ (un Jp (pm 0 "shuns_one_of" OJ (vr 0) (aB (vr 1) (aB (vr 2) a7))))))
def m_bs9:List D->Out D:=run 3 xG
def Sk:List Md:=[.O (.ob cO),.F,.F,.F]
def SS:List Md:=[]
def FO:Tp->SO:=aw (aY (aQ (pm 0 "require_houses" u8 (vr 0) (aB (nM (aB (vr 1) (aB (vr 2) a7))) a7))))
 (gm (fy 0 "likings" 0) (fc "likings" 0) (j9 (aB (vr 1) (aB (vr 2) a7))) (aQ (vr 3)))
def OO:List D->Out D:=run 4 FO
def Sj:List Md:=[.R,.F,.F]
def SR:List Md:=[]
def FN:Tp->SO:=aw (aY (aQ (pm 0 "require_houses" u8 (vr 0) (aB (nM (aB (vr 1) (aB (vr 2) a7))) a7))))
 (cq (aQ (ql (GB (un (bQ 0 "likings") (vr 0)) (j9 (aB (vr 1) (aB (vr 2) a7))) (aV (.int 0))))))
def ON:List D->Out D:=run 3 FN
def Si:List Md:=[.R,.F]
def SQ:List Md:=[]
def FM:Tp->SO:=aw (aY (aQ (pm 0 "require_houses" u8 (vr 0) (aB (nM (aB (vr 1) a7)) a7))))
 (cq (aQ (pm 0 "houses_paired" OR (vr 0) (aB (un (bQ 0 "ways") (vr 0)) (aB (vr 1) a7)))))
def OM:List D->Out D:=iO 2 FM
def Se:List Md:=[.R,.R]
def SL:List Md:=[]
def FJ:Tp->SO:=aw (aY (aQ (pm 0 "require_houses" u8 (vr 0) (aB (vr 1) a7))))
 (aw (jo (aQ (d7 (bn Ck (un n6 (vr 1)) (aV (.int 2)))))
 (λ_=>.bad)
 bT)
 (aw (jo (aQ (d7 (bn (Az true) (bn Ij (vr 1) (un Jr (aV (.int 1)))) (aV (.int 0)))))
 (λ_=>.bad)
 bT)
 (jo (aQ (d7 (bn (Az true) (un n5 (vr 1)) (un n6 (vr 1)))))
 (λ_=>.bad)
 bT)))
def JC:List D->Out D:=run 2 FJ
def Sd:List Md:=[.R,.F,.F]
def SK:List Md:=[]
def FI:Tp->SO:=aw (aY (aQ (pm 0 "require_houses" u8 (vr 0) (aB (nM (aB (vr 1) (aB (vr 2) a7))) a7))))
 (jo (aQ (d7 (bn (Az false) (vr 1) (vr 2))))
 (λ_=>.bad)
 bT)
def FZ:List D->Out D:=run 3 FI
def R9:List Md:=[.R]
def SF:List Md:=[.O (.ob cO)]
def FD:Tp->SO:=aw (bN 1 (aQ (pk 0 Cj (aB (ql (un (bQ 0 "house_count") (vr 0))) a7))))
 (aw (aY (ut (fy 0 "ways" 1) (fc "ways" 1) (un (bQ 0 "ways") (vr 0))))
 (aw (aY (ut (fy 0 "likings" 1) (fc "likings" 1) (un (bQ 0 "likings") (vr 0))))
 (aw (aY (ut (fy 0 "shuns" 1) (fc "shuns" 1) (un (bQ 0 "shuns") (vr 0))))
 (aw (aY (ut (fy 0 "wish_ranks" 1) (fc "wish_ranks" 1) (un (bQ 0 "wish_ranks") (vr 0))))
 (cq (C4 1))))))
def ye:List D->Out D:=iO 2 FD
def Sm:List Md:=[.O (.ob cO),.F,.F]
def SV:List Md:=[]
def FQ:Tp->SO:=aw (aY (aQ (pm 0 "require_two_houses" FZ (vr 0) (aB (vr 1) (aB (vr 2) a7)))))
 (aw (jo (aQ (d7 (bn (mS false) (j9 (aB (vr 1) (aB (vr 2) a7))) (un (bQ 0 "ways") (vr 0)))))
 (λ_=>.bad)
 bT)
 (aw (gm (fy 0 "ways" 0) (fc "ways" 0) (j9 (aB (vr 1) (aB (vr 2) a7))) (aQ (aV (.bl true))))
 (gm (fy 0 "ways" 0) (fc "ways" 0) (j9 (aB (vr 2) (aB (vr 1) a7))) (aQ (aV (.bl true))))))
def JD:List D->Out D:=run 3 FQ
def Sl:List Md:=[.O (.ob cO),.F,.F]
def SU:List Md:=[]
def FP:Tp->SO:=aw (aY (aQ (pm 0 "require_two_houses" FZ (vr 0) (aB (vr 1) (aB (vr 2) a7)))))
 (aw (jo (aQ (d7 (bn (mS true) (j9 (aB (vr 1) (aB (vr 2) a7))) (un (bQ 0 "ways") (vr 0)))))
 (λ_=>.bad)
 bT)
 (aw (aY (oK (fy 0 "ways" 0) (fc "ways" 0) (j9 (aB (vr 1) (aB (vr 2) a7)))))
 (aY (oK (fy 0 "ways" 0) (fc "ways" 0) (j9 (aB (vr 2) (aB (vr 1) a7)))))))
def OP:List D->Out D:=run 3 FP
def Sg:List Md:=[.R,.R]
def SN:List Md:=[.F]
def FL:Tp->SO:=aw (aY (aQ (pm 0 "require_long_road" JC (vr 0) (aB (vr 1) a7))))
 (aw (bN 2 (aQ (ql (vq (un (bQ 0 "wish_ranks") (vr 0)) (un Db (qu (vr 1)))))))
 (aw (jo (aQ (d7 (bn (vf false) (vr 2) (aV .non))))
 (cq (aQ (pm 0 "liking" ON (vr 0) (aB (ql (bn Ij (vr 1) (aV (.int 0)))) (aB (ql (bn Ij (vr 1) (aV (.int 1)))) a7)))))
 bT)
 (cq (aQ (vr 2)))))
def OL:List D->Out D:=run 3 FL
def Sc:List Md:=[.O (.ob cO),.F,.F]
def SI:List Md:=[]
def FG:Tp->SO:=aw (aY (aQ (pm 0 "require_two_houses" FZ (vr 0) (aB (vr 1) (aB (vr 2) a7)))))
 (gm (fy 0 "shuns" 0) (fc "shuns" 0) (j9 (aB (vr 1) (aB (vr 2) a7))) (aQ (aV (.bl true))))
def OK:List D->Out D:=run 3 FG
def R8:List Md:=[.O (.ob cO),.R,.F]
def SE:List Md:=[]
def FC:Tp->SO:=aw (aY (aQ (pm 0 "require_long_road" JC (vr 0) (aB (vr 1) a7))))
 (gm (fy 0 "wish_ranks" 0) (fc "wish_ranks" 0) (un Db (qu (vr 1))) (aQ (vr 2)))
def OG:List D->Out D:=run 3 FC
def N6:List Md:=[.O (.ob b8),.F]
def Ou:List Md:=[.F]
abbrev Gh:Tp->SO:=(aY (mm 1 "write_road" [(.O 0),.F,.F] u9 (vr 0) (aB (vr 1) (aB (vr 2) a7))))
def xX:Tp->SO:=fW (aQ (ke (pm 0 "neighbours" OM (un (bQ 1 "guild") (vr 0)) (aB (vr 1) a7)))) (wT 2)
 Gh
def iy:List D->Out D:=run 3 xX
def R7:List Md:=[.O (.ob b8),.R]
def SD:List Md:=[]
def FA:Tp->SO:=aw (cR 1 "guild" 0 (aQ (pm 0 "twin" ye (vr 1) a7)))
 (aw (cR 1 "roads" 0 (aQ (bn xf (nM (aB (aV .non) a7)) (pm 0 "size" nQ (vr 1) a7))))
 (aw (nX (fy 1 "roads" 0) (fc "roads" 0) (aV (.int 0)) (aQ (nM (aB (aV (.int 0)) a7))))
 (aw (cR 1 "told_last" 0 (aQ (aV (.dT [] []))))
 (aw (cR 1 "written_last" 0 (aQ (aV (.dT [] []))))
 (aw (cR 1 "letters" 0 (aQ (aV (.dT [] []))))
 (aw (cR 1 "standings" 0 (aQ (je (gb (pm 0 "size" nQ (vr 1) a7)) [] (λ_=>.ok true) (aV (.dK [] [])))))
 (aY (mm 1 "write_to_all" [(.O 0),.F] iy (vr 0) (aB (aV (.int 0)) a7)))))))))
def yd:List D->Out D:=run 2 FA
theorem u6:FA=(aw (cR 1 "guild" 0 (aQ (pm 0 "twin" ye (vr 1) a7)))
 (aw (cR 1 "roads" 0 (aQ (bn xf (nM (aB (aV .non) a7)) (pm 0 "size" nQ (vr 1) a7))))
 (aw (nX (fy 1 "roads" 0) (fc "roads" 0) (aV (.int 0)) (aQ (nM (aB (aV (.int 0)) a7))))
 (aw (cR 1 "told_last" 0 (aQ (aV (.dT [] []))))
 (aw (cR 1 "written_last" 0 (aQ (aV (.dT [] []))))
 (aw (cR 1 "letters" 0 (aQ (aV (.dT [] []))))
 (aw (cR 1 "standings" 0 (aQ (je (gb (pm 0 "size" nQ (vr 1) a7)) [] (λ_=>.ok true) (aV (.dK [] [])))))
 (aY (mm 1 "write_to_all" [(.O 0),.F] iy (vr 0) (aB (aV (.int 0)) a7)))))))))):=rfl
def RZ:List Md:=[.O (.ob b8),.F]
def SA:List Md:=[.F]
def Fw:Tp->SO:=aw (bN 2 (aQ (pc m_be9 (aB (vr 1) (aB (un C7 (Rl (my (i5 (cN 0) 1 "standings") (Gn 1)))) a7)))))
 (aw (jo (aQ (d7 (bn (GG false) (vr 2) (bn Ij (un (bQ 1 "roads") (vr 0)) (vr 1)))))
 (cq (aQ (aV (.bl false))))
 bT)
 (aw (nX (fy 1 "roads" 0) (fc "roads" 0) (vr 1) (aQ (vr 2)))
 (aw (aY (mm 1 "write_to_all" [(.O 0),.F] iy (vr 0) (aB (vr 1) a7)))
 (cq (aQ (aV (.bl true)))))))
def FX:List D->Out D:=run 3 Fw
def RU:List Md:=[.O (.ob b8),.F,.F]
def Sv:List Md:=[]
def Fq:Tp->SO:=aw (aY (Oz 0 "lay_way" (i5 (cN 0) 1 "guild") (nq (cN 0) (fb 0) "guild") JD (aB (vr 1) (aB (vr 2) a7))))
 (aw (aY (mm 1 "write_road" [(.O 0),.F,.F] u9 (vr 0) (aB (bn xB (vr 1) (vr 2)) (aB (bn x9 (vr 1) (vr 2)) a7))))
 (aY (mm 1 "write_road" [(.O 0),.F,.F] u9 (vr 0) (aB (bn x9 (vr 1) (vr 2)) (aB (bn xB (vr 1) (vr 2)) a7)))))
def OC:List D->Out D:=run 3 Fq
def NT:List Md:=[.F,.R,.R,.R,.R]
def Oj:List Md:=[.O (.ob cO),.R,.R,.R,.R]
abbrev Gb:Tp->SO:=(aY (mm 0 "lay_way" [(.O 5),.F,.F] JD (vr 5) (aB (ql (vr 6)) (aB (ql (vr 7)) a7))))
abbrev Ga:Tp->SO:=(aY (mm 0 "like" [(.O 5),.F,.F,.F] OO (vr 5) (aB (ql (bn Aq (vr 8) (aV (.int 0)))) (aB (ql (bn Aq (vr 8) (aV (.int 1)))) (aB (ql (bn mG (vr 2) (vr 8))) a7)))))
abbrev F9:Tp->SO:=(aY (mm 0 "wish" [(.O 5),.F,.F] OG (vr 5) (aB (un i0 (qu (vr 9))) (aB (ql (bn mG (vr 3) (vr 9))) a7))))
abbrev F8:Tp->SO:=(aY (mm 0 "shun" [(.O 5),.F,.F] OK (vr 5) (aB (ql (vr 6)) (aB (ql (vr 7)) a7))))
def xM:Tp->SO:=aw (bN 5 (aQ (pk 0 Cj (aB (vr 0) a7))))
 (aw (fW (aQ (ke (vr 1))) (L0 6 7)
 Gb)
 (aw (fW (aQ (ke (un Am (vr 2)))) (wT 8)
 Ga)
 (aw (fW (aQ (ke (un Am (vr 3)))) (wT 9)
 F9)
 (aw (fW (aQ (ke (vr 4))) (L0 6 7)
 F8)
 (cq (C4 5))))))
def m_bm9:List D->Out D:=iO 10 xM
def NL:List Md:=[.R,.F]
def Oa:List Md:=[]
def xD:Tp->SO:=cq (aQ (j9 (aB (un Jr (pm 0 "rank_of" OL (vr 0) (aB (vr 1) a7))) (aB (un n6 (vr 1)) (aB (vr 1) a7)))))
def m_bu9:List D->Out D:=run 2 xD
def RY:List Md:=[.O (.ob b8),.F,.F]
def Sz:List Md:=[]
def Fv:Tp->SO:=aw (aY (Oz 0 "lift_way" (i5 (cN 0) 1 "guild") (nq (cN 0) (fb 0) "guild") OP (aB (vr 1) (aB (vr 2) a7))))
 (aw (aY (mm 1 "forget" [(.O 0),.F,.F] Jw (vr 0) (aB (vr 1) (aB (vr 2) a7))))
 (aw (aY (mm 1 "forget" [(.O 0),.F,.F] Jw (vr 0) (aB (vr 2) (aB (vr 1) a7))))
 (aw (aY (mm 1 "choose_anew" [(.O 0),.F] FX (vr 0) (aB (bn xB (vr 1) (vr 2)) a7)))
 (aY (mm 1 "choose_anew" [(.O 0),.F] FX (vr 0) (aB (bn x9 (vr 1) (vr 2)) a7))))))
def OF:List D->Out D:=run 3 Fv
def RV:List Md:=[.O (.ob b8),.F,.F,.F]
def Sw:List Md:=[]
def Fs:Tp->SO:=aw (gm (fy 1 "told_last" 0) (fc "told_last" 0) (j9 (aB (vr 1) (aB (vr 2) a7))) (aQ (vr 3)))
 (jo (aQ (d7 (pc m_bs9 (aB (un (bQ 1 "guild") (vr 0)) (aB (vr 2) (aB (vr 3) a7))))))
 (gm (my (i5 (cN 0) 1 "standings") (Gn 2)) (nn (i5 (cN 0) 1 "standings") (nq (cN 0) (fb 0) "standings") (Gn 2)) (vr 1) (aQ (pc m_bu9 (aB (un (bQ 1 "guild") (vr 0)) (aB (bn HF (nM (aB (vr 2) a7)) (vr 3)) a7)))))
 (aY (rs (my (i5 (cN 0) 1 "standings") (Gn 2)) (nn (i5 (cN 0) 1 "standings") (nq (cN 0) (fb 0) "standings") (Gn 2)) (vr 1))))
def OD:List D->Out D:=run 4 Fs
def R6:List Md:=[.O (.ob b8),.F,.F]
def SC:List Md:=[]
def Fy:Tp->SO:=aw (aY (aQ (pm 0 "require_houses" u8 (un (bQ 1 "guild") (vr 0)) (aB (nM (aB (vr 1) (aB (vr 2) a7))) a7))))
 (aw (jo (aQ (d7 (bn (mS true) (j9 (aB (vr 1) (aB (vr 2) a7))) (un (bQ 1 "letters") (vr 0)))))
 (λ_=>.bad)
 bT)
 (aw (aY (Qt 1 "hear" 0 OD (vr 1) (vr 2) (oK (fy 1 "letters" 0) (fc "letters" 0) (j9 (aB (vr 1) (aB (vr 2) a7))))))
 (cq (mm 1 "choose_anew" [(.O 0),.F] FX (vr 0) (aB (vr 2) a7)))))
def Jy:List D->Out D:=run 3 Fy
def NS:List Md:=[.R,.F,.R]
def Oi:List Md:=[.F,.F,.F]
def xL:Tp->SO:=aw (bN 3 (aQ (pc m_bl9 (aB (pc m_bh9 (aB (vr 0) (aB (aV (.int 2)) a7))) (aB (vr 1) a7)))))
 (aw (bN 4 (aQ (pc m_bj9 (aB (pc m_bh9 (aB (vr 0) (aB (aV (.int 3)) a7))) (aB (vr 1) a7)))))
 (aw (bN 5 (aQ (pc m_bp9 (aB (pc m_bh9 (aB (vr 0) (aB (aV (.int 4)) a7))) (aB (vr 1) a7)))))
 (cq (aQ (pk 1 yd (aB (pc m_bm9 (aB (vr 1) (aB (vr 2) (aB (vr 3) (aB (vr 4) (aB (vr 5) a7)))))) a7))))))
def m_bn9:List D->Out D:=iO 6 xL
def R5:List Md:=[.O (.ob b8)]
def SB:List Md:=[.F]
def Fx:Tp->SO:=aw (bN 1 (aQ (pm 1 "first_of_line" OE (vr 0) a7)))
 (cq (mm 1 "carry" [(.O 0),.F,.F] Jy (vr 0) (aB (bn Aq (vr 1) (aV (.int 0))) (aB (bn Aq (vr 1) (aV (.int 1))) a7))))
def Jx:List D->Out D:=run 2 Fx
def NV:List Md:=[.O (.ob b8),.O (.ct .fz),.F,.F]
def Om:List Md:=[.F,.F,.F,.F,.F]
def xP:Tp->SO:=aw (bN 4 (aQ (bn cZ (bn dN (vr 3) (aV (.int 5))) (vr 2))))
 (aw (bN 5 (aQ (bn cZ (bn dN (bn dN (vr 3) (aV (.int 5))) (vr 2)) (vr 2))))
 (aw (bN 6 (aQ (pm 1 "waiting" nT (vr 0) a7)))
 (jo (aQ (CY (d7 (bn Gx (bn cZ (vr 3) (aV (.int 5))) (aV (.int 2)))) (d7 (bn (Az true) (vr 4) (vr 5)))))
 (aw (bN 7 (aQ (j9 (aB (bn xB (vr 4) (vr 5)) (aB (bn x9 (vr 4) (vr 5)) a7)))))
 (jo (aQ (d7 (bn Ly (vr 7) (vr 1))))
 (aw (aY (mm 1 "fall" [(.O 0),.F,.F] OF (vr 0) (aB (vr 4) (aB (vr 5) a7))))
 (aY (mQ (cN 1) (fb 1) BV (vr 7))))
 (aw (aY (mm 1 "rise" [(.O 0),.F,.F] OC (vr 0) (aB (vr 4) (aB (vr 5) a7))))
 (aY (mQ (cN 1) (fb 1) lX (vr 7))))))
 (jo (aQ (d7 (bn Gx (un n6 (vr 6)) (aV (.int 0)))))
 (aw (bN 8 (aQ (bn Ij (vr 6) (bn cZ (bn dN (vr 3) (aV (.int 5))) (un n6 (vr 6))))))
 (aY (mm 1 "carry" [(.O 0),.F,.F] Jy (vr 0) (aB (bn Aq (vr 8) (aV (.int 0))) (aB (bn Aq (vr 8) (aV (.int 1))) a7)))))
 bT))))
def m_bk9:List D->Out D:=run 9 xP
def RT:List Md:=[.O (.ob b8),.F]
def Su:List Md:=[.F]
abbrev JF:Tp->SO:=(aw (aY (mm 1 "carry_next" [(.O 0)] Jx (vr 0) a7))
 (bN 2 (aQ (bn j7 (vr 2) (aV (.int 1))))))
def Fp:Tp->SO:=aw (bN 2 (aQ (aV (.int 0))))
 (aw (za (aQ (CY (d7 (bn Ck (vr 2) (vr 1))) (d7 (bn Gx (un OV (un (bQ 1 "letters") (vr 0))) (aV (.int 0))))))
 JF 100000)
 (cq (aQ (vr 2))))
def OB:List D->Out D:=run 3 Fp
def NX:List Md:=[.O (.ob b8),.O (.ob b8),.F]
def Oo:List Md:=[.F,.F]
abbrev Gf:Tp->SO:=(aw (jo (aQ (d7 (bn (GG false) (pm 1 "waiting" nT (vr 1) a7) (nM a7))))
 (cq (aQ (aV (.bl false))))
 bT)
 (aY (mm 1 "carry_next" [(.O 1)] Jx (vr 1) a7)))
def xS:Tp->SO:=aw (bN 3 (mm 1 "settle" [(.O 0),.F] OB (vr 0) (aB (vr 2) a7)))
 (aw (jo (aQ (Ih (NG (d7 (pc m_br9 (aB (vr 3) a7)))) (Ih (d7 (bn Ck (vr 3) (aV (.int 0)))) (d7 (bn Gx (vr 3) (vr 2))))))
 (cq (aQ (aV (.bl false))))
 bT)
 (aw (jo (aQ (CY (d7 (bn Ck (vr 3) (vr 2))) (d7 (bn (GG true) (pm 1 "waiting" nT (vr 0) a7) (nM a7)))))
 (cq (aQ (aV (.bl false))))
 bT)
 (aw (fW (aQ (gb (vr 3))) (wT 4)
 Gf)
 (cq (aQ (HK (bn (GG false) (pm 1 "table" Ai (vr 0) a7) (pm 1 "table" Ai (vr 1) a7)) (bn (GG false) (pm 1 "waiting" nT (vr 0) a7) (pm 1 "waiting" nT (vr 1) a7))))))))
def m_bi9:List D->Out D:=run 5 xS
def NZ:List Md:=[.R]
def Oq:List Md:=[.F,.F,.O (.ob b8),.O (.ob b8),.O (.ct .fz),.O (.ct .fz),.F,.F]
abbrev Gg:Tp->SO:=(aw (aY (mc [(.O 3),(.O 5),.F,.F] m_bk9 (aB (vr 3) (aB (vr 5) (aB (vr 1) (aB (vr 7) a7))))))
 (aY (mc [(.O 4),(.O 6),.F,.F] m_bk9 (aB (vr 4) (aB (vr 6) (aB (vr 1) (aB (vr 7) a7)))))))
def xU:Tp->SO:=aw (bN 1 (aQ (bn j7 (aV (.int 1)) (bn cZ (pc m_bh9 (aB (vr 0) (aB (aV (.int 0)) a7))) (aV (.int 6))))))
 (aw (bN 2 (aQ (pc m_bq9 (aB (pc m_bh9 (aB (vr 0) (aB (aV (.int 1)) a7))) (aB (vr 1) a7)))))
 (aw (bN 3 (aQ (pc m_bn9 (aB (vr 0) (aB (vr 1) (aB (vr 2) a7))))))
 (aw (bN 4 (aQ (pc m_bn9 (aB (vr 0) (aB (vr 1) (aB (vr 2) a7))))))
 (aw (bN 5 (aQ (un i0 (vr 2))))
 (aw (bN 6 (aQ (un i0 (vr 2))))
 (aw (fW (aQ (ke (bn GP (qu (vr 0)) (aV (.int 6))))) (wT 7)
 Gg)
 (aw (bN 8 (aQ (bn cZ (pc m_bh9 (aB (vr 0) (aB (aV (.int 5)) a7))) (aV (.int 41)))))
 (aw (jo (aQ (d7 (bn (Az false) (bn cZ (bn dN (pc m_bh9 (aB (vr 0) (aB (aV (.int 5)) a7))) (aV (.int 41))) (aV (.int 4))) (aV (.int 1)))))
 (bN 8 (aQ (bn cZ (bn dN (pc m_bh9 (aB (vr 0) (aB (aV (.int 5)) a7))) (aV (.int 164))) (aV (.int 151)))))
 bT)
 (cq (HJ (mc [(.O 3),(.O 4),.F] m_bi9 (aB (vr 3) (aB (vr 4) (aB (vr 8) a7)))) (mc [(.O 3),(.O 4),.F] m_bi9 (aB (vr 3) (aB (vr 4) (aB (bn dN (vr 8) (aV (.int 2))) a7))))))))))))))
def m_bg9:List D->Out D:=run 9 xU
variable{P:Program}{w:World}{K:F0}{mg:Str->Option Value}{base:Heap}{a:Adr}
theorem Ll(T:Txt K mg a base):FnOk P w K mg base d5 1 a.f_a9 a.d_a9 ["self","size"] (dU (aN a K) Sq (KR (aN a K) .F) Cj):=by
 obtain⟨b,g_MOST_HOUSES⟩:=T.g_MOST_HOUSES
 exact iU (more:=SX) (body:=FT) T.F_a9 Re λd=>⟨_,(ac (bY (PW.pt (qF (aK kq (pv 1) am (bf _)) (sj (aK nF (pv 1) (eQ rfl g_MOST_HOUSES (v:=.int 60) ⟨_,rfl⟩) (bf _))))) (ag c7) bo)
  (ac (fS (pv 0) (pv 1) rfl)
  (ac (fS (pv 0) dL rfl)
  (ac (fS (pv 0) dL rfl)
  (ac (fS (pv 0) dL rfl)
  (ag (fS (pv 0) dL rfl))))))),(ao (dE (bc (qI (cI (fx (aH r0 (fx (fF 1)) (fx pI)))) (cI (fx (aH w6 (fx (fF 1)) (fx pI)))))) eI cw)
  (ao (ML (c:=0) (i:=0) T.cl_Guild T.n_house_count rfl rfl (bc (fF 1)))
  (ao (gu (c:=0) (i:=0) T.cl_Guild T.n_ways rfl rfl (bc kn))
  (ao (gu (c:=0) (i:=0) T.cl_Guild T.n_likings rfl rfl (bc kn))
  (ao (gu (c:=0) (i:=0) T.cl_Guild T.n_shuns rfl rfl (bc kn))
  (gu (c:=0) (i:=0) T.cl_Guild T.n_wish_ranks rfl rfl (bc kn)))))))⟩
theorem G4:CompSc (ai DZ) (Gd.kG (Gd.uv (Gd.nth (cV DZ) 0))) "b" ["pairs","a"]:=by ac_rfl
theorem RL(T:Txt K mg a base):FnOk P w K mg base d5 1 a.f_b9 a.d_b9 ["self","pairs","a"] (dU (aN a K) Sn (KO (aN a K) (.ct .fz)) OR):=mP (more:=SW) (body:=FR) T.F_b9 Rb λb=>⟨_,(ag (aZ (kj rfl (d9 rfl T.z_range (aa (ax K rfl (pv 0) rfl) ae)) G4 (ix:=[1,2]) rfl (λ_ _ _ _=>zS (sn (xq (cj b) (bK (aa (pv 2) (aa (pv 0) ae))) (pv 1)))) (λ_ _ _ _=>(pv 0))))),(bC (bc (uP (ix:=[1,2]) (yk (ux (dW (c:=0) T.cl_Guild T.n_house_count (rc (fR 0))))) (by decide) (B0 (fx (ES (fx (cz (ar (fF 2) (ar (fF 0) aW)))) (rc (fR 1))))) (fF 0))))⟩
theorem G1:CompSc (ai IU) { kind:=.function,names:=[ (".0",.local),("b",.local),("a",.free),("self",.free)],isGenerator:=false,isCoroutine:=false,more:=[]:PySem.Scope } "b" ["a","self"]:=by ac_rfl
theorem RD(T:Txt K mg a base):FnOk P w K mg base d5 1 a.f_m9 a.d_m9 ["self","a","houses"] (dU (aN a K) Sb (KR (aN a K) .F) OJ):=iU (more:=SH) (body:=FF) T.F_m9 Q0 λb=>⟨_,(ag (aZ (bw (CT K rfl rfl) rfl T.z_any Gd.Qa (aa (kj rfl (fg K rfl (pv 2)) G1 (ix:=[1,0]) rfl (λ_ _ _ _=>mX) (λ_ _ _ _=>(M6 (xq (cj b) (bK (aa (pv 1) (aa (pv 0) ae))) (ax K rfl (pv 2) rfl))))) ae)))),(bC (bc (ko Rh (fx (oF (uO (ix:=[1,0]) (Gs (rc (fR 2))) (by decide) sm (ES (fx (cz (ar (fF 1) (ar (rS (k:= .X) (ux (fR 0))) aW)))) (rc (dW (c:=0) T.cl_Guild T.n_shuns (rc (fR 2)))))))))))⟩
theorem Li(T:Txt K mg a base):FnOk P w K mg base d5 1 a.f_n9 a.d_n9 ["self"] (dU (aN a K) Sa (KR (aN a K) .F) nQ):=iU (more:=SG) (body:=FE) T.F_n9 QZ λb=>⟨_,(ag (aZ (ax K rfl (pv 0) rfl))),(bC (bc (rS (k:= .X) (ux (dW (c:=0) T.cl_Guild T.n_house_count (rc (fR 0)))))))⟩
theorem Ry(T:Txt K mg a base):FnOk P w K mg base d5 1 a.f_v9 a.d_v9 ["self"] (dU (aN a K) RX (KR (aN a K) .F) OE):=iU (more:=Sy) (body:=Fu) T.F_v9 KP λb=>⟨_,(ac (EA V5 rfl (ax K rfl (pv 0) rfl) (cc (i:=1) KP.nd rfl (Or.inl rfl)) (ag (aZ (pv 1))))
 (ag c7)),(ao (IW (i:=0) (j:=1) (c:=1) (f := "letters") T.cl_Post T.n_letters rfl rfl rfl)
 eI)⟩
theorem Lf(T:Txt K mg a base):FnOk P w K mg base d5 1 a.f_w9 a.d_w9 ["self","writer","receiver"] (dU (aN a K) RW (KR (aN a K) .F) Jw):=iU (more:=Sx) (body:=Ft) T.F_w9 QU λb=>⟨_,(ac (az (lC (cj b) (ax K rfl (pv 0) rfl) (bK (aa (pv 1) (aa (pv 2) ae))) eh ⟨rfl,rfl,rfl,rfl⟩))
 (ac (az (lC (cj b) (ax K rfl (pv 0) rfl) (bK (aa (pv 1) (aa (pv 2) ae))) eh ⟨rfl,rfl,rfl,rfl⟩))
 (ac (az (lC (cj b) (ax K rfl (pv 0) rfl) (bK (aa (pv 1) (aa (pv 2) ae))) eh ⟨rfl,rfl,rfl,rfl⟩))
 (ag (az (uM (dC (cQ K rfl) (ax K rfl (pv 0) rfl) (pv 2) (λ_ _=>rfl)) (pv 1) eh ⟨rfl,rfl,rfl,rfl⟩)))))),(ao (aI (nR (gF (c:=1) (i:=0) T.cl_Post T.n_letters rfl rfl) (fx (cz (ar (fF 1) (ar (fF 2) aW))))))
 (ao (aI (nR (gF (c:=1) (i:=0) T.cl_Post T.n_told_last rfl rfl) (fx (cz (ar (fF 1) (ar (fF 2) aW))))))
 (ao (aI (nR (gF (c:=1) (i:=0) T.cl_Post T.n_written_last rfl rfl) (fx (cz (ar (fF 1) (ar (fF 2) aW))))))
 (aI (Ah (MW (Jb (B6 (c:=1) (B5 (i:=0) rfl) T.cl_Post T.n_standings rfl) (sQ (j:=2)))) (fx (fF 1)))))))⟩
theorem xw(T:Txt K mg a base):FnOk P w K mg base d5 1 a.f_bc9 a.d_bc9 ["self","writer","receiver"] (dU (aN a K) N7 (KR (aN a K) .F) u9):=iU (more:=Ov) (body:=xY) T.F_bc9 DC λb=>⟨_,(ac (aR (i:=3) DC.nd rfl (Or.inl rfl) (dC (cQ K rfl) (ax K rfl (pv 0) rfl) (pv 1) (λ_ _=>rfl)))
 (ac (bY (aK (ku K rfl b.units) (uN (cj b) (ax K rfl (pv 0) rfl) (bK (aa (pv 1) (aa (pv 2) ae))) ⟨rfl,rfl,rfl,rfl⟩) (pv 3) (bf _)) (ag Ja) bo)
 (ac (dJ (cj b) (ax K rfl (pv 0) rfl) (bK (aa (pv 1) (aa (pv 2) ae))) (pv 3) rfl)
 (ag (dJ (cj b) (ax K rfl (pv 0) rfl) (bK (aa (pv 1) (aa (pv 2) ae))) (pv 3) rfl))))),(ao (bq (i:=3) (bc (nC (jL (c:=1) (i:=0) T.cl_Post T.n_roads rfl rfl) (fx (fF 1)))) rfl rfl)
 (ao (dE (bc (cI (fx (aH lB (fx (zX (jL (c:=1) (i:=0) T.cl_Post T.n_written_last rfl rfl) (fx (cz (ar (fF 1) (ar (fF 2) aW)))))) (fx (fF 3)))))) (Mx λ_ _ _=>Rj) cw)
 (ao (fP (gF (c:=1) (i:=0) T.cl_Post T.n_written_last rfl rfl) (fx (cz (ar (fF 1) (ar (fF 2) aW)))) (bc (fF 3)))
 (fP (gF (c:=1) (i:=0) T.cl_Post T.n_letters rfl rfl) (fx (cz (ar (fF 1) (ar (fF 2) aW)))) (bc (fF 3))))))⟩
theorem iT(T:Txt K mg a base):FnOk P w K mg base d5 1 a.f_bh9 a.d_bh9 ["script","k"] (dU (aN a K) NY (KR (aN a K) .F) m_bh9):=iU (more:=Op) (body:=xT) T.F_bh9 Mj λb=>⟨_,(ac (bY (aK kq (pv 1) (bw (bS K rfl) rfl T.z_len Gd.gC (aa (pv 0) ae)) (bf _)) (ag (aZ (dC (cQ K rfl) (pv 0) (pv 1) (λ_ _=>rfl)))) bo)
 (ag (aZ am))),(ao (dE (bc (cI (fx (aH r0 (fx (fF 1)) (fx (ko l7 (ux (fR 0)))))))) (bC (bc (rS (k:= .X) (ux (nC (rc (fR 0)) (fx (fF 1))))))) cw)
 (bC (bc pI)))⟩
theorem Nw(T:Txt K mg a base):FnOk P w K mg base d5 1 a.f_bl9 a.d_bl9 ["cell","size"] (dU (aN a K) NU (KO (aN a K) (.ct .fz)) m_bl9):=mP (more:=Ol) (body:=xN) T.F_bl9 rZ λb=>⟨_,(ac (aR (i:=2) rZ.nd rfl (Or.inl rfl) dL)
 (ac (ft V5 rfl (d9 rfl T.z_range (aa (aJ bE (pv 0) am) ae)) (cc (i:=3) rZ.nd rfl (Or.inl rfl)) (ac (aR (i:=0) rZ.nd rfl (Or.inl rfl) (aJ bE (aJ gw (aJ nE (pv 0) am) am) am))
 (ag (dJ (cj b) (pv 2) (bK (aa (aJ bE (pv 0) (pv 1)) (aa (aJ bE (aJ cD (pv 0) am) (pv 1)) ae))) (aJ nD (aJ bE (aJ cD (pv 0) am) am) am) rfl))))
 (ag (aZ (pv 2))))),(ao (fq (i:=2) (bc kn) rfl rfl)
 (ao (iw (bc (yk (fx (aH b9 (fx (fF 0)) (fx pI))))) (.inl rfl) (Kz (i:=3) rfl rfl) (ao (bq (i:=0) (bc (aH b9 (fx (aH ju (fx (aH uC (fx (fF 0)) (fx pI))) (fx pI))) (fx pI))) rfl rfl)
 (fP (xj (i:=2) rfl) (fx (cz (ar (aH b9 (fx (fF 0)) (fx (fF 1))) (ar (aH b9 (fx (aH di (fx (fF 0)) (fx pI))) (fx (fF 1))) aW)))) (bc (aH uB (fx (aH b9 (fx (aH di (fx (fF 0)) (fx pI))) (fx pI))) (fx pI))))))
 (bC (u7 (i:=2) rfl))))⟩
theorem CM:CompSc (ai uD) (Gd.kG (Gd.uv (Gd.nth (cV uD) 0))) "far" ["house"]:=by ac_rfl
theorem Nu(T:Txt K mg a base):FnOk P w K mg base d5 1 a.f_bo9 a.d_bo9 ["cell","house","size"] (dU (aN a K) NR (KO (aN a K) (.ct .fz)) m_bo9):=mP (more:=Oh) (body:=xK) T.F_bo9 iM λb=>⟨_,(ac (xl (i:=3) rfl iM.nd rfl (.inl rfl) (qK rfl T.z_range (aa am (aa (pv 2) ae))) CM (ix:=[1]) rfl (λ_ _ _ _=>zS (aK zY (pv 0) (pv 1) (bf _))) (λ_ _ _ _=>(pv 0)))
 (ac (aR (i:=4) iM.nd rfl (Or.inl rfl) (dq (aa (pv 1) ae)))
 (ac (aR (i:=5) iM.nd rfl (Or.inl rfl) (aJ bE (pv 0) am))
 (ac (bY (aK qM (aJ bE (aJ cD (pv 0) am) am) am (bf _)) (ag (aR (i:=5) iM.nd rfl (Or.inl rfl) (pv 2))) bo)
 (ac (aR (i:=0) iM.nd rfl (Or.inl rfl) (aJ cD (pv 0) am))
 (ac (uK V5 (PW.pt (sk (aK nF (pv 5) am (bf _)) (mW (aK nF (bw (bS K rfl) rfl T.z_len Gd.gC (aa (pv 3) ae)) am (bf _))))) (ac (az (jv WJ Xp Xq gJ (pv 4) (aa (jv WJ PySem.F.slot_list_pop PySem.F.type_list_pop Fi (pv 3) (aa (aJ bE (pv 0) (bw (bS K rfl) rfl T.z_len Gd.gC (aa (pv 3) ae))) ae)) ae)))
 (ac (aR (i:=0) iM.nd rfl (Or.inl rfl) (aJ cD (pv 0) am))
 (ag (aR (i:=5) iM.nd rfl (Or.inl rfl) (aJ nD (pv 5) am))))))
 (ag (aZ (aJ EV (pv 4) (dq (aa am ae))))))))))),(ao (fq (i:=3) (bc (uP (ix:=[1]) (Tc (fx pI) (fx (fF 2))) (by decide) (cI (fx (aH IT (fx (fF 0)) (fx (fF 1))))) (fF 0))) rfl rfl)
 (ao (fq (i:=4) (bc (fV (ar (fF 1) aW))) rfl rfl)
 (ao (bq (i:=5) (bc (aH b9 (fx (fF 0)) (fx pI))) rfl rfl)
 (ao (dE (bc (cI (fx (aH BS (fx (aH b9 (fx (aH di (fx (fF 0)) (fx pI))) (fx pI))) (fx pI))))) (bq (i:=5) (bc (fF 2)) rfl rfl) cw)
 (ao (bq (i:=0) (bc (aH di (fx (fF 0)) (fx pI))) rfl rfl)
 (ao (zo 100000 (bc (sr (cI (fx (aH w6 (fx (fF 5)) (fx pI)))) (cI (fx (aH w6 (fx (ko l7 (cx (fC 3)))) (fx pI)))))) (ao (aI (Ci (i:=4) rfl (Jz (xj (i:=3) rfl) (fx (aH b9 (fx (fF 0)) (fx (ko l7 (cx (fC 3)))))))))
 (ao (bq (i:=0) (bc (aH di (fx (fF 0)) (fx pI))) rfl rfl)
 (bq (i:=5) (bc (aH uB (fx (fF 5)) (fx pI))) rfl rfl))))
 (bC (bc (Ld (fC 4) (oc (fV (ar pI aW))))))))))))⟩
theorem Nt(T:Txt K mg a base):FnOk P w K mg base d5 1 a.f_bp9 a.d_bp9 ["cell","size"] (dU (aN a K) NQ (KO (aN a K) (.ct .fz)) m_bp9):=mP (more:=Og) (body:=xJ) T.F_bp9 lx λb=>⟨_,(ac (aR (i:=2) lx.nd rfl (Or.inl rfl) (dq ae))
 (ac (bY (aK kq (pv 1) am (bf _)) (ag (aZ (pv 2))) bo)
 (ac (ft V5 rfl (d9 rfl T.z_range (aa (aJ bE (pv 0) am) ae)) (cc (i:=3) lx.nd rfl (Or.inl rfl)) (ac (aR (i:=0) lx.nd rfl (Or.inl rfl) (aJ bE (aJ gw (aJ nE (pv 0) am) am) am))
 (ac (aR (i:=4) lx.nd rfl (Or.inl rfl) (aJ bE (pv 0) (pv 1)))
 (ac (aR (i:=5) lx.nd rfl (Or.inl rfl) (aJ bE (aJ gw (aJ gw (pv 4) am) (aJ bE (aJ cD (pv 0) am) (aJ nD (pv 1) am))) (pv 1)))
 (ag (bY (aK (xu K rfl (Mi.O6 b)) (bK (aa (pv 4) (aa (pv 5) ae))) (pv 2) (by with_unfolding_all rfl)) (ag (az (jv PySem.F.plainAttrs_list PySem.F.slot_list_append PySem.F.type_list_append gJ (pv 2) (aa (bK (aa (pv 4) (aa (pv 5) ae))) ae)))) bo))))))
 (ag (aZ (pv 2)))))),(ao (fq (i:=2) (bc (fV aW)) rfl rfl)
 (ao (dE (bc (cI (fx (aH r0 (fx (fF 1)) (fx pI))))) (bC (u7 (i:=2) rfl)) cw)
 (ao (iw (bc (yk (fx (aH b9 (fx (fF 0)) (fx pI))))) (.inl rfl) (Kz (i:=3) rfl rfl) (ao (bq (i:=0) (bc (aH b9 (fx (aH ju (fx (aH uC (fx (fF 0)) (fx pI))) (fx pI))) (fx pI))) rfl rfl)
 (ao (bq (i:=4) (bc (aH b9 (fx (fF 0)) (fx (fF 1)))) rfl rfl)
 (ao (bq (i:=5) (bc (aH b9 (fx (aH ju (fx (aH ju (fx (fF 4)) (fx pI))) (fx (aH b9 (fx (aH di (fx (fF 0)) (fx pI))) (fx (aH uB (fx (fF 1)) (fx pI))))))) (fx (fF 1)))) rfl rfl)
 (dE (bc (cI (fx (aH MB (fx (cz (ar (fF 4) (ar (fF 5) aW)))) (cx (fC 2)))))) (aI (nV (xj (i:=2) rfl) (cz (ar (fF 4) (ar (fF 5) aW))))) cw)))))
 (bC (u7 (i:=2) rfl)))))⟩
theorem Nr(T:Txt K mg a base):FnOk P w K mg base d5 1 a.f_bq9 a.d_bq9 ["cell","size"] (dU (aN a K) NP (KO (aN a K) (.ct .fz)) m_bq9):=mP (more:=Of) (body:=xI) T.F_bq9 jI λb=>⟨_,(ac (aR (i:=2) jI.nd rfl (Or.inl rfl) (aJ bE (aJ nE (aJ bE (aJ nE (aJ gw (pv 0) am) am) am) am) am))
 (ac (aR (i:=3) jI.nd rfl (Or.inl rfl) (dq ae))
 (ac (aR (i:=4) jI.nd rfl (Or.inl rfl) am)
 (ac (ft V5 rfl (d9 rfl T.z_range (aa (pv 1) ae)) (cc (i:=5) jI.nd rfl (Or.inl rfl)) (ag (ft V5 rfl (qK rfl T.z_range (aa (aJ gw (pv 5) am) (aa (pv 1) ae))) (cc (i:=6) jI.nd rfl (Or.inl rfl)) (ac (bY (aK qM (aJ bE (aJ Nh (pv 2) (aJ bE (pv 4) am)) am) am (bf _)) (ag (az (jv WJ Xp Xq gJ (pv 3) (aa (bK (aa (pv 5) (aa (pv 6) ae))) ae)))) bo)
 (ag (aR (i:=4) jI.nd rfl (Or.inl rfl) (aJ gw (pv 4) am)))))))
 (ag (aZ (pv 3))))))),(ao (bq (i:=2) (bc (aH b9 (fx (aH uC (fx (aH b9 (fx (aH uC (fx (aH ju (fx (fF 0)) (fx pI))) (fx pI))) (fx pI))) (fx pI))) (fx pI))) rfl rfl)
 (ao (fq (i:=3) (bc (fV aW)) rfl rfl)
 (ao (bq (i:=4) (bc pI) rfl rfl)
 (ao (iw (bc (yk (fx (fF 1)))) (.inl rfl) (Kz (i:=5) rfl rfl) (iw (bc (Tc (fx (aH ju (fx (fF 5)) (fx pI))) (fx (fF 1)))) (.inl rfl) (Kz (i:=6) rfl rfl) (ao (dE (bc (cI (fx (aH BS (fx (aH b9 (fx (aH Rf (fx (fF 2)) (fx (aH b9 (fx (fF 4)) (fx pI))))) (fx pI))) (fx pI))))) (aI (nV (xj (i:=3) rfl) (cz (ar (fF 5) (ar (fF 6) aW))))) cw)
 (bq (i:=4) (bc (aH ju (fx (fF 4)) (fx pI))) rfl rfl))))
 (bC (u7 (i:=3) rfl))))))⟩
theorem Nq(T:Txt K mg a base):FnOk P w K mg base d5 1 a.f_br9 a.d_br9 ["found"] (dU (aN a K) NO (KR (aN a K) .F) m_br9):=iU (more:=Oe) (body:=xH) T.F_br9 Mh λb=>⟨_,(ag (aZ (xo (bw (rK K rfl) rfl T.z_isinstance Gd.jC (aa (pv 0) (aa (zV rfl T.z_int Gd.P9 (v:=.ty "int") rfl) ae))) (xn (EK (bw (rK K rfl) rfl T.z_isinstance Gd.jC (aa (pv 0) (aa (zV rfl T.z_bool Gd.JX (v:=.ty "bool") rfl) ae)))))))),(bC (bc (Le (fx (jw K0 (fx (fF 0)) (fx pT))) (Lb (fx (jw K0 (fx (fF 0)) (fx pT)))))))⟩
theorem Nz(T:Txt K mg a base):FnOk P w K mg base d5 1 a.f_be9 a.d_be9 ["house","standings"] (dU (aN a K) N5 (KR (aN a K) .F) m_be9):=by
 obtain⟨b,g_SEAT⟩:=T.g_SEAT
 exact iU (more:=Ot) (body:=xW) T.F_be9 DA λc=>⟨_,(ac (bY (aK qM (pv 0) (eQ rfl g_SEAT (v:=.int 0) ⟨_,rfl⟩) (bf _)) (ag (aZ (dq (aa (eQ rfl g_SEAT (v:=.int 0) ⟨_,rfl⟩) ae)))) bo)
  (ac (aR (i:=2) DA.nd rfl (Or.inl rfl) (lD (wB K rfl rfl (Mi.Td c)) rfl T.z_min Gd.lU (aa (pv 1) ae) (sv eh xm)))
  (ac (bY (aK sF (pv 2) eh (bf _)) (ag (aZ eh)) bo)
  (ag (aZ (dC (fK K rfl) (pv 2) am (λ_ _=>rfl))))))),(ao (dE (bc (cI (fx (aH BS (fx (fF 0)) (fx pI))))) (bC (bc (oF (fV (ar pI aW))))) cw)
  (ao (bq (i:=2) (bc (M9 (rc (fF 1)) (fx pN))) rfl rfl)
  (ao (dE (bc (cI (fx (aH IV (fx (fF 2)) (fx pN))))) (bC (bc pN)) cw)
  (bC (bc (km (rc (fF 2)) (fx pI)))))))⟩
theorem E2(T:Txt K mg a base):FnOk P w K mg base d5 1 a.f_bf9 a.d_bf9 ["road"] (dU (aN a K) N0 (KR (aN a K) .F) m_bf9):=iU (more:=Os) (body:=xV) T.F_bf9 Ml λb=>⟨_,(ac (bY (aK sF (pv 0) eh (bf _)) (ag (aZ eh)) bo)
 (ag (aZ (cJ (eV K rfl) rfl T.z_list Gd.iq (aa (pv 0) ae))))),(ao (dE (bc (cI (fx (aH IV (ux (fR 0)) (fx pN))))) (bC (bc pN)) cw)
 (bC (bc (oF (sE (cS (k':= .F) (rc (fR 0))))))))⟩
theorem No(T:Txt K mg a base):FnOk P w K mg base d5 1 a.f_bt9 a.d_bt9 ["houses","count"] (dU (aN a K) NM (KR (aN a K) .F) m_bt9):=by
 obtain⟨b,g_SEAT⟩:=T.g_SEAT;exact iU (more:=Oc) (body:=xE) T.F_bt9 Mf λc=>⟨_,(ag (bY (PW.pt (qF (aK kq (lD (yW K rfl rfl) rfl T.z_min Gd.lU (aa (pv 0) ae) (sv (eQ rfl g_SEAT (v:=.int 0) ⟨_,rfl⟩) xm)) am (bf _)) (sj (aK Rt (lD (yX K rfl rfl) rfl T.z_max Gd.p9 (aa (pv 0) ae) (sv (eQ rfl g_SEAT (v:=.int 0) ⟨_,rfl⟩) xm)) (pv 1) (bf _))))) (ag c7) bo)),(dE (bc (qI (cI (fx (aH r0 (fx (Na (ux (fR 0)) (fx pI))) (fx pI)))) (cI (fx (aH UX (fx (Nb (ux (fR 0)) (fx pI))) (fx (fF 1))))))) eI cw)⟩
theorem qN(T:Txt K mg a base):FnOk P w K mg base d5 2 a.f_i9 a.d_i9 ["self","houses"] (dU (aN a K) Sf (KR (aN a K) .F) u8):=iU (more:=SM) (body:=FK) T.F_i9 Q5 λb=>⟨_,(ag (az (bp (No T) b.mm rfl T.m_bt9 T.F_bt9.kp T.b_bt9 .nil aC (aa (pv 1) (aa (ax K rfl (pv 0) rfl) ae))))),(aI (bc (fT (af (aU (fR 1)) (af (aF (rS (k:= .X) (ux (dW (c:=0) T.cl_Guild T.n_house_count (rc (fR 0)))))) aD)) rfl)))⟩
theorem CO:CompSc (ai uF) (Gd.kG (Gd.uv (Gd.nth (cV uF) 0))) "road" []:=by ac_rfl
theorem E4(T:Txt K mg a base):FnOk P w K mg base d5 2 a.f_ba9 a.d_ba9 ["self"] (dU (aN a K) N9 (KO (aN a K) (.ct .fz)) Ai):=mP (more:=Oy) (body:=x5) T.F_ba9 Mn λb=>⟨_,(ag (aZ (kj rfl (fg K rfl (ax K rfl (pv 0) rfl)) CO (ix:=[]) rfl (λ_ _ _ _=>mX) (λ_ _ _ _=>(bp (E2 T) b.mm rfl T.m_bf9 T.F_bf9.kp T.b_bf9 .nil aC (aa (pv 0) ae)))))),(bC (bc (uO (ix:=[]) (Gs (rc (dW (c:=1) T.cl_Post T.n_roads (rc (fR 0))))) (by decide) sm (fT (af (aU (fR 0)) aD) rfl))))⟩
theorem CN:CompSc (ai uE) (Gd.kG (Gd.uv (Gd.nth (cV uE) 0))) "pair" ["self"]:=by ac_rfl
theorem nG(T:Txt K mg a base):FnOk P w K mg base d5 2 a.f_bb9 a.d_bb9 ["self"] (dU (aN a K) N8 (KO (aN a K) (.ct .fz)) nT):=mP (more:=Ox) (body:=xZ) T.F_bb9 Mm λb=>⟨_,(ag (aZ (Jg (kj rfl (M3 (ax K rfl (pv 0) rfl)) CN (ix:=[0]) rfl (λ_ _ _ _=>mX) (λ_ _ _ _=>(bK (aa (dC (fK K rfl) (pv 0) am (λ_ _=>rfl)) (aa (dC (fK K rfl) (pv 0) am (λ_ _=>rfl)) (aa (bp (E2 T) b.mm rfl T.m_bf9 T.F_bf9.kp T.b_bf9 .nil aC (aa (sy (cj b) (ax K rfl (pv 1) rfl) (pv 0) (λ_ _=>rfl)) ae)) ae))))))))),(bC (bc (Jj (i:=0) (c:=1) (f := "letters") (ix:=[0]) T.cl_Post T.n_letters rfl (by decide) sm (cz (ar (km (rc (fF 0)) (fx pI)) (ar (km (rc (fF 0)) (fx pI)) (ar (fT (af (aU (xr (rc (dW (c:=1) T.cl_Post T.n_letters (rc (fR 1)))) (fx (fF 0)))) aD) rfl) aW)))))))⟩
theorem Nx(T:Txt K mg a base):FnOk P w K mg base d5 2 a.f_bj9 a.d_bj9 ["cell","size"] (dU (aN a K) NW (KO (aN a K) (.ct .fz)) m_bj9):=mP (more:=On) (body:=xQ) T.F_bj9 nu λb=>⟨_,(ac (aR (i:=2) nu.nd rfl (Or.inl rfl) dL)
 (ac (bY (aK kq (pv 1) am (bf _)) (ag (aZ (pv 2))) bo)
 (ac (ft V5 rfl (d9 rfl T.z_range (aa (aJ bE (pv 0) am) ae)) (cc (i:=3) nu.nd rfl (Or.inl rfl)) (ac (aR (i:=0) nu.nd rfl (Or.inl rfl) (aJ bE (aJ gw (aJ nE (pv 0) am) am) am))
 (ac (aR (i:=4) nu.nd rfl (Or.inl rfl) (bp (Nu T) b.mm rfl T.m_bo9 T.F_bo9.kp T.b_bo9 .nil aC (aa (aJ cD (pv 0) am) (aa (aJ gw am (aJ bE (pv 0) (aJ nD (pv 1) am))) (aa (pv 1) ae)))))
 (ag (dJ (cj b) (pv 2) (cJ (f8 K rfl) rfl T.z_tuple Gd.p8 (aa (pv 4) ae)) (aJ nD (aJ bE (aJ cD (pv 0) am) am) am) rfl)))))
 (ag (aZ (pv 2)))))),(ao (fq (i:=2) (bc kn) rfl rfl)
 (ao (dE (bc (cI (fx (aH r0 (fx (fF 1)) (fx pI))))) (bC (u7 (i:=2) rfl)) cw)
 (ao (iw (bc (yk (fx (aH b9 (fx (fF 0)) (fx pI))))) (.inl rfl) (Kz (i:=3) rfl rfl) (ao (bq (i:=0) (bc (aH b9 (fx (aH ju (fx (aH uC (fx (fF 0)) (fx pI))) (fx pI))) (fx pI))) rfl rfl)
 (ao (bq (i:=4) (bc (oF (iS (af (aF (aH di (fx (fF 0)) (fx pI))) (af (aF (aH ju (fx pI) (fx (aH b9 (fx (fF 0)) (fx (aH uB (fx (fF 1)) (fx pI))))))) (af (aF (fF 1)) aD))) rfl))) rfl rfl)
 (fP (xj (i:=2) rfl) (fx (sC (rc (fF 4)))) (bc (aH uB (fx (aH b9 (fx (aH di (fx (fF 0)) (fx pI))) (fx pI))) (fx pI)))))))
 (bC (u7 (i:=2) rfl)))))⟩
theorem Np(T:Txt K mg a base):FnOk P w K mg base d5 2 a.f_bs9 a.d_bs9 ["guild","house","road"] (dU (aN a K) NN (KR (aN a K) .F) m_bs9):=by
 obtain⟨b,g_SEAT⟩:=T.g_SEAT
 exact iU (more:=Od) (body:=xG) T.F_bs9 Mg λd=>⟨_,(ac (bY (PW.pt (qF (aK sF (pv 2) eh (bf _)) (qF (aK qM (pv 1) (eQ rfl g_SEAT (v:=.int 0) ⟨_,rfl⟩) (bf _)) (sj (aK (zZ K rfl (Mi.O6 d)) (pv 1) (pv 2) (by with_unfolding_all rfl)))))) (ag (aZ kl)) bo)
  (ag (aZ (EK (aL (pv 0) T.cl_Guild T.me_m9 (RD T) d.mm T.b_m9 .nil aC (aa (pv 1) (aa (pv 2) ae))))))),(ao (dE (bc (qI (cI (fx (aH IV (ux (fR 2)) (fx pN)))) (qI (cI (fx (aH BS (fx (fF 1)) (fx pI)))) (cI (fx (aH K1 (fx (fF 1)) (ux (fR 2)))))))) (bC (bc pB)) cw)
  (bC (bc (Lb (fx (ff (c:=0) (aU (fR 0)) (af (aF (fF 1)) (af (aU (fR 2)) aD)) rfl))))))⟩
theorem RJ(T:Txt K mg a base):FnOk P w K mg base d5 3 a.f_e9 a.d_e9 ["self","a","b","rank"] (dU (aN a K) Sk (KR (aN a K) .F) OO):=iU (more:=SS) (body:=FO) T.F_e9 Q8 λb=>⟨_,(ac (az (aL (pv 0) T.cl_Guild T.me_i9 (qN T) b.mm T.b_i9 .nil aC (aa (dq (aa (pv 1) (aa (pv 2) ae))) ae)))
 (ag (dJ (cj b) (ax K rfl (pv 0) rfl) (bK (aa (pv 1) (aa (pv 2) ae))) (pv 3) rfl))),(ao (aI (bc (ff (c:=0) (aX (fO 0)) (af (aF (oF (fV (ar (fF 1) (ar (fF 2) aW))))) aD) rfl)))
 (fP (gF (c:=0) (i:=0) T.cl_Guild T.n_likings rfl rfl) (fx (cz (ar (fF 1) (ar (fF 2) aW)))) (bc (fF 3))))⟩
theorem RH(T:Txt K mg a base):FnOk P w K mg base d5 3 a.f_f9 a.d_f9 ["self","a","b"] (dU (aN a K) Sj (KR (aN a K) .F) ON):=iU (more:=SR) (body:=FN) T.F_f9 Q7 λb=>⟨_,(ac (az (aL (pv 0) T.cl_Guild T.me_i9 (qN T) b.mm T.b_i9 .nil aC (aa (dq (aa (pv 1) (aa (pv 2) ae))) ae)))
 (ag (aZ (EM (cj b) (ax K rfl (pv 0) rfl) (bK (aa (pv 1) (aa (pv 2) ae))) am ⟨rfl,rfl,rfl,rfl⟩)))),(ao (aI (bc (ff (c:=0) (aU (fR 0)) (af (aF (oF (fV (ar (fF 1) (ar (fF 2) aW))))) aD) rfl)))
 (bC (bc (rS (k:= .X) (ux (Ji (rc (dW (c:=0) T.cl_Guild T.n_likings (rc (fR 0)))) (fx (cz (ar (fF 1) (ar (fF 2) aW)))) (fu pI)))))))⟩
theorem RG(T:Txt K mg a base):FnOk P w K mg base d5 3 a.f_g9 a.d_g9 ["self","a"] (dU (aN a K) Si (KO (aN a K) (.ct .fz)) OM):=mP (more:=SQ) (body:=FM) T.F_g9 Q6 λb=>⟨_,(ac (az (aL (pv 0) T.cl_Guild T.me_i9 (qN T) b.mm T.b_i9 .nil aC (aa (dq (aa (pv 1) ae)) ae)))
 (ag (aZ (aL (pv 0) T.cl_Guild T.me_b9 (RL T) b.mm T.b_b9 .nil aC (aa (ax K rfl (pv 0) rfl) (aa (pv 1) ae)))))),(ao (aI (bc (ff (c:=0) (aU (fR 0)) (af (aF (oF (fV (ar (fF 1) aW)))) aD) rfl)))
 (bC (bc (gv (c:=0) (aU (fR 0)) (af (aU (dW (c:=0) T.cl_Guild T.n_ways (rc (fR 0)))) (af (aF (fF 1)) aD)) rfl))))⟩
theorem Lj(T:Txt K mg a base):FnOk P w K mg base d5 3 a.f_j9 a.d_j9 ["self","road"] (dU (aN a K) Se (KR (aN a K) .F) JC):=by
 obtain⟨b,g_SEAT⟩:=T.g_SEAT
 exact iU (more:=SL) (body:=FJ) T.F_j9 Q4 λd=>⟨_,(ac (az (aL (pv 0) T.cl_Guild T.me_i9 (qN T) d.mm T.b_i9 .nil aC (aa (pv 1) ae)))
  (ac (bY (aK kq (bw (bS K rfl) rfl T.z_len Gd.gC (aa (pv 1) ae)) am (bf _)) (ag c7) bo)
  (ac (bY (aK zY (dC (cQ K rfl) (pv 1) (K8 Da am) (λ_ _=>rfl)) (eQ rfl g_SEAT (v:=.int 0) ⟨_,rfl⟩) (bf _)) (ag c7) bo)
  (ag (bY (aK zY (bw CS rfl T.z_len Gd.gC (aa (cJ (yU K rfl rfl) rfl T.z_set Gd.P8 (aa (pv 1) ae)) ae)) (bw (bS K rfl) rfl T.z_len Gd.gC (aa (pv 1) ae)) (bf _)) (ag c7) bo))))),(ao (aI (bc (ff (c:=0) (aU (fR 0)) (af (aU (fR 1)) aD) rfl)))
  (ao (dE (bc (cI (fx (aH r0 (fx (ko l7 (ux (fR 1)))) (fx pI))))) eI cw)
  (ao (dE (bc (cI (fx (aH IT (ux (nC (rc (fR 1)) (fx (M8 KZ (fx pI))))) (fx pI))))) eI cw)
  (dE (bc (cI (fx (aH IT (fx (EQ (ux (fR 1)))) (fx (ko l7 (ux (fR 1)))))))) eI cw))))⟩
theorem EX(T:Txt K mg a base):FnOk P w K mg base d5 3 a.f_k9 a.d_k9 ["self","a","b"] (dU (aN a K) Sd (KR (aN a K) .F) FZ):=iU (more:=SK) (body:=FI) T.F_k9 Q3 λb=>⟨_,(ac (az (aL (pv 0) T.cl_Guild T.me_i9 (qN T) b.mm T.b_i9 .nil aC (aa (dq (aa (pv 1) (aa (pv 2) ae))) ae)))
 (ag (bY (aK qM (pv 1) (pv 2) (bf _)) (ag c7) bo))),(ao (aI (bc (ff (c:=0) (aU (fR 0)) (af (aF (oF (fV (ar (fF 1) (ar (fF 2) aW))))) aD) rfl)))
 (dE (bc (cI (fx (aH BS (fx (fF 1)) (fx (fF 2)))))) eI cw))⟩
theorem RC(T:Txt K mg a base):FnOk P w K mg base d5 3 a.f_o9 a.d_o9 ["self"] (dU (aN a K) R9 (KO (aN a K) (.ob cO)) ye):=mP (more:=SF) (body:=FD) T.F_o9 KU λb=>⟨_,(ac (aR (i:=1) KU.nd rfl (Or.inl rfl) (sx T.mk_Guild (Ll T) b.mm rfl T.mgC_Guild T.b_a9 .nil aC (aa (ax K rfl (pv 0) rfl) ae)))
 (ac (az (jv V1 W4 W5 jk (ax K rfl (pv 1) rfl) (aa (ax K rfl (pv 0) rfl) ae)))
 (ac (az (jv V1 W4 W5 jk (ax K rfl (pv 1) rfl) (aa (ax K rfl (pv 0) rfl) ae)))
 (ac (az (jv V1 W4 W5 jk (ax K rfl (pv 1) rfl) (aa (ax K rfl (pv 0) rfl) ae)))
 (ac (az (jv V1 W4 W5 jk (ax K rfl (pv 1) rfl) (aa (ax K rfl (pv 0) rfl) ae)))
 (ag (aZ (pv 1)))))))),(ao (fq (i:=1) (bc (EE (c:=0) (af (aF (rS (k:= .X) (ux (dW (c:=0) T.cl_Guild T.n_house_count (rc (fR 0)))))) aD) rfl)) rfl rfl)
 (ao (aI (kA (gF (c:=0) (i:=1) T.cl_Guild T.n_ways rfl rfl) (dW (c:=0) T.cl_Guild T.n_ways (rc (fR 0)))))
 (ao (aI (kA (gF (c:=0) (i:=1) T.cl_Guild T.n_likings rfl rfl) (dW (c:=0) T.cl_Guild T.n_likings (rc (fR 0)))))
 (ao (aI (kA (gF (c:=0) (i:=1) T.cl_Guild T.n_shuns rfl rfl) (dW (c:=0) T.cl_Guild T.n_shuns (rc (fR 0)))))
 (ao (aI (kA (gF (c:=0) (i:=1) T.cl_Guild T.n_wish_ranks rfl rfl) (dW (c:=0) T.cl_Guild T.n_wish_ranks (rc (fR 0)))))
 (bC (u7 (i:=1) rfl)))))))⟩
theorem Lk(T:Txt K mg a base):FnOk P w K mg base d5 4 a.f_c9 a.d_c9 ["self","a","b"] (dU (aN a K) Sm (KR (aN a K) .F) JD):=iU (more:=SV) (body:=FQ) T.F_c9 Ra λb=>⟨_,(ac (az (aL (pv 0) T.cl_Guild T.me_k9 (EX T) b.mm T.b_k9 .nil aC (aa (pv 1) (aa (pv 2) ae))))
 (ac (bY (sn (xq (cj b) (bK (aa (pv 1) (aa (pv 2) ae))) (ax K rfl (pv 0) rfl))) (ag c7) bo)
 (ac (dJ (cj b) (ax K rfl (pv 0) rfl) (bK (aa (pv 1) (aa (pv 2) ae))) kl rfl)
 (ag (dJ (cj b) (ax K rfl (pv 0) rfl) (bK (aa (pv 2) (aa (pv 1) ae))) kl rfl))))),(ao (aI (bc (ff (c:=0) (aX (fO 0)) (af (aF (fF 1)) (af (aF (fF 2)) aD)) rfl)))
 (ao (dE (bc (B0 (fx (ES (fx (cz (ar (fF 1) (ar (fF 2) aW)))) (jL (c:=0) (i:=0) T.cl_Guild T.n_ways rfl rfl))))) eI cw)
 (ao (fP (gF (c:=0) (i:=0) T.cl_Guild T.n_ways rfl rfl) (fx (cz (ar (fF 1) (ar (fF 2) aW)))) (bc pB))
 (fP (gF (c:=0) (i:=0) T.cl_Guild T.n_ways rfl rfl) (fx (cz (ar (fF 2) (ar (fF 1) aW)))) (bc pB)))))⟩
theorem RK(T:Txt K mg a base):FnOk P w K mg base d5 4 a.f_d9 a.d_d9 ["self","a","b"] (dU (aN a K) Sl (KR (aN a K) .F) OP):=iU (more:=SU) (body:=FP) T.F_d9 Q9 λb=>⟨_,(ac (az (aL (pv 0) T.cl_Guild T.me_k9 (EX T) b.mm T.b_k9 .nil aC (aa (pv 1) (aa (pv 2) ae))))
 (ac (bY (sn (qL (cj b) (bK (aa (pv 1) (aa (pv 2) ae))) (ax K rfl (pv 0) rfl))) (ag c7) bo)
 (ac (az (nB (cj b) (ax K rfl (pv 0) rfl) (bK (aa (pv 1) (aa (pv 2) ae))) ⟨rfl,rfl,rfl,rfl⟩))
 (ag (az (nB (cj b) (ax K rfl (pv 0) rfl) (bK (aa (pv 2) (aa (pv 1) ae))) ⟨rfl,rfl,rfl,rfl⟩)))))),(ao (aI (bc (ff (c:=0) (aX (fO 0)) (af (aF (fF 1)) (af (aF (fF 2)) aD)) rfl)))
 (ao (dE (bc (B0 (fx (ER (fx (cz (ar (fF 1) (ar (fF 2) aW)))) (jL (c:=0) (i:=0) T.cl_Guild T.n_ways rfl rfl))))) eI cw)
 (ao (aI (yf (gF (c:=0) (i:=0) T.cl_Guild T.n_ways rfl rfl) (fx (cz (ar (fF 1) (ar (fF 2) aW))))))
 (aI (yf (gF (c:=0) (i:=0) T.cl_Guild T.n_ways rfl rfl) (fx (cz (ar (fF 2) (ar (fF 1) aW)))))))))⟩
theorem RF(T:Txt K mg a base):FnOk P w K mg base d5 4 a.f_h9 a.d_h9 ["self","road"] (dU (aN a K) Sg (KR (aN a K) .F) OL):=iU (more:=SN) (body:=FL) T.F_h9 KW λb=>⟨_,(ac (az (aL (pv 0) T.cl_Guild T.me_j9 (Lj T) b.mm T.b_j9 .nil aC (aa (pv 1) ae)))
 (ac (aR (i:=2) KW.nd rfl (Or.inl rfl) (uN (cj b) (ax K rfl (pv 0) rfl) (cJ (f8 K rfl) rfl T.z_tuple Gd.p8 (aa (pv 1) ae)) ⟨rfl,rfl,rfl,rfl⟩))
 (ac (bY (aK sF (pv 2) eh (bf _)) (ag (aZ (aL (pv 0) T.cl_Guild T.me_f9 (RH T) b.mm T.b_f9 .nil aC (aa (dC (cQ K rfl) (pv 1) am (λ_ _=>rfl)) (aa (dC (cQ K rfl) (pv 1) am (λ_ _=>rfl)) ae))))) bo)
 (ag (aZ (pv 2)))))),(ao (aI (bc (ff (c:=0) (aU (fR 0)) (af (aU (fR 1)) aD) rfl)))
 (ao (bq (i:=2) (bc (rS (k:= .X) (ux (zX (rc (dW (c:=0) T.cl_Guild T.n_wish_ranks (rc (fR 0)))) (fx (sC (cS (k':= .F) (rc (fR 1))))))))) rfl rfl)
 (ao (dE (bc (cI (fx (aH IV (fx (fF 2)) (fx pN))))) (bC (bc (ff (c:=0) (aU (fR 0)) (af (aF (rS (k:= .X) (ux (nC (rc (fR 1)) (fx pI))))) (af (aF (rS (k:= .X) (ux (nC (rc (fR 1)) (fx pI))))) aD)) rfl))) cw)
 (bC (bc (fF 2))))))⟩
theorem RE(T:Txt K mg a base):FnOk P w K mg base d5 4 a.f_l9 a.d_l9 ["self","a","b"] (dU (aN a K) Sc (KR (aN a K) .F) OK):=iU (more:=SI) (body:=FG) T.F_l9 Q2 λb=>⟨_,(ac (az (aL (pv 0) T.cl_Guild T.me_k9 (EX T) b.mm T.b_k9 .nil aC (aa (pv 1) (aa (pv 2) ae))))
 (ag (dJ (cj b) (ax K rfl (pv 0) rfl) (bK (aa (pv 1) (aa (pv 2) ae))) kl rfl))),(ao (aI (bc (ff (c:=0) (aX (fO 0)) (af (aF (fF 1)) (af (aF (fF 2)) aD)) rfl)))
 (fP (gF (c:=0) (i:=0) T.cl_Guild T.n_shuns rfl rfl) (fx (cz (ar (fF 1) (ar (fF 2) aW)))) (bc pB)))⟩
theorem RB(T:Txt K mg a base):FnOk P w K mg base d5 4 a.f_p9 a.d_p9 ["self","road","rank"] (dU (aN a K) R8 (KR (aN a K) .F) OG):=iU (more:=SE) (body:=FC) T.F_p9 QY λb=>⟨_,(ac (az (aL (pv 0) T.cl_Guild T.me_j9 (Lj T) b.mm T.b_j9 .nil aC (aa (pv 1) ae)))
 (ag (dJ (cj b) (ax K rfl (pv 0) rfl) (cJ (f8 K rfl) rfl T.z_tuple Gd.p8 (aa (pv 1) ae)) (pv 2) rfl))),(ao (aI (bc (ff (c:=0) (aX (fO 0)) (af (aU (fR 1)) aD) rfl)))
 (fP (gF (c:=0) (i:=0) T.cl_Guild T.n_wish_ranks rfl rfl) (fx (sC (cS (k':= .F) (rc (fR 1))))) (bc (fF 2))))⟩
theorem E3(T:Txt K mg a base):FnOk P w K mg base d5 4 a.f_bd9 a.d_bd9 ["self","writer"] (dU (aN a K) N6 (KR (aN a K) .F) iy):=iU (more:=Ou) (body:=xX) T.F_bd9 DB λb=>⟨_,(ag (ft V5 rfl (fg K rfl (aL (ax K rfl (pv 0) rfl) T.cl_Guild T.me_g9 (RG T) b.mm T.b_g9 .nil aC (aa (pv 1) ae))) (cc (i:=2) DB.nd rfl (Or.inl rfl)) (ag (az (aL (pv 0) T.cl_Post T.me_bc9 (xw T) b.mm T.b_bc9 .nil aC (aa (pv 1) (aa (pv 2) ae))))))),(iw (bc (mZ (oF (gv (c:=0) (aX (dW (c:=1) T.cl_Post T.n_guild (rc (fO 0)))) (af (aF (fF 1)) aD) rfl)))) (.inl rfl) (Kz (i:=2) rfl rfl) (aI (c8 (c:=1) (aO (i:=0)) (af (aF (fF 1)) (af (aF (fF 2)) aD)) ⟨rfl,trivial,trivial,trivial⟩ (by decide) (by decide))))⟩
theorem GZ:CompSc (ai DD) (Gd.kG (Gd.uv (Gd.nth (cV DD) 6))) "house" []:=by ac_rfl
theorem RA(T:Txt K mg a base):FnOk P w K mg base d5 5 a.f_q9 a.d_q9 ["self","guild"] (dU (aN a K) R7 (KR (aN a K) .F) yd):=by
 obtain⟨b,g_SEAT⟩:=T.g_SEAT
 exact iU (more:=SD) (body:=FA) T.F_q9 QX λd=>⟨_,(ac (fS (pv 0) (cy (pv 1) T.cl_Guild T.me_o9 (RC T) d.mm T.b_o9 .nil aC) rfl)
  (ac (fS (pv 0) (aJ Ni (dq (aa eh ae)) (cy (pv 1) T.cl_Guild T.me_n9 (Li T) d.mm T.b_n9 .nil aC)) rfl)
  (ac (EB (dq (aa (eQ rfl g_SEAT (v:=.int 0) ⟨_,rfl⟩) ae)) (EH (ax K rfl (pv 0) rfl) (eQ rfl g_SEAT (v:=.int 0) ⟨_,rfl⟩) uz))
  (ac (fS (pv 0) dL rfl)
  (ac (fS (pv 0) dL rfl)
  (ac (fS (pv 0) dL rfl)
  (ac (fS (pv 0) (kj rfl (d9 rfl T.z_range (aa (cy (pv 1) T.cl_Guild T.me_n9 (Li T) d.mm T.b_n9 .nil aC) ae)) GZ (ix:=[]) rfl (λ_ _ _ _=>mX) (λ_ _ _ _=>EL)) rfl)
  (ag (az (aL (pv 0) T.cl_Post T.me_bd9 (E3 T) d.mm T.b_bd9 .nil aC (aa (eQ rfl g_SEAT (v:=.int 0) ⟨_,rfl⟩) ae))))))))))),(ao (gu (c:=1) (i:=0) T.cl_Post T.n_guild rfl rfl (bc (gv (c:=0) (aU (fR 1)) aD rfl)))
  (ao (gu (c:=1) (i:=0) T.cl_Post T.n_roads rfl rfl (bc (Rq (oc (fV (ar pN aW))) (fx (ff (c:=0) (aU (fR 1)) aD rfl)))))
  (ao (DE (gF (c:=1) (i:=0) T.cl_Post T.n_roads rfl rfl) (fx pI) (bc (oF (fV (ar pI aW)))))
  (ao (gu (c:=1) (i:=0) T.cl_Post T.n_told_last rfl rfl (bc kn))
  (ao (gu (c:=1) (i:=0) T.cl_Post T.n_written_last rfl rfl (bc kn))
  (ao (gu (c:=1) (i:=0) T.cl_Post T.n_letters rfl rfl (bc kn))
  (ao (gu (c:=1) (i:=0) T.cl_Post T.n_standings rfl rfl (bc (ET (ix:=[]) (yk (fx (ff (c:=0) (aU (fR 1)) aD rfl))) (by decide) sm Rs)))
  (aI (c8 (c:=1) (aO (i:=0)) (af (aF pI) aD) ⟨rfl,trivial,trivial⟩ (by decide) (by decide))))))))))⟩
theorem EW(T:Txt K mg a base):FnOk P w K mg base d5 5 a.f_t9 a.d_t9 ["self","house"] (dU (aN a K) RZ (KR (aN a K) .F) FX):=iU (more:=SA) (body:=Fw) T.F_t9 KQ λb=>⟨_,(ac (aR (i:=2) KQ.nd rfl (Or.inl rfl) (bp (Nz T) b.mm rfl T.m_be9 T.F_be9.kp T.b_be9 .nil aC (aa (pv 1) (aa (uL rfl rfl T.z_list Gd.iq (dC (cQ K rfl) (ax K rfl (pv 0) rfl) (pv 1) (λ_ _=>rfl))) ae))))
 (ac (bY (aK (ku K rfl b.units) (pv 2) (dC (cQ K rfl) (ax K rfl (pv 0) rfl) (pv 1) (λ_ _=>rfl)) (bf _)) (ag (aZ kl)) bo)
 (ac (EB (pv 2) (EH (ax K rfl (pv 0) rfl) (pv 1) uz))
 (ac (az (aL (pv 0) T.cl_Post T.me_bd9 (E3 T) b.mm T.b_bd9 .nil aC (aa (pv 1) ae)))
 (ag (aZ kl)))))),(ao (bq (i:=2) (bc (fT (af (aF (fF 1)) (af (aF (oF (M7 (Rr (Jb (B6 (c:=1) (B5 (i:=0) rfl) T.cl_Post T.n_standings rfl) (sQ (j:=1))))))) aD)) rfl)) rfl rfl)
 (ao (dE (bc (cI (fx (aH lB (fx (fF 2)) (fx (nC (jL (c:=1) (i:=0) T.cl_Post T.n_roads rfl rfl) (fx (fF 1)))))))) (bC (bc pB)) cw)
 (ao (DE (gF (c:=1) (i:=0) T.cl_Post T.n_roads rfl rfl) (fx (fF 1)) (bc (fF 2)))
 (ao (aI (c8 (c:=1) (aO (i:=0)) (af (aF (fF 1)) aD) ⟨rfl,trivial,trivial⟩ (by decide) (by decide)))
 (bC (bc pB))))))⟩
theorem Rw(T:Txt K mg a base):FnOk P w K mg base d5 5 a.f_y9 a.d_y9 ["self","a","b"] (dU (aN a K) RU (KR (aN a K) .F) OC):=iU (more:=Sv) (body:=Fq) T.F_y9 QS λb=>⟨_,(ac (az (aL (ax K rfl (pv 0) rfl) T.cl_Guild T.me_c9 (Lk T) b.mm T.b_c9 .nil aC (aa (pv 1) (aa (pv 2) ae))))
 (ac (az (aL (pv 0) T.cl_Post T.me_bc9 (xw T) b.mm T.b_bc9 .nil aC (aa (bw (jr rfl) rfl T.z_min Gd.lU (aa (pv 1) (aa (pv 2) ae))) (aa (bw (js rfl) rfl T.z_max Gd.p9 (aa (pv 1) (aa (pv 2) ae))) ae))))
 (ag (az (aL (pv 0) T.cl_Post T.me_bc9 (xw T) b.mm T.b_bc9 .nil aC (aa (bw (js rfl) rfl T.z_max Gd.p9 (aa (pv 1) (aa (pv 2) ae))) (aa (bw (jr rfl) rfl T.z_min Gd.lU (aa (pv 1) (aa (pv 2) ae))) ae))))))),(ao (aI (Aa (c:=0) (B6 (c:=1) (B5 (i:=0) rfl) T.cl_Post T.n_guild rfl) (af (aF (fF 1)) (af (aF (fF 2)) aD)) ⟨trivial,trivial,trivial⟩ rfl (by decide)))
 (ao (aI (c8 (c:=1) (aO (i:=0)) (af (aF (jw zp (fx (fF 1)) (fx (fF 2)))) (af (aF (jw zq (fx (fF 1)) (fx (fF 2)))) aD)) ⟨rfl,trivial,trivial,trivial⟩ (by decide) (by decide)))
 (aI (c8 (c:=1) (aO (i:=0)) (af (aF (jw zq (fx (fF 1)) (fx (fF 2)))) (af (aF (jw zp (fx (fF 1)) (fx (fF 2)))) aD)) ⟨rfl,trivial,trivial,trivial⟩ (by decide) (by decide)))))⟩
theorem Nv(T:Txt K mg a base):FnOk P w K mg base d5 5 a.f_bm9 a.d_bm9 ["size","ways","fond","dear","shy"] (dU (aN a K) NT (KO (aN a K) (.ob cO)) m_bm9):=mP (more:=Oj) (body:=xM) T.F_bm9 iN λb=>⟨_,(ac (aR (i:=5) iN.nd rfl (Or.inl rfl) (sx T.mk_Guild (Ll T) b.mm rfl T.mgC_Guild T.b_a9 .nil aC (aa (pv 0) ae)))
 (ac (ft V5 rfl (fg K rfl (pv 1)) (EG rfl (ki (cc (i:=6) iN.nd rfl (Or.inl rfl)) (ki (cc (i:=7) iN.nd rfl (Or.inl rfl)) zT))) (ag (az (aL (pv 5) T.cl_Guild T.me_c9 (Lk T) b.mm T.b_c9 .nil aC (aa (pv 6) (aa (pv 7) ae))))))
 (ac (ft V5 rfl (fg K rfl (cJ (p7 rfl) rfl T.z_list Gd.iq (aa (pv 2) ae))) (cc (i:=8) iN.nd rfl (Or.inl rfl)) (ag (az (aL (pv 5) T.cl_Guild T.me_e9 (RJ T) b.mm T.b_e9 .nil aC (aa (dC (fK K rfl) (pv 8) am (λ_ _=>rfl)) (aa (dC (fK K rfl) (pv 8) am (λ_ _=>rfl)) (aa (sy (cj b) (pv 2) (pv 8) (λ_ _=>rfl)) ae)))))))
 (ac (ft V5 rfl (fg K rfl (cJ (p7 rfl) rfl T.z_list Gd.iq (aa (pv 3) ae))) (cc (i:=9) iN.nd rfl (Or.inl rfl)) (ag (az (aL (pv 5) T.cl_Guild T.me_p9 (RB T) b.mm T.b_p9 .nil aC (aa (cJ (eV K rfl) rfl T.z_list Gd.iq (aa (pv 9) ae)) (aa (sy (cj b) (pv 3) (pv 9) (λ_ _=>rfl)) ae))))))
 (ac (ft V5 rfl (fg K rfl (pv 4)) (EG rfl (ki (cc (i:=6) iN.nd rfl (Or.inl rfl)) (ki (cc (i:=7) iN.nd rfl (Or.inl rfl)) zT))) (ag (az (aL (pv 5) T.cl_Guild T.me_l9 (RE T) b.mm T.b_l9 .nil aC (aa (pv 6) (aa (pv 7) ae))))))
 (ag (aZ (pv 5)))))))),(ao (fq (i:=5) (bc (EE (c:=0) (af (aF (fF 0)) aD) rfl)) rfl rfl)
 (ao (iw (bc (sS (fR 1))) (.inr rfl) (tg2 (QC (i:=6) rfl rfl) (QC (i:=7) rfl rfl)) (aI (c8 (c:=0) (aO (i:=5)) (af (aF (rS (k:= .X) (ux (fR 6)))) (af (aF (rS (k:= .X) (ux (fR 7)))) aD)) ⟨rfl,trivial,trivial,trivial⟩ (by decide) (by decide))))
 (ao (iw (bc (mZ (oF (zW (rc (fR 2)))))) (.inl rfl) (QD (i:=8) rfl rfl) (aI (c8 (c:=0) (aO (i:=5)) (af (aF (rS (k:= .X) (ux (km (rc (fR 8)) (fx pI))))) (af (aF (rS (k:= .X) (ux (km (rc (fR 8)) (fx pI))))) (af (aF (rS (k:= .X) (ux (xr (rc (fR 2)) (ux (fR 8)))))) aD))) ⟨rfl,trivial,trivial,trivial,trivial⟩ (by decide) (by decide))))
 (ao (iw (bc (mZ (oF (zW (rc (fR 3)))))) (.inl rfl) (QD (i:=9) rfl rfl) (aI (c8 (c:=0) (aO (i:=5)) (af (aF (oF (sE (cS (k':= .F) (rc (fR 9)))))) (af (aF (rS (k:= .X) (ux (xr (rc (fR 3)) (ux (fR 9)))))) aD)) ⟨rfl,trivial,trivial,trivial⟩ (by decide) (by decide))))
 (ao (iw (bc (sS (fR 4))) (.inr rfl) (tg2 (QC (i:=6) rfl rfl) (QC (i:=7) rfl rfl)) (aI (c8 (c:=0) (aO (i:=5)) (af (aF (rS (k:= .X) (ux (fR 6)))) (af (aF (rS (k:= .X) (ux (fR 7)))) aD)) ⟨rfl,trivial,trivial,trivial⟩ (by decide) (by decide))))
 (bC (u7 (i:=5) rfl)))))))⟩
theorem Nn(T:Txt K mg a base):FnOk P w K mg base d5 5 a.f_bu9 a.d_bu9 ["guild","road"] (dU (aN a K) NL (KR (aN a K) .F) m_bu9):=iU (more:=Oa) (body:=xD) T.F_bu9 Me λb=>⟨_,(ag (aZ (bK (aa (K8 Da (aL (pv 0) T.cl_Guild T.me_h9 (RF T) b.mm T.b_h9 .nil aC (aa (pv 1) ae))) (aa (bw (bS K rfl) rfl T.z_len Gd.gC (aa (pv 1) ae)) (aa (pv 1) ae)))))),(bC (bc (cz (ar (M8 KZ (fx (ff (c:=0) (aU (fR 0)) (af (aF (fF 1)) aD) rfl))) (ar (ko l7 (fx (fF 1))) (ar (fF 1) aW))))))⟩
theorem Rz(T:Txt K mg a base):FnOk P w K mg base d5 6 a.f_u9 a.d_u9 ["self","a","b"] (dU (aN a K) RY (KR (aN a K) .F) OF):=iU (more:=Sz) (body:=Fv) T.F_u9 QV λb=>⟨_,(ac (az (aL (ax K rfl (pv 0) rfl) T.cl_Guild T.me_d9 (RK T) b.mm T.b_d9 .nil aC (aa (pv 1) (aa (pv 2) ae))))
 (ac (az (aL (pv 0) T.cl_Post T.me_w9 (Lf T) b.mm T.b_w9 .nil aC (aa (pv 1) (aa (pv 2) ae))))
 (ac (az (aL (pv 0) T.cl_Post T.me_w9 (Lf T) b.mm T.b_w9 .nil aC (aa (pv 2) (aa (pv 1) ae))))
 (ac (az (aL (pv 0) T.cl_Post T.me_t9 (EW T) b.mm T.b_t9 .nil aC (aa (bw (jr rfl) rfl T.z_min Gd.lU (aa (pv 1) (aa (pv 2) ae))) ae)))
 (ag (az (aL (pv 0) T.cl_Post T.me_t9 (EW T) b.mm T.b_t9 .nil aC (aa (bw (js rfl) rfl T.z_max Gd.p9 (aa (pv 1) (aa (pv 2) ae))) ae)))))))),(ao (aI (Aa (c:=0) (B6 (c:=1) (B5 (i:=0) rfl) T.cl_Post T.n_guild rfl) (af (aF (fF 1)) (af (aF (fF 2)) aD)) ⟨trivial,trivial,trivial⟩ rfl (by decide)))
 (ao (aI (c8 (c:=1) (aO (i:=0)) (af (aF (fF 1)) (af (aF (fF 2)) aD)) ⟨rfl,trivial,trivial,trivial⟩ (by decide) (by decide)))
 (ao (aI (c8 (c:=1) (aO (i:=0)) (af (aF (fF 2)) (af (aF (fF 1)) aD)) ⟨rfl,trivial,trivial,trivial⟩ (by decide) (by decide)))
 (ao (aI (c8 (c:=1) (aO (i:=0)) (af (aF (jw zp (fx (fF 1)) (fx (fF 2)))) aD) ⟨rfl,trivial,trivial⟩ (by decide) (by decide)))
 (aI (c8 (c:=1) (aO (i:=0)) (af (aF (jw zq (fx (fF 1)) (fx (fF 2)))) aD) ⟨rfl,trivial,trivial⟩ (by decide) (by decide)))))))⟩
theorem Rx(T:Txt K mg a base):FnOk P w K mg base d5 6 a.f_x9 a.d_x9 ["self","writer","receiver","road"] (dU (aN a K) RV (KR (aN a K) .F) OD):=iU (more:=Sw) (body:=Fs) T.F_x9 QT λb=>⟨_,(ac (dJ (cj b) (ax K rfl (pv 0) rfl) (bK (aa (pv 1) (aa (pv 2) ae))) (pv 3) rfl)
 (ag (bY (Ez (bp (Np T) b.mm rfl T.m_bs9 T.F_bs9.kp T.b_bs9 .nil aC (aa (ax K rfl (pv 0) rfl) (aa (pv 2) (aa (pv 3) ae))))) (ag (dJ (cj b) (dC (cQ K rfl) (ax K rfl (pv 0) rfl) (pv 2) (λ_ _=>rfl)) (pv 1) (bp (Nn T) b.mm rfl T.m_bu9 T.F_bu9.kp T.b_bu9 .nil aC (aa (ax K rfl (pv 0) rfl) (aa (aJ EV (dq (aa (pv 2) ae)) (pv 3)) ae))) rfl)) (ag (az (uM (dC (cQ K rfl) (ax K rfl (pv 0) rfl) (pv 2) (λ_ _=>rfl)) (pv 1) eh ⟨rfl,rfl,rfl,rfl⟩)))))),(ao (fP (gF (c:=1) (i:=0) T.cl_Post T.n_told_last rfl rfl) (fx (cz (ar (fF 1) (ar (fF 2) aW)))) (bc (fF 3)))
 (dE (bc (B0 (fx (fT (af (aX (dW (c:=1) T.cl_Post T.n_guild (rc (fO 0)))) (af (aF (fF 2)) (af (aF (fF 3)) aD))) rfl)))) (fP (MW (Jb (B6 (c:=1) (B5 (i:=0) rfl) T.cl_Post T.n_standings rfl) (sQ (j:=2)))) (fx (fF 1)) (bc (fT (af (aX (dW (c:=1) T.cl_Post T.n_guild (rc (fO 0)))) (af (aF (oF (Ld (oc (fV (ar (fF 2) aW))) (rc (fF 3))))) aD)) rfl))) (aI (Ah (MW (Jb (B6 (c:=1) (B5 (i:=0) rfl) T.cl_Post T.n_standings rfl) (sQ (j:=2)))) (fx (fF 1))))))⟩
theorem Lh(T:Txt K mg a base):FnOk P w K mg base d5 7 a.f_r9 a.d_r9 ["self","a","b"] (dU (aN a K) R6 (KR (aN a K) .F) Jy):=iU (more:=SC) (body:=Fy) T.F_r9 QW λb=>⟨_,(ac (az (aL (ax K rfl (pv 0) rfl) T.cl_Guild T.me_i9 (qN T) b.mm T.b_i9 .nil aC (aa (dq (aa (pv 1) (aa (pv 2) ae))) ae)))
 (ac (bY (sn (qL (cj b) (bK (aa (pv 1) (aa (pv 2) ae))) (ax K rfl (pv 0) rfl))) (ag c7) bo)
 (ac (az (aL (pv 0) T.cl_Post T.me_x9 (Rx T) b.mm T.b_x9 .nil aC (aa (pv 1) (aa (pv 2) (aa (nB (cj b) (ax K rfl (pv 0) rfl) (bK (aa (pv 1) (aa (pv 2) ae))) ⟨rfl,rfl,rfl,rfl⟩) ae)))))
 (ag (aZ (aL (pv 0) T.cl_Post T.me_t9 (EW T) b.mm T.b_t9 .nil aC (aa (pv 2) ae))))))),(ao (aI (bc (ff (c:=0) (aX (dW (c:=1) T.cl_Post T.n_guild (rc (fO 0)))) (af (aF (oF (fV (ar (fF 1) (ar (fF 2) aW))))) aD) rfl)))
 (ao (dE (bc (B0 (fx (ER (fx (cz (ar (fF 1) (ar (fF 2) aW)))) (jL (c:=1) (i:=0) T.cl_Post T.n_letters rfl rfl))))) eI cw)
 (ao (aI (Jt (c:=1) (i:=0) (fF 1) (fF 2) (yf (gF (c:=1) (i:=0) T.cl_Post T.n_letters rfl rfl) (fx (cz (ar (fF 1) (ar (fF 2) aW))))) ⟨rfl,trivial,trivial,trivial,trivial⟩))
 (bC (c8 (c:=1) (aO (i:=0)) (af (aF (fF 2)) aD) ⟨rfl,trivial,trivial⟩ (by decide) (by decide))))))⟩
theorem EY(T:Txt K mg a base):FnOk P w K mg base d5 7 a.f_bn9 a.d_bn9 ["script","size","ways"] (dU (aN a K) NS (KO (aN a K) (.ob b8)) m_bn9):=mP (more:=Oi) (body:=xL) T.F_bn9 rY λb=>⟨_,(ac (aR (i:=3) rY.nd rfl (Or.inl rfl) (bp (Nw T) b.mm rfl T.m_bl9 T.F_bl9.kp T.b_bl9 .nil aC (aa (bp (iT T) b.mm rfl T.m_bh9 T.F_bh9.kp T.b_bh9 .nil aC (aa (pv 0) (aa am ae))) (aa (pv 1) ae))))
 (ac (aR (i:=4) rY.nd rfl (Or.inl rfl) (bp (Nx T) b.mm rfl T.m_bj9 T.F_bj9.kp T.b_bj9 .nil aC (aa (bp (iT T) b.mm rfl T.m_bh9 T.F_bh9.kp T.b_bh9 .nil aC (aa (pv 0) (aa am ae))) (aa (pv 1) ae))))
 (ac (aR (i:=5) rY.nd rfl (Or.inl rfl) (bp (Nt T) b.mm rfl T.m_bp9 T.F_bp9.kp T.b_bp9 .nil aC (aa (bp (iT T) b.mm rfl T.m_bh9 T.F_bh9.kp T.b_bh9 .nil aC (aa (pv 0) (aa am ae))) (aa (pv 1) ae))))
 (ag (aZ (sx T.mk_Post (RA T) b.mm rfl T.mgC_Post T.b_q9 .nil aC (aa (bp (Nv T) b.mm rfl T.m_bm9 T.F_bm9.kp T.b_bm9 .nil aC (aa (pv 1) (aa (pv 2) (aa (pv 3) (aa (pv 4) (aa (pv 5) ae)))))) ae))))))),(ao (bq (i:=3) (bc (oF (iS (af (aF (fT (af (aU (fR 0)) (af (aF pI) aD)) rfl)) (af (aF (fF 1)) aD)) rfl))) rfl rfl)
 (ao (bq (i:=4) (bc (oF (iS (af (aF (fT (af (aU (fR 0)) (af (aF pI) aD)) rfl)) (af (aF (fF 1)) aD)) rfl))) rfl rfl)
 (ao (bq (i:=5) (bc (oF (iS (af (aF (fT (af (aU (fR 0)) (af (aF pI) aD)) rfl)) (af (aF (fF 1)) aD)) rfl))) rfl rfl)
 (bC (bc (EE (c:=1) (af (aF (oF (iS (af (aF (fF 1)) (af (aU (fR 2)) (af (aF (fF 3)) (af (aF (fF 4)) (af (aF (fF 5)) aD))))) rfl))) aD) rfl))))))⟩
theorem Lg(T:Txt K mg a base):FnOk P w K mg base d5 8 a.f_s9 a.d_s9 ["self"] (dU (aN a K) R5 (KR (aN a K) .F) Jx):=iU (more:=SB) (body:=Fx) T.F_s9 KS λb=>⟨_,(ac (aR (i:=1) KS.nd rfl (Or.inl rfl) (cy (pv 0) T.cl_Post T.me_v9 (Ry T) b.mm T.b_v9 .nil aC))
 (ag (aZ (aL (pv 0) T.cl_Post T.me_r9 (Lh T) b.mm T.b_r9 .nil aC (aa (dC (fK K rfl) (pv 1) am (λ_ _=>rfl)) (aa (dC (fK K rfl) (pv 1) am (λ_ _=>rfl)) ae)))))),(ao (bq (i:=1) (bc (ff (c:=1) (aX (fO 0)) aD rfl)) rfl rfl)
 (bC (c8 (c:=1) (aO (i:=0)) (af (aF (km (rc (fF 1)) (fx pI))) (af (aF (km (rc (fF 1)) (fx pI))) aD)) ⟨rfl,trivial,trivial,trivial⟩ (by decide) (by decide))))⟩
theorem EZ(T:Txt K mg a base):FnOk P w K mg base d5 8 a.f_bk9 a.d_bk9 ["post","ways","size","cell"] (dU (aN a K) NV (KR (aN a K) .F) m_bk9):=iU (more:=Om) (body:=xP) T.F_bk9 lA λb=>⟨_,(ac (aR (i:=4) lA.nd rfl (Or.inl rfl) (aJ bE (aJ cD (pv 3) am) (pv 2)))
 (ac (aR (i:=5) lA.nd rfl (Or.inl rfl) (aJ bE (aJ cD (aJ cD (pv 3) am) (pv 2)) (pv 2)))
 (ac (aR (i:=6) lA.nd rfl (Or.inl rfl) (cy (pv 0) T.cl_Post T.me_bb9 (nG T) b.mm T.b_bb9 .nil aC))
 (ag (bY (PW.pt (sk (aK nF (aJ bE (pv 3) am) am (bf _)) (mW (aK zY (pv 4) (pv 5) (bf _))))) (ac (aR (i:=7) lA.nd rfl (Or.inl rfl) (bK (aa (bw (jr rfl) rfl T.z_min Gd.lU (aa (pv 4) (aa (pv 5) ae))) (aa (bw (js rfl) rfl T.z_max Gd.p9 (aa (pv 4) (aa (pv 5) ae))) ae))))
 (ag (bY (aK (zZ K rfl (Mi.O6 b)) (pv 7) (pv 1) (by with_unfolding_all rfl)) (ac (az (aL (pv 0) T.cl_Post T.me_u9 (Rz T) b.mm T.b_u9 .nil aC (aa (pv 4) (aa (pv 5) ae))))
 (ag (az (jv WJ X9 PySem.F.type_list_remove (Ce (Mi.Va b)) (pv 1) (aa (pv 7) ae))))) (ac (az (aL (pv 0) T.cl_Post T.me_y9 (Rw T) b.mm T.b_y9 .nil aC (aa (pv 4) (aa (pv 5) ae))))
 (ag (az (jv WJ Xp Xq gJ (pv 1) (aa (pv 7) ae)))))))) (ag (bY (aK nF (bw (bS K rfl) rfl T.z_len Gd.gC (aa (pv 6) ae)) am (bf _)) (ac (aR (i:=8) lA.nd rfl (Or.inl rfl) (dC (cQ K rfl) (pv 6) (aJ bE (aJ cD (pv 3) am) (bw (bS K rfl) rfl T.z_len Gd.gC (aa (pv 6) ae))) (λ_ _=>rfl)))
 (ag (az (aL (pv 0) T.cl_Post T.me_r9 (Lh T) b.mm T.b_r9 .nil aC (aa (dC (fK K rfl) (pv 8) am (λ_ _=>rfl)) (aa (dC (fK K rfl) (pv 8) am (λ_ _=>rfl)) ae)))))) bo))))))),(ao (bq (i:=4) (bc (aH b9 (fx (aH di (fx (fF 3)) (fx pI))) (fx (fF 2)))) rfl rfl)
 (ao (bq (i:=5) (bc (aH b9 (fx (aH di (fx (aH di (fx (fF 3)) (fx pI))) (fx (fF 2)))) (fx (fF 2)))) rfl rfl)
 (ao (bq (i:=6) (bc (oF (gv (c:=1) (aX (fO 0)) aD rfl))) rfl rfl)
 (dE (bc (sr (cI (fx (aH w6 (fx (aH b9 (fx (fF 3)) (fx pI))) (fx pI)))) (cI (fx (aH IT (fx (fF 4)) (fx (fF 5))))))) (ao (bq (i:=7) (bc (cz (ar (jw zp (fx (fF 4)) (fx (fF 5))) (ar (jw zq (fx (fF 4)) (fx (fF 5))) aW)))) rfl rfl)
 (dE (bc (cI (fx (aH K1 (fx (fF 7)) (cx (fC 1)))))) (ao (aI (c8 (c:=1) (aO (i:=0)) (af (aF (fF 4)) (af (aF (fF 5)) aD)) ⟨rfl,trivial,trivial,trivial⟩ (by decide) (by decide)))
 (aI (FY (xj (i:=1) rfl) (fx (fF 7))))) (ao (aI (c8 (c:=1) (aO (i:=0)) (af (aF (fF 4)) (af (aF (fF 5)) aD)) ⟨rfl,trivial,trivial,trivial⟩ (by decide) (by decide)))
 (aI (nV (xj (i:=1) rfl) (fF 7)))))) (dE (bc (cI (fx (aH w6 (fx (ko l7 (fx (fF 6)))) (fx pI))))) (ao (bq (i:=8) (bc (nC (rc (fF 6)) (fx (aH b9 (fx (aH di (fx (fF 3)) (fx pI))) (fx (ko l7 (fx (fF 6)))))))) rfl rfl)
 (aI (c8 (c:=1) (aO (i:=0)) (af (aF (km (rc (fF 8)) (fx pI))) (af (aF (km (rc (fF 8)) (fx pI))) aD)) ⟨rfl,trivial,trivial,trivial⟩ (by decide) (by decide)))) cw)))))⟩
theorem Rv(T:Txt K mg a base):FnOk P w K mg base d5 9 a.f_z9 a.d_z9 ["self","most"] (dU (aN a K) RT (KR (aN a K) .F) OB):=iU (more:=Su) (body:=Fp) T.F_z9 Dz λb=>⟨_,(ac (aR (i:=2) Dz.nd rfl (Or.inl rfl) am)
 (ac (uK V5 (PW.pt (sk (aK kq (pv 2) (pv 1) (bf _)) (mW (aK nF (bw CQ rfl T.z_len Gd.gC (aa (ax K rfl (pv 0) rfl) ae)) am (bf _))))) (ac (az (cy (pv 0) T.cl_Post T.me_s9 (Lg T) b.mm T.b_s9 .nil aC))
 (ag (MY (i:=2) Dz.nd rfl (Or.inl rfl) am O4))))
 (ag (aZ (pv 2))))),(ao (bq (i:=2) (bc pI) rfl rfl)
 (ao (zo 100000 (bc (sr (cI (fx (aH r0 (fx (fF 2)) (fx (fF 1))))) (cI (fx (aH w6 (fx (Nd (cx (jL (c:=1) (i:=0) T.cl_Post T.n_letters rfl rfl)))) (fx pI)))))) (ao (aI (c8 (c:=1) (aO (i:=0)) aD ⟨rfl,trivial⟩ (by decide) (by decide)))
 (Rg (i:=2) (fx pI) rfl rfl)))
 (bC (bc (fF 2)))))⟩
theorem E1(T:Txt K mg a base):FnOk P w K mg base d5 10 a.f_bi9 a.d_bi9 ["post","other","most"] (dU (aN a K) NX (KR (aN a K) .F) m_bi9):=iU (more:=Oo) (body:=xS) T.F_bi9 wZ λb=>⟨_,(ac (aR (i:=3) wZ.nd rfl (Or.inl rfl) (aL (pv 0) T.cl_Post T.me_z9 (Rv T) b.mm T.b_z9 .nil aC (aa (pv 2) ae)))
 (ac (bY (PW.pt (qF (MX (Ez (bp (Nq T) b.mm rfl T.m_br9 T.F_br9.kp T.b_br9 .nil aC (aa (pv 3) ae)))) (qF (aK kq (pv 3) am (bf _)) (sj (aK nF (pv 3) (pv 2) (bf _)))))) (ag (aZ kl)) bo)
 (ac (bY (PW.pt (sk (aK kq (pv 3) (pv 2) (bf _)) (mW (aK (Jk K rfl b.units) (cy (pv 0) T.cl_Post T.me_bb9 (nG T) b.mm T.b_bb9 .nil aC) (dq ae) (bf _))))) (ag (aZ kl)) bo)
 (ac (ft V5 rfl (d9 rfl T.z_range (aa (pv 3) ae)) (cc (i:=4) wZ.nd rfl (Or.inl rfl)) (ac (bY (aK (ku K rfl b.units) (cy (pv 1) T.cl_Post T.me_bb9 (nG T) b.mm T.b_bb9 .nil aC) (dq ae) (bf _)) (ag (aZ kl)) bo)
 (ag (az (cy (pv 1) T.cl_Post T.me_s9 (Lg T) b.mm T.b_s9 .nil aC)))))
 (ag (aZ (xo (zU (ku K rfl b.units) (cy (pv 0) T.cl_Post T.me_ba9 (E4 T) b.mm T.b_ba9 .nil aC) (cy (pv 1) T.cl_Post T.me_ba9 (E4 T) b.mm T.b_ba9 .nil aC) (bf _)) (xn (zU (ku K rfl b.units) (cy (pv 0) T.cl_Post T.me_bb9 (nG T) b.mm T.b_bb9 .nil aC) (cy (pv 1) T.cl_Post T.me_bb9 (nG T) b.mm T.b_bb9 .nil aC) (bf _)))))))))),(ao (bq (i:=3) (c8 (c:=1) (aO (i:=0)) (af (aF (fF 2)) aD) ⟨rfl,trivial,trivial⟩ (by decide) (by decide)) rfl rfl)
 (ao (dE (bc (qI (I9 (B0 (fx (fT (af (aF (fF 3)) aD) rfl)))) (qI (cI (fx (aH r0 (fx (fF 3)) (fx pI)))) (cI (fx (aH w6 (fx (fF 3)) (fx (fF 2)))))))) (bC (bc pB)) cw)
 (ao (dE (bc (sr (cI (fx (aH r0 (fx (fF 3)) (fx (fF 2))))) (cI (fx (aH lB (fx (oF (gv (c:=1) (aX (fO 0)) aD rfl))) (fx (oF (fV aW)))))))) (bC (bc pB)) cw)
 (ao (iw (bc (yk (fx (fF 3)))) (.inl rfl) (Kz (i:=4) rfl rfl) (ao (dE (bc (cI (fx (aH lB (fx (oF (gv (c:=1) (aX (fO 1)) aD rfl))) (fx (oF (fV aW))))))) (bC (bc pB)) cw)
 (aI (c8 (c:=1) (aO (i:=1)) aD ⟨rfl,trivial⟩ (by decide) (by decide)))))
 (bC (bc (Le (fx (aH lB (fx (oF (gv (c:=1) (aX (fO 0)) aD rfl))) (fx (oF (gv (c:=1) (aX (fO 1)) aD rfl))))) (aH lB (fx (oF (gv (c:=1) (aX (fO 0)) aD rfl))) (fx (oF (gv (c:=1) (aX (fO 1)) aD rfl)))))))))))⟩
theorem Ny(T:Txt K mg a base):FnOk P w K mg base d5 11 a.f_bg9 a.d_bg9 ["script"] (dU (aN a K) NZ (KR (aN a K) .F) m_bg9):=iU (more:=Oq) (body:=xU) T.F_bg9 gr λb=>⟨_,(ac (aR (i:=1) gr.nd rfl (Or.inl rfl) (aJ gw am (aJ bE (bp (iT T) b.mm rfl T.m_bh9 T.F_bh9.kp T.b_bh9 .nil aC (aa (pv 0) (aa am ae))) am)))
 (ac (aR (i:=2) gr.nd rfl (Or.inl rfl) (bp (Nr T) b.mm rfl T.m_bq9 T.F_bq9.kp T.b_bq9 .nil aC (aa (bp (iT T) b.mm rfl T.m_bh9 T.F_bh9.kp T.b_bh9 .nil aC (aa (pv 0) (aa am ae))) (aa (pv 1) ae))))
 (ac (aR (i:=3) gr.nd rfl (Or.inl rfl) (bp (EY T) b.mm rfl T.m_bn9 T.F_bn9.kp T.b_bn9 .nil aC (aa (pv 0) (aa (pv 1) (aa (pv 2) ae)))))
 (ac (aR (i:=4) gr.nd rfl (Or.inl rfl) (bp (EY T) b.mm rfl T.m_bn9 T.F_bn9.kp T.b_bn9 .nil aC (aa (pv 0) (aa (pv 1) (aa (pv 2) ae)))))
 (ac (aR (i:=5) gr.nd rfl (Or.inl rfl) (cJ (eV K rfl) rfl T.z_list Gd.iq (aa (pv 2) ae)))
 (ac (aR (i:=6) gr.nd rfl (Or.inl rfl) (cJ (eV K rfl) rfl T.z_list Gd.iq (aa (pv 2) ae)))
 (ac (ft V5 rfl (fg K rfl (EI (Dw K rfl) (pv 0) (Jc am) Jd)) (cc (i:=7) gr.nd rfl (Or.inl rfl)) (ac (az (bp (EZ T) b.mm rfl T.m_bk9 T.F_bk9.kp T.b_bk9 .nil aC (aa (pv 3) (aa (pv 5) (aa (pv 1) (aa (pv 7) ae))))))
 (ag (az (bp (EZ T) b.mm rfl T.m_bk9 T.F_bk9.kp T.b_bk9 .nil aC (aa (pv 4) (aa (pv 6) (aa (pv 1) (aa (pv 7) ae)))))))))
 (ac (aR (i:=8) gr.nd rfl (Or.inl rfl) (aJ bE (bp (iT T) b.mm rfl T.m_bh9 T.F_bh9.kp T.b_bh9 .nil aC (aa (pv 0) (aa am ae))) am))
 (ac (bY (aK qM (aJ bE (aJ cD (bp (iT T) b.mm rfl T.m_bh9 T.F_bh9.kp T.b_bh9 .nil aC (aa (pv 0) (aa am ae))) am) am) am (bf _)) (ag (aR (i:=8) gr.nd rfl (Or.inl rfl) (aJ bE (aJ cD (bp (iT T) b.mm rfl T.m_bh9 T.F_bh9.kp T.b_bh9 .nil aC (aa (pv 0) (aa am ae))) am) am))) bo)
 (ag (aZ (xo (bp (E1 T) b.mm rfl T.m_bi9 T.F_bi9.kp T.b_bi9 .nil aC (aa (pv 3) (aa (pv 4) (aa (pv 8) ae)))) (xn (bp (E1 T) b.mm rfl T.m_bi9 T.F_bi9.kp T.b_bi9 .nil aC (aa (pv 3) (aa (pv 4) (aa (aJ cD (pv 8) am) ae))))))))))))))))),(ao (bq (i:=1) (bc (aH ju (fx pI) (fx (aH b9 (fx (fT (af (aU (fR 0)) (af (aF pI) aD)) rfl)) (fx pI))))) rfl rfl)
 (ao (bq (i:=2) (bc (oF (iS (af (aF (fT (af (aU (fR 0)) (af (aF pI) aD)) rfl)) (af (aF (fF 1)) aD)) rfl))) rfl rfl)
 (ao (fq (i:=3) (bc (iS (af (aU (fR 0)) (af (aF (fF 1)) (af (aF (fF 2)) aD))) rfl)) rfl rfl)
 (ao (fq (i:=4) (bc (iS (af (aU (fR 0)) (af (aF (fF 1)) (af (aF (fF 2)) aD))) rfl)) rfl rfl)
 (ao (fq (i:=5) (bc (sE (rc (fF 2)))) rfl rfl)
 (ao (fq (i:=6) (bc (sE (rc (fF 2)))) rfl rfl)
 (ao (iw (bc (mZ (oF (Ng (cS (k':= .F) (rc (fR 0))) (fx pI))))) (.inl rfl) (Kz (i:=7) rfl rfl) (ao (aI (Ae (af (aO (i:=3)) (af (aO (i:=5)) (af (aF (fF 1)) (af (aF (fF 7)) aD)))) ⟨rfl,rfl,trivial,trivial,trivial⟩ (by decide) (by decide)))
 (aI (Ae (af (aO (i:=4)) (af (aO (i:=6)) (af (aF (fF 1)) (af (aF (fF 7)) aD)))) ⟨rfl,rfl,trivial,trivial,trivial⟩ (by decide) (by decide)))))
 (ao (bq (i:=8) (bc (aH b9 (fx (fT (af (aU (fR 0)) (af (aF pI) aD)) rfl)) (fx pI))) rfl rfl)
 (ao (dE (bc (cI (fx (aH BS (fx (aH b9 (fx (aH di (fx (fT (af (aU (fR 0)) (af (aF pI) aD)) rfl)) (fx pI))) (fx pI))) (fx pI))))) (bq (i:=8) (bc (aH b9 (fx (aH di (fx (fT (af (aU (fR 0)) (af (aF pI) aD)) rfl)) (fx pI))) (fx pI))) rfl rfl) cw)
 (bC (S0 (mux (mfu (Ae (af (aO (i:=3)) (af (aO (i:=4)) (af (aF (fF 8)) aD))) ⟨rfl,rfl,trivial,trivial⟩ (by decide) (by decide)))) (Ae (af (aO (i:=3)) (af (aO (i:=4)) (af (aF (aH di (fx (fF 8)) (fx pI))) aD))) ⟨rfl,rfl,trivial,trivial⟩ (by decide) (by decide)))))))))))))⟩
end K13
namespace K13
open PySem L2 Mi Cl
noncomputable section
structure GΩ where
 hω:Int
 U:(DI Bool)
 lω:(DI Int)
 sω:(DI Bool)
 wω:(DI Int)
def au:GΩ->D:=λg=>.obj 0 ["house_count","ways","likings","shuns","wish_ranks"] [D.int g.hω,(bB D.bl) g.U,(bB D.int) g.lω,(bB D.bl) g.sω,(bB D.int) g.wω]
structure PostT where
 guild:GΩ
 roads:(List (Option (List Int)))
 told_last:(DI (Option (List Int)))
 written_last:(DI (Option (List Int)))
 letters:(DI (Option (List Int)))
 standings:(List (DJ (Int×Int×(List Int))))
def bg:PostT->D:=λg=>.obj 1 ["guild","roads","told_last","written_last","letters","standings"] [au g.guild,(eL (eO (eL D.int))) g.roads,(bB (eO (eL D.int))) g.told_last,(bB (eO (eL D.int))) g.written_last,(bB (eO (eL D.int))) g.letters,(eL (lR (wO D.int D.int (eL D.int)))) g.standings]
theorem ce(g:GΩ):SimR D.int (bQ 0 "house_count" (au g)) (.ok g.hω):=rfl
theorem eU(g:GΩ):SimR (bB D.bl) (bQ 0 "ways" (au g)) (.ok g.U):=rfl
theorem gH(g:GΩ):SimR (bB D.int) (bQ 0 "likings" (au g)) (.ok g.lω):=rfl
theorem iW(g:GΩ):SimR (bB D.bl) (bQ 0 "shuns" (au g)) (.ok g.sω):=rfl
theorem mf(g:GΩ):SimR (bB D.int) (bQ 0 "wish_ranks" (au g)) (.ok g.wω):=rfl
theorem eT(g:PostT):SimR au (bQ 1 "guild" (bg g)) (.ok g.guild):=rfl
theorem gx(g:PostT):SimR (eL (eO (eL D.int))) (bQ 1 "roads" (bg g)) (.ok g.roads):=rfl
theorem iV(g:PostT):SimR (bB (eO (eL D.int))) (bQ 1 "written_last" (bg g)) (.ok g.written_last):=rfl
theorem db(g:PostT):SimR (bB (eO (eL D.int))) (bQ 1 "letters" (bg g)) (.ok g.letters):=rfl
def mk_Guild(size:Int):Res GΩ:=if 1<=size/\size<=60 then .ok ⟨size,[],[],[],[]⟩ else .bad
theorem jz(size:Int):SimR au (gM 0 Cj [.int size]) (mk_Guild size):=by
 unfold mk_Guild;by_cases h:1<=size/\size<=60
 · rw[Vq h];have b:¬ size<1:=by omega
   have a:¬ 60<size:=by omega
   show gM 0 Cj [.int size]=_;unfold gM Cj Mi.run;rw[FS];simp[aw,jo,aQ,Ih,d7,bn,aV,rg,Iq,b,a,bT,cR,l9,cL,ql,bx];rfl
 ·rw[on h];trivial
structure S_b9 where
 vuq:GΩ
 vkq:(DI Bool)
 v0q:Int
def Ep:S_b9->Tp:=λs=>[some (au s.vuq),some ((bB D.bl) s.vkq),some (D.int s.v0q)]
abbrev Uu:=S_b9->FlC S_b9 (List Int)
def Bk:Uu:=bX (bj (iD (bD (jJ 0) (bD (λg=>.ok g.hω) (pC (·.vuq)))) (a9 (vz false) (bD cM (iJ (pC λp=>p.2.v0q) (pC λp=>p.1))) (pC λp=>p.2.vkq)) (pC λp=>p.1)))
def HE:Uu:=Bk
def Kx(b:GΩ)(a:DI Bool)(c:Int):OutC S_b9 (List Int):=bP none (HE ⟨b,a,c⟩)
theorem T1:Cl.TJ Ep (eL D.int) FR HE:=a8 (ak (kO (jq (ba ce xp)) (aT (aj (uT false) (cB bM (bz xp xp)) xp)) xp))
theorem Uj(b:GΩ)(a:DI Bool)(c:Int):SimO Ep (eL D.int) (OR [au b,(bB D.bl) a,D.int c]) (Kx b a c):=fA T1 rfl
structure S_m9 where
 vuq:GΩ
 v0q:Int
 vbq:(List Int)
def Ee:S_m9->Tp:=λs=>[some (au s.vuq),some (D.int s.v0q),some ((eL D.int) s.vbq)]
abbrev Us:=S_m9->FlC S_m9 Bool
def AT:Us:=bX (bj (bD Um (iD (pC (·.vbq)) (λ_=>.ok true) (a9 (vz false) (bD cM (iJ (pC λp=>p.2.v0q) (pC λp=>p.1))) (bD (λg=>.ok g.sω) (pC λp=>p.2.vuq))))))
def Hq:Us:=AT
def Ko(b:GΩ)(c:Int)(a:List Int):OutC S_m9 Bool:=bP none (Hq ⟨b,c,a⟩)
theorem TL:Cl.TJ Ee D.bl FF Hq:=a8 (ak (ba RP (kO (gk xp) yq (aj (uT false) (cB bM (bz xp (cT (λ_=>rfl) xp))) (ba iW xp)))))
theorem Ub(b:GΩ)(c:Int)(a:List Int):SimO Ee D.bl (OJ [au b,D.int c,(eL D.int) a]) (Ko b c a):=du TL rfl
structure S_n9 where
 vuq:GΩ
def xc:S_n9->Tp:=λs=>[some (au s.vuq)]
abbrev Ur:=S_n9->FlC S_n9 Int
def JW:Ur:=bX (bj (bD (λg=>.ok g.hω) (pC (·.vuq))))
def LO:Ur:=JW
def Vo(a:GΩ):OutC S_n9 Int:=bP none (LO ⟨a⟩)
theorem TK:Cl.TJ xc D.int FE LO:=a8 (ak (cT (λ_=>rfl) (ba ce xp)))
theorem Ua(a:GΩ):SimO xc D.int (nQ [au a]) (Vo a):=du TK rfl
structure S_v9 where
 vuq:PostT
 vjq:Option (List Int)
def D7:S_v9->Tp:=λs=>[some (bg s.vuq),s.vjq.map (kP D.int)]
abbrev Uq:=S_v9->FlC S_v9 (List Int)
def AI:Uq:=yn (λs=>s.vuq.letters) (λk s=>{s with vjq:=some k})
def Hh:Uq:=ay AI
 qx
def Kl(a:PostT):OutC S_v9 (List Int):=bP none (Hh ⟨a,none⟩)
theorem Tx:Cl.TJ D7 (kP D.int) Fu Hh:=ah (Dc (λs=>⟨_,rfl,rfl⟩) (λ_=>(by decide:1<2)) (λ_ _=>rfl))
 g8
theorem T6(a:PostT):SimO D7 (kP D.int) (OE [bg a]) (Kl a):=du Tx rfl
structure S_w9 where
 vuq:PostT
 vAq:Int
 voq:Int
def D6:S_w9->Tp:=λs=>[some (bg s.vuq),some (D.int s.vAq),some (D.int s.voq)]
abbrev HM:=S_w9->FlC S_w9 Unit
def tK:HM:=aS (jG (λs=>some s.vuq.letters) (λs y=>{s with vuq:={s.vuq with letters:=y}}) (bD cM (iJ (pC (·.vAq)) (pC (·.voq)))))
def tJ:HM:=aS (jG (λs=>some s.vuq.told_last) (λs y=>{s with vuq:={s.vuq with told_last:=y}}) (bD cM (iJ (pC (·.vAq)) (pC (·.voq)))))
def tI:HM:=aS (jG (λs=>some s.vuq.written_last) (λs y=>{s with vuq:={s.vuq with written_last:=y}}) (bD cM (iJ (pC (·.vAq)) (pC (·.voq)))))
def tH:HM:=aS (qZ (gI (λs=>some s.vuq.standings) (λs=>some s.voq)) (pI (λs=>some s.vuq.standings) (λs y=>{s with vuq:={s.vuq with standings:=y}}) (λs=>some s.voq)) (pC (·.vAq)))
def Hg:HM:=ay tK
 (ay tJ
 (ay tI
 tH))
def HY(c:PostT)(b:Int)(a:Int):OutC S_w9 Unit:=bP (some ()) (Hg ⟨c,b,a⟩)
theorem Tw:Cl.TJ D6 eN Ft Hg:=ah (aA (nI (λ_=>rfl) (λ_ _=>rfl) (cB bM (bz xp xp))))
 (ah (aA (nI (λ_=>rfl) (λ_ _=>rfl) (cB bM (bz xp xp))))
 (ah (aA (nI (λ_=>rfl) (λ_ _=>rfl) (cB bM (bz xp xp))))
 (aA (z8 (UM (λ_=>rfl) (oh (λ_=>rfl))) (Vb (λ_=>rfl) (λ_ _=>rfl) (oh (λ_=>rfl))) xp))))
theorem LJ(c:PostT)(b:Int)(a:Int):SimO D6 eN (Jw [bg c,D.int b,D.int a]) (HY c b a):=dZ (d:=()) rfl Tw rfl
structure S_bc9 where
 vuq:PostT
 vAq:Int
 voq:Int
 vrq:Option (Option (List Int))
def zN:S_bc9->Tp:=λs=>[some (bg s.vuq),some (D.int s.vAq),some (D.int s.voq),s.vrq.map (eO (eL D.int))]
abbrev rP:=S_bc9->FlC S_bc9 Unit
def pS:rP:=bR (λa s=>{s with vrq:=some a}) (bj (a9 q8 (bD (λg=>.ok g.roads) (pC (·.vuq))) (pC (·.vAq))))
def lc:rP:=K5 ()
def pR:rP:=jQ (bj (a9 (sY false) (a9 LH (bD (λg=>.ok g.written_last) (pC (·.vuq))) (bD cM (iJ (pC (·.vAq)) (pC (·.voq))))) (vC (·.vrq))))
 lc
 cu
def wn:rP:=i7 (λs=>some s.vuq.written_last) (λs y=>{s with vuq:={s.vuq with written_last:=y}}) (bD cM (iJ (pC (·.vAq)) (pC (·.voq)))) (bj (vC (·.vrq)))
def wm:rP:=i7 (λs=>some s.vuq.letters) (λs y=>{s with vuq:={s.vuq with letters:=y}}) (bD cM (iJ (pC (·.vAq)) (pC (·.voq)))) (bj (vC (·.vrq)))
def yQ:rP:=ay pS
 (ay pR
 (ay wn
 wm))
def rR(c:PostT)(b:Int)(a:Int):OutC S_bc9 Unit:=bP (some ()) (yQ ⟨c,b,a,none⟩)
theorem PB:Cl.TJ zN eN xY yQ:=ah (xs (ak (aj qO (ba gx xp) xp)))
 (ah (b7 (ak (aT (aj (qQ (rD (i9 dP) (gQ _)) (by decide) false) (GK (ba iV xp) (cB bM (bz xp xp))) xv)))
 (Ir rfl)
 bv)
 (ah (eG (λ_=>rfl) (λ_ _=>rfl) (cB bM (bz xp xp)) (ak xv))
 (eG (λ_=>rfl) (λ_ _=>rfl) (cB bM (bz xp xp)) (ak xv))))
theorem yz(c:PostT)(b:Int)(a:Int):SimO zN eN (u9 [bg c,D.int b,D.int a]) (rR c b a):=dZ (d:=()) rfl PB rfl
structure S_bh9 where
 vsq:(List Int)
 vcq:Int
def zJ:S_bh9->Tp:=λs=>[some (eS s.vsq),some (D.int s.vcq)]
abbrev Bt:=S_bh9->FlC S_bh9 Int
def kZ:Bt:=bX (bj (a9 q8 (pC (·.vsq)) (pC (·.vcq))))
def we:Bt:=jQ (bj (a9 F2 (pC (·.vcq)) (bD n8 (pC (·.vsq)))))
 kZ
 cu
def wd:Bt:=bX (bj (kC (0:Int)))
def yL:Bt:=ay we
 wd
def iG(a:List Int)(b:Int):OutC S_bh9 Int:=bP none (yL ⟨a,b⟩)
theorem Pv:Cl.TJ zJ D.int xT yL:=ah (b7 (ak (aT (aj uS xp (ba NF xp))))
 (a8 (ak (cT (λ_=>rfl) (aj RO xp xp))))
 bv)
 (a8 (ak xk))
theorem jf(a:List Int)(b:Int):SimO zJ D.int (m_bh9 [eS a,D.int b]) (iG a b):=du Pv rfl
structure S_bl9 where
 v4q:Int
 vwq:Int
 v7q:Option (DI Int)
 vcq:Option Int
def zF:S_bl9->Tp:=λs=>[some (D.int s.v4q),some (D.int s.vwq),s.v7q.map (bB D.int),s.vcq.map D.int]
abbrev qg:=S_bl9->FlC S_bl9 (DI Int)
def v7:qg:=bR (λa s=>{s with v7q:=some a}) (bj (kC ([]:DI Int)))
def o4:qg:=bR (λa s=>{s with v4q:=a}) (bj (a9 dF (a9 lY (a9 Cd (pC (·.v4q)) (kC (48271:Int))) (kC (11:Int))) (kC (2147483647:Int))))
def o3:qg:=i7 (λs=>s.v7q) (λs y=>{s with v7q:=some y}) (bD cM (iJ (a9 dF (pC (·.v4q)) (pC (·.vwq))) (a9 dF (a9 dO (pC (·.v4q)) (kC (7:Int))) (pC (·.vwq))))) (bj (a9 BJ (a9 dF (a9 dO (pC (·.v4q)) (kC (49:Int))) (kC (7:Int))) (kC (3:Int))))
def pX:qg:=ay o4
 o3
def v6:qg:=fX (bD (jJ 0) (a9 dF (pC (·.v4q)) (kC (5:Int)))) (λa s=>{s with vcq:=some a})
 pX
def v5:qg:=bX (Ii (λs=>s.v7q) (λs=>{s with v7q:=none}))
def yI:qg:=ay v7
 (ay v6
 v5)
def BD(b:Int)(a:Int):OutC S_bl9 (DI Int):=bP none (yI ⟨b,a,none,none⟩)
theorem Pr:Cl.TJ zF (bB D.int) xN yI:=ah (xs (ak (s9 rfl)))
 (ah (da (jq (aj cf xp xk)) (λ_ _=>rfl)
 (ah (xs (ak (aj cf (aj iX (aj uR xp xk) xk) xk)))
 (eG (λ_=>rfl) (λ_ _=>rfl) (cB bM (bz (aj cf xp xp) (aj cf (aj dt xp xk) xp))) (ak (aj uQ (aj cf (aj dt xp xk) xk) xk)))))
 (a8 (mh (λ_=>rfl) (λ_=>rfl))))
theorem PX(b:Int)(a:Int):SimO zF (bB D.int) (m_bl9 [D.int b,D.int a]) (BD b a):=fA Pr rfl
structure S_bo9 where
 v4q:Int
 vaq:Int
 vwq:Int
 vpq:Option (List Int)
 vrq:Option (List Int)
 vgq:Option Int
def r8:S_bo9->Tp:=λs=>[some (D.int s.v4q),some (D.int s.vaq),some (D.int s.vwq),s.vpq.map (eL D.int),s.vrq.map (eL D.int),s.vgq.map D.int]
abbrev g7:=S_bo9->FlC S_bo9 (List Int)
def oW:g7:=bR (λa s=>{s with vpq:=some a}) (bj (iD (a9 jJ (kC (1:Int)) (pC (·.vwq))) (a9 (sY true) (pC λp=>p.1) (pC λp=>p.2.vaq)) (pC λp=>p.1)))
def oV:g7:=bR (λa s=>{s with vrq:=some a}) (bj (Ad (gp (pC (·.vaq)) (ky:_->Res (List Int)))))
def oU:g7:=bR (λa s=>{s with vgq:=some a}) (bj (a9 dF (pC (·.v4q)) (kC (4:Int))))
def kW:g7:=bR (λa s=>{s with vgq:=some a}) (bj (pC (·.vwq)))
def oT:g7:=jQ (bj (a9 (sY false) (a9 dF (a9 dO (pC (·.v4q)) (kC (4:Int))) (kC (8:Int))) (kC (3:Int))))
 kW
 cu
def oR:g7:=bR (λa s=>{s with v4q:=a}) (bj (a9 dO (pC (·.v4q)) (kC (4:Int))))
def oQ:g7:=aS (Qc (λs=>s.vrq) (λs y=>{s with vrq:=some y}) (OX (λs=>s.vpq) (λs y=>{s with vpq:=some y}) ED (a9 dF (pC (·.v4q)) (bD n8 (vC (·.vpq))))))
def oP:g7:=bR (λa s=>{s with v4q:=a}) (bj (a9 dO (pC (·.v4q)) (kC (5:Int))))
def oO:g7:=bR (λa s=>{s with vgq:=some a}) (bj (a9 BJ (vC (·.vgq)) (kC (1:Int))))
def pW:g7:=ay oQ
 (ay oP
 oO)
def vU:g7:=C5 (bj (qd (a9 Gy (vC (·.vgq)) (kC (0:Int))) (a9 Gy (bD n8 (vC (·.vpq))) (kC (0:Int)))))
 pW 100000
def vT:g7:=bX (bj (a9 yT (vC (·.vrq)) (Ad (gp (kC (0:Int)) (ky:_->Res (List Int))))))
def yF:g7:=ay oW
 (ay oV
 (ay oU
 (ay oT
 (ay oR
 (ay vU
 vT)))))
def BA(c:Int)(a:Int)(b:Int):OutC S_bo9 (List Int):=bP none (yF ⟨c,a,b,none,none,none⟩)
theorem Pn:Cl.TJ r8 (eL D.int) xK yF:=ah (xs (ak (kO (yr xk xp) (aT (aj (jx true) xp xp)) xp)))
 (ah (xs (ak (eE (cU xp eD))))
 (ah (xs (ak (aj cf xp xk)))
 (ah (b7 (ak (aT (aj (jx false) (aj cf (aj dt xp xk) xk) xk)))
 (xs (ak xp))
 bv)
 (ah (xs (ak (aj dt xp xk)))
 (ah (zd (rep:=r8) (ak (na (aT (aj Cb xv xk)) (aT (aj Cb (ba jM xv) xk))))
 (ah (aA (NI (λ_=>rfl) (λ_ _=>rfl) (uX (λ_=>rfl) (λ_ _=>rfl) Tl (aj cf xp (ba jM xv)))))
 (ah (xs (ak (aj dt xp xk)))
 (xs (ak (aj uQ xv xk))))) 100000)
 (a8 (ak (aj Lq xv (eE (cU xk eD))))))))))
theorem PU(c:Int)(a:Int)(b:Int):SimO r8 (eL D.int) (m_bo9 [D.int c,D.int a,D.int b]) (BA c a b):=fA Pn rfl
structure S_bp9 where
 v4q:Int
 vwq:Int
 vvq:Option T0
 vcq:Option Int
 v0q:Option Int
 v1q:Option Int
def zC:S_bp9->Tp:=λs=>[some (D.int s.v4q),some (D.int s.vwq),s.vvq.map (eL (qo D.int D.int)),s.vcq.map D.int,s.v0q.map D.int,s.v1q.map D.int]
abbrev iE:=S_bp9->FlC S_bp9 T0
def oN:iE:=bR (λa s=>{s with vvq:=some a}) (bj (Ad (ky:_->Res T0)))
def kU:iE:=bX (Ii (λs=>s.vvq) (λs=>{s with vvq:=none}))
def oM:iE:=jQ (bj (a9 F2 (pC (·.vwq)) (kC (2:Int))))
 kU
 cu
def jX:iE:=bR (λa s=>{s with v4q:=a}) (bj (a9 dF (a9 lY (a9 Cd (pC (·.v4q)) (kC (48271:Int))) (kC (23:Int))) (kC (2147483647:Int))))
def jW:iE:=bR (λa s=>{s with v0q:=some a}) (bj (a9 dF (pC (·.v4q)) (pC (·.vwq))))
def jV:iE:=bR (λa s=>{s with v1q:=some a}) (bj (a9 dF (a9 lY (a9 lY (vC (·.v0q)) (kC (1:Int))) (a9 dF (a9 dO (pC (·.v4q)) (kC (7:Int))) (a9 BJ (pC (·.vwq)) (kC (1:Int))))) (pC (·.vwq))))
def jd:iE:=aS (OX (λs=>s.vvq) (λs y=>{s with vvq:=some y}) qy (iJ (vC (·.v0q)) (vC (·.v1q))))
def jU:iE:=jQ (bj (a9 (Tb true) (iJ (vC (·.v0q)) (vC (·.v1q))) (vC (·.vvq))))
 jd
 cu
def lg:iE:=ay jX
 (ay jW
 (ay jV
 jU))
def vS:iE:=fX (bD (jJ 0) (a9 dF (pC (·.v4q)) (kC (3:Int)))) (λa s=>{s with vcq:=some a})
 lg
def vR:iE:=bX (Ii (λs=>s.vvq) (λs=>{s with vvq:=none}))
def uc:iE:=ay oN
 (ay oM
 (ay vS
 vR))
def wI(b:Int)(a:Int):OutC S_bp9 T0:=bP none (uc ⟨b,a,none,none,none,none⟩)
theorem Pm:Cl.TJ zC (eL (qo D.int D.int)) xJ uc:=ah (xs (ak (eE eD)))
 (ah (b7 (ak (aT (aj uS xp xk)))
 (a8 (mh (λ_=>rfl) (λ_=>rfl)))
 bv)
 (ah (da (jq (aj cf xp xk)) (λ_ _=>rfl)
 (ah (xs (ak (aj cf (aj iX (aj uR xp xk) xk) xk)))
 (ah (xs (ak (aj cf xp xp)))
 (ah (xs (ak (aj cf (aj iX (aj iX xv xk) (aj cf (aj dt xp xk) (aj uQ xp xk))) xp)))
 (b7 (ak (aT (aj (NB (yx dP dP) (by decide)) (bz xv xv) xv)))
 (aA (uX (λ_=>rfl) (λ_ _=>rfl) Ay (bz xv xv)))
 bv)))))
 (a8 (mh (λ_=>rfl) (λ_=>rfl)))))
theorem PR(b:Int)(a:Int):SimO zC (eL (qo D.int D.int)) (m_bp9 [D.int b,D.int a]) (wI b a):=fA Pm rfl
structure S_bq9 where
 v4q:Int
 vwq:Int
 vtq:Option Int
 vyq:Option T0
 vcq:Option Int
 v0q:Option Int
 v1q:Option Int
def zB:S_bq9->Tp:=λs=>[some (D.int s.v4q),some (D.int s.vwq),s.vtq.map D.int,s.vyq.map (eL (qo D.int D.int)),s.vcq.map D.int,s.v0q.map D.int,s.v1q.map D.int]
abbrev jg:=S_bq9->FlC S_bq9 T0
def vQ:jg:=bR (λa s=>{s with vtq:=some a}) (bj (a9 dF (a9 Cd (a9 dF (a9 Cd (a9 lY (pC (·.v4q)) (kC (1:Int))) (kC (48271:Int))) (kC (2147483647:Int))) (kC (16807:Int))) (kC (2147483647:Int))))
def vP:jg:=bR (λa s=>{s with vyq:=some a}) (bj (Ad (ky:_->Res T0)))
def vO:jg:=bR (λa s=>{s with vcq:=some a}) (bj (kC (0:Int)))
def gR:jg:=aS (OX (λs=>s.vyq) (λs y=>{s with vyq:=some y}) qy (iJ (vC (·.v0q)) (vC (·.v1q))))
def ie:jg:=jQ (bj (a9 (sY false) (a9 dF (a9 QR (vC (·.vtq)) (a9 dF (vC (·.vcq)) (kC (29:Int)))) (kC (2:Int))) (kC (1:Int))))
 gR
 cu
def ic:jg:=bR (λa s=>{s with vcq:=some a}) (bj (a9 lY (vC (·.vcq)) (kC (1:Int))))
def io:jg:=ay ie
 ic
def jT:jg:=fX (a9 jJ (a9 lY (vC (·.v0q)) (kC (1:Int))) (pC (·.vwq))) (λa s=>{s with v1q:=some a})
 io
def vN:jg:=fX (bD (jJ 0) (pC (·.vwq))) (λa s=>{s with v0q:=some a})
 jT
def vM:jg:=bX (Ii (λs=>s.vyq) (λs=>{s with vyq:=none}))
def yE:jg:=ay vQ
 (ay vP
 (ay vO
 (ay vN
 vM)))
def Bz(b:Int)(a:Int):OutC S_bq9 T0:=bP none (yE ⟨b,a,none,none,none,none,none⟩)
theorem Pl:Cl.TJ zB (eL (qo D.int D.int)) xI yE:=ah (xs (ak (aj cf (aj uR (aj cf (aj uR (aj iX xp xk) xk) xk) xk) xk)))
 (ah (xs (ak (eE eD)))
 (ah (xs (ak xk))
 (ah (da (jq xp) (λ_ _=>rfl)
 (da (yr (aj iX xv xk) xp) (λ_ _=>rfl)
 (ah (b7 (ak (aT (aj (jx false) (aj cf (aj RM xv (aj cf xv xk)) xk) xk)))
 (aA (uX (λ_=>rfl) (λ_ _=>rfl) Ay (bz xv xv)))
 bv)
 (xs (ak (aj iX xv xk))))))
 (a8 (mh (λ_=>rfl) (λ_=>rfl))))))
theorem PQ(b:Int)(a:Int):SimO zB (eL (qo D.int D.int)) (m_bq9 [D.int b,D.int a]) (Bz b a):=fA Pl rfl
structure S_br9 where
 v8q:Int
def zA:S_br9->Tp:=λs=>[some (D.int s.v8q)]
abbrev LR:=S_br9->FlC S_br9 Bool
def vL:LR:=bX (bj (qd (bD (Ve true) (pC (·.v8q))) (bD E9 (bD (Ve false) (pC (·.v8q))))))
def yD:LR:=vL
def By(a:Int):OutC S_br9 Bool:=bP none (yD ⟨a⟩)
theorem Pk:Cl.TJ zA D.bl xH yD:=a8 (ak (GL (GJ (e:=D.int) (n := "int") (b:=true) (λ_=>rfl) xp) (ba Lm (GJ (e:=D.int) (n := "bool") (b:=false) (λ_=>rfl) xp))))
theorem PP(a:Int):SimO zA D.bl (m_br9 [D.int a]) (By a):=du Pk rfl
structure S_be9 where
 vaq:Int
 vxq:(List (Int×Int×(List Int)))
 v2q:Option (Option (Int×Int×(List Int)))
def zM:S_be9->Tp:=λs=>[some (D.int s.vaq),some ((eL (wO D.int D.int (eL D.int))) s.vxq),s.v2q.map (eO (wO D.int D.int (eL D.int)))]
abbrev qh:=S_be9->FlC S_be9 (Option (List Int))
def la:qh:=bX (λs=>Bn ((bj (Ad (gp (kC (0:Int)) (ky:_->Res (List Int))))) s) λa s=>bndO (zn a) s λb=>.ok b s)
def lb:qh:=jQ (bj (a9 (sY false) (pC (·.vaq)) (kC (0:Int))))
 la
 cu
def pQ:qh:=bR (λa s=>{s with v2q:=some a}) (bj (bD Lu (pC (·.vxq))))
def ij:qh:=bX (λs=>Bn ((bj (kC ())) s) λa s=>bndO ((Fa:Unit->Res (Option (List Int))) a) s λb=>.ok b s)
def pP:qh:=jQ (bj (bD (Go false Fb) (vC (·.v2q))))
 ij
 cu
def wj:qh:=bX (λs=>Bn ((bj (bD QB (bD xt (vC (·.v2q))))) s) λa s=>bndO (zn a) s λb=>.ok b s)
def yO:qh:=ay lb
 (ay pQ
 (ay pP
 wj))
def BE(b:Int)(a:List (Int×Int×(List Int))):OutC S_be9 (Option (List Int)):=bP (some none) (yO ⟨b,a,none⟩)
theorem Py:Cl.TJ zM (eO (eL D.int)) xW yO:=ah (b7 (ak (aT (aj (jx false) xp xk)))
 (a8 (qR yZ (ak (eE (cU xk eD)))))
 bv)
 (ah (xs (ak (AB ND xp)))
 (ah (b7 (ak (aT (s8 (Ar (λ_=>rfl)) xv)))
 (a8 (qR Br (ak xk)))
 bv)
 (a8 (qR yZ (ak (AB U0 (cB jt xv)))))))
theorem P5(b:Int)(a:List (Int×Int×(List Int))):SimO zM (eO (eL D.int)) (m_be9 [D.int b,(eL (wO D.int D.int (eL D.int))) a]) (BE b a):=dZ (d:=none) rfl Py rfl
structure S_bf9 where
 vrq:(Option (List Int))
def zL:S_bf9->Tp:=λs=>[some ((eO (eL D.int)) s.vrq)]
abbrev Bu:=S_bf9->FlC S_bf9 (Option (List Int))
def k9:Bu:=bX (λs=>Bn ((bj (kC ())) s) λa s=>bndO ((Fa:Unit->Res (Option (List Int))) a) s λb=>.ok b s)
def pO:Bu:=jQ (bj (bD (Go false Fb) (pC (·.vrq))))
 k9
 cu
def wg:Bu:=bX (λs=>Bn ((bj (bD Ik (bD xt (pC (·.vrq))))) s) λa s=>bndO (zn a) s λb=>.ok b s)
def yN:Bu:=ay pO
 wg
def qk(a:Option (List Int)):OutC S_bf9 (Option (List Int)):=bP (some none) (yN ⟨a⟩)
theorem Px:Cl.TJ zL (eO (eL D.int)) xV yN:=ah (b7 (ak (aT (s8 (Ar (λ_=>rfl)) xp)))
 (a8 (qR Br (ak xk)))
 bv)
 (a8 (qR yZ (ak (ba xx (cB jt (oG (Mb (wY (λ_=>rfl))) xp))))))
theorem Ha(a:Option (List Int)):SimO zL (eO (eL D.int)) (m_bf9 [(eO (eL D.int)) a]) (qk a):=dZ (d:=none) rfl Px rfl
structure S_bt9 where
 vbq:(List Int)
 v5q:Int
def zx:S_bt9->Tp:=λs=>[some ((eL D.int) s.vbq),some (D.int s.v5q)]
abbrev LQ:=S_bt9->FlC S_bt9 Unit
def vJ:LQ:=jQ (bj (Qs (a9 F2 (a9 F4 (pC (·.vbq)) (kC (0:Int))) (kC (0:Int))) (a9 geC (a9 Ls (pC (·.vbq)) (kC (0:Int))) (pC (·.v5q)))))
 qx
 cu
def yB:LQ:=vJ
def Bx(a:List Int)(b:Int):OutC S_bt9 Unit:=bP (some ()) (yB ⟨a,b⟩)
theorem Pi:Cl.TJ zx eN xE yB:=b7 (ak (oE (aT (aj uS (aj Jn xp xk) xk)) (aT (aj U7 (aj NC xp xk) xp))))
 g8
 bv
theorem PM(a:List Int)(b:Int):SimO zx eN (m_bt9 [(eL D.int) a,D.int b]) (Bx a b):=dZ (d:=()) rfl Pi rfl
structure S_i9 where
 vuq:GΩ
 vbq:(List Int)
def Ei:S_i9->Tp:=λs=>[some (au s.vuq),some ((eL D.int) s.vbq)]
abbrev Ut:=S_i9->FlC S_i9 Unit
def A5:Ut:=aS (bj (eB Bx (pC (·.vbq)) (bD (λg=>.ok g.hω) (pC (·.vuq)))))
def Hv:Ut:=A5
def ul(b:GΩ)(a:List Int):OutC S_i9 Unit:=bP (some ()) (Hv ⟨b,a⟩)
theorem TR:Cl.TJ Ei eN FK Hv:=aA (ak (dy (λb a=>PM b a) xp (cT (λ_=>rfl) (ba ce xp))))
theorem rJ(b:GΩ)(a:List Int):SimO Ei eN (u8 [au b,(eL D.int) a]) (ul b a):=dZ (d:=()) rfl TR rfl
structure S_ba9 where
 vuq:PostT
def zP:S_ba9->Tp:=λs=>[some (bg s.vuq)]
abbrev LU:=S_ba9->FlC S_ba9 (List (Option (List Int)))
def wp:LU:=bX (bj (iD (bD (λg=>.ok g.roads) (pC (·.vuq))) (λ_=>.ok true) (jK qk (pC λp=>p.1))))
def yS:LU:=wp
def wM(a:PostT):OutC S_ba9 (List (Option (List Int))):=bP none (yS ⟨a⟩)
theorem PF:Cl.TJ zP (eL (eO (eL D.int))) x5 yS:=a8 (ak (kO (gk (ba gx xp)) yq (yu (λa=>Ha a) xp)))
theorem Hc(a:PostT):SimO zP (eL (eO (eL D.int))) (Ai [bg a]) (wM a):=fA PF rfl
structure S_bb9 where
 vuq:PostT
def zO:S_bb9->Tp:=λs=>[some (bg s.vuq)]
abbrev LS:=S_bb9->FlC S_bb9 (List (Int×Int×(Option (List Int))))
def wo:LS:=bX (bj (iD (bD qX (bD (λg=>.ok g.letters) (pC (·.vuq)))) (λ_=>.ok true) (iJ (a9 q8 (pC λp=>p.1) (kC (0:Int))) (iJ (a9 q8 (pC λp=>p.1) (kC (1:Int))) (jK qk (a9 Qv (bD (λg=>.ok g.letters) (pC λp=>p.2.vuq)) (pC λp=>p.1)))))))
def yR:LS:=wo
def mO(a:PostT):OutC S_bb9 (List (Int×Int×(Option (List Int)))):=bP none (yR ⟨a⟩)
theorem PD:Cl.TJ zO (eL (wO D.int D.int (eO (eL D.int)))) xZ yR:=a8 (ak (kO (JO (ba db xp)) yq (AA (aj lG xp xk) (aj lG xp xk) (yu (λa=>Ha a) (aj xy (ba db xp) xp)))))
theorem p6(a:PostT):SimO zO (eL (wO D.int D.int (eO (eL D.int)))) (nT [bg a]) (mO a):=fA PD rfl
structure S_bj9 where
 v4q:Int
 vwq:Int
 v6q:Option (DI Int)
 vcq:Option Int
 vrq:Option (List Int)
def zH:S_bj9->Tp:=λs=>[some (D.int s.v4q),some (D.int s.vwq),s.v6q.map (bB D.int),s.vcq.map D.int,s.vrq.map (eL D.int)]
abbrev jE:=S_bj9->FlC S_bj9 (DI Int)
def pf:jE:=bR (λa s=>{s with v6q:=some a}) (bj (kC ([]:DI Int)))
def kX:jE:=bX (Ii (λs=>s.v6q) (λs=>{s with v6q:=none}))
def pe:jE:=jQ (bj (a9 F2 (pC (·.vwq)) (kC (2:Int))))
 kX
 cu
def pd:jE:=bR (λa s=>{s with v4q:=a}) (bj (a9 dF (a9 lY (a9 Cd (pC (·.v4q)) (kC (48271:Int))) (kC (17:Int))) (kC (2147483647:Int))))
def o9:jE:=bR (λa s=>{s with vrq:=some a}) (bj (lE BA (a9 dO (pC (·.v4q)) (kC (9:Int))) (a9 lY (kC (1:Int)) (a9 dF (pC (·.v4q)) (a9 BJ (pC (·.vwq)) (kC (1:Int))))) (pC (·.vwq))))
def o8:jE:=i7 (λs=>s.v6q) (λs y=>{s with v6q:=some y}) (bD Ik (vC (·.vrq))) (bj (a9 BJ (a9 dF (a9 dO (pC (·.v4q)) (kC (5:Int))) (kC (9:Int))) (kC (4:Int))))
def pY:jE:=ay pd
 (ay o9
 o8)
def v9:jE:=fX (bD (jJ 0) (a9 dF (pC (·.v4q)) (kC (4:Int)))) (λa s=>{s with vcq:=some a})
 pY
def v8:jE:=bX (Ii (λs=>s.v6q) (λs=>{s with v6q:=none}))
def ud:jE:=ay pf
 (ay pe
 (ay v9
 v8))
def wL(b:Int)(a:Int):OutC S_bj9 (DI Int):=bP none (ud ⟨b,a,none,none,none⟩)
theorem Pt:Cl.TJ zH (bB D.int) xQ ud:=ah (xs (ak (s9 rfl)))
 (ah (b7 (ak (aT (aj uS xp xk)))
 (a8 (mh (λ_=>rfl) (λ_=>rfl)))
 bv)
 (ah (da (jq (aj cf xp xk)) (λ_ _=>rfl)
 (ah (xs (ak (aj cf (aj iX (aj uR xp xk) xk) xk)))
 (ah (xs (ak (sZ (λc b a=>PU c b a) (aj dt xp xk) (aj iX xk (aj cf xp (aj uQ xp xk))) xp)))
 (eG (λ_=>rfl) (λ_ _=>rfl) (ba E5 xv) (ak (aj uQ (aj cf (aj dt xp xk) xk) xk))))))
 (a8 (mh (λ_=>rfl) (λ_=>rfl)))))
theorem PY(b:Int)(a:Int):SimO zH (bB D.int) (m_bj9 [D.int b,D.int a]) (wL b a):=fA Pt rfl
structure S_bs9 where
 v9q:GΩ
 vaq:Int
 vrq:(Option (List Int))
def zz:S_bs9->Tp:=λs=>[some (au s.v9q),some (D.int s.vaq),some ((eO (eL D.int)) s.vrq)]
abbrev Bs:=S_bs9->FlC S_bs9 Bool
def dQ:Bs:=bX (bj (kC false))
def jc:Bs:=jQ (bj (Qs (bD (Go false Fb) (pC (·.vrq))) (Qs (a9 (sY false) (pC (·.vaq)) (kC (0:Int))) (a9 (Tb false) (pC (·.vaq)) (bD xt (pC (·.vrq)))))))
 dQ
 cu
def vK:Bs:=bX (bj (bD E9 (lE Ko (pC (·.v9q)) (pC (·.vaq)) (bD xt (pC (·.vrq))))))
def yC:Bs:=ay jc
 vK
def wH(b:GΩ)(a:Int)(c:Option (List Int)):OutC S_bs9 Bool:=bP none (yC ⟨b,a,c⟩)
theorem Pj:Cl.TJ zz D.bl xG yC:=ah (b7 (ak (oE (aT (s8 (Ar (λ_=>rfl)) xp)) (oE (aT (aj (jx false) xp xk)) (aT (aj (Lp dP (by decide)) xp (cB jt xp))))))
 (a8 (ak xk))
 bv)
 (a8 (ak (ba Lm (lS (λ_=>rfl) (λc b a=>Ub c b a) xp xp (cB jt xp)))))
theorem PN(b:GΩ)(a:Int)(c:Option (List Int)):SimO zz D.bl (m_bs9 [au b,D.int a,(eO (eL D.int)) c]) (wH b a c):=du Pj rfl
structure S_e9 where
 vuq:GΩ
 v0q:Int
 v1q:Int
 vnq:Int
def Em:S_e9->Tp:=λs=>[some (au s.vuq),some (D.int s.v0q),some (D.int s.v1q),some (D.int s.vnq)]
abbrev Qm:=S_e9->FlC S_e9 Unit
def Bb:Qm:=aS (bj (eB ul (pC (·.vuq)) (Ad (gp (pC (·.v0q)) (gp (pC (·.v1q)) (ky:_->Res (List Int)))))))
def Ba:Qm:=i7 (λs=>some s.vuq.lω) (λs y=>{s with vuq:={s.vuq with lω:=y}}) (bD cM (iJ (pC (·.v0q)) (pC (·.v1q)))) (bj (pC (·.vnq)))
def HA:Qm:=ay Bb
 Ba
def Kv(a:GΩ)(d:Int)(c:Int)(b:Int):OutC S_e9 Unit:=bP (some ()) (HA ⟨a,d,c,b⟩)
theorem TX:Cl.TJ Em eN FO HA:=ah (aA (ak (gA (λ_=>rfl) (λb a=>rJ b a) xp (eE (cU xp (cU xp eD))))))
 (eG (λ_=>rfl) (λ_ _=>rfl) (cB bM (bz xp xp)) (ak xp))
theorem Uh(a:GΩ)(e:Int)(c:Int)(b:Int):SimO Em eN (OO [au a,D.int e,D.int c,D.int b]) (Kv a e c b):=dZ (d:=()) rfl TX rfl
structure S_f9 where
 vuq:GΩ
 v0q:Int
 v1q:Int
def El:S_f9->Tp:=λs=>[some (au s.vuq),some (D.int s.v0q),some (D.int s.v1q)]
abbrev Ql:=S_f9->FlC S_f9 Int
def A9:Ql:=aS (bj (eB ul (pC (·.vuq)) (Ad (gp (pC (·.v0q)) (gp (pC (·.v1q)) (ky:_->Res (List Int)))))))
def A8:Ql:=bX (bj (LB (bD (λg=>.ok g.lω) (pC (·.vuq))) (bD cM (iJ (pC (·.v0q)) (pC (·.v1q)))) (kC (0:Int))))
def Hz:Ql:=ay A9
 A8
def Ku(a:GΩ)(c:Int)(b:Int):OutC S_f9 Int:=bP none (Hz ⟨a,c,b⟩)
theorem TW:Cl.TJ El D.int FN Hz:=ah (aA (ak (gA (λ_=>rfl) (λb a=>rJ b a) xp (eE (cU xp (cU xp eD))))))
 (a8 (ak (cT (λ_=>rfl) (JQ (ba gH xp) (cB bM (bz xp xp)) xk))))
theorem Ug(a:GΩ)(c:Int)(b:Int):SimO El D.int (ON [au a,D.int c,D.int b]) (Ku a c b):=du TW rfl
structure S_g9 where
 vuq:GΩ
 v0q:Int
def Ek:S_g9->Tp:=λs=>[some (au s.vuq),some (D.int s.v0q)]
abbrev Qk:=S_g9->FlC S_g9 (List Int)
def A7:Qk:=aS (bj (eB ul (pC (·.vuq)) (Ad (gp (pC (·.v0q)) (ky:_->Res (List Int))))))
def A6:Qk:=bX (bj (lE Kx (pC (·.vuq)) (bD (λg=>.ok g.U) (pC (·.vuq))) (pC (·.v0q))))
def Hy:Qk:=ay A7
 A6
def Kt(a:GΩ)(b:Int):OutC S_g9 (List Int):=bP none (Hy ⟨a,b⟩)
theorem TV:Cl.TJ Ek (eL D.int) FM Hy:=ah (aA (ak (gA (λ_=>rfl) (λb a=>rJ b a) xp (eE (cU xp eD)))))
 (a8 (ak (lS (λ_=>rfl) (λb a c=>Uj b a c) xp (ba eU xp) xp)))
theorem Uf(a:GΩ)(b:Int):SimO Ek (eL D.int) (OM [au a,D.int b]) (Kt a b):=fA TV rfl
structure S_j9 where
 vuq:GΩ
 vrq:(List Int)
def Eh:S_j9->Tp:=λs=>[some (au s.vuq),some ((eL D.int) s.vrq)]
abbrev HP:=S_j9->FlC S_j9 Unit
def A4:HP:=aS (bj (eB ul (pC (·.vuq)) (pC (·.vrq))))
def A0:HP:=jQ (bj (a9 F2 (bD n8 (pC (·.vrq))) (kC (2:Int))))
 qx
 cu
def AZ:HP:=jQ (bj (a9 (sY true) (a9 q8 (pC (·.vrq)) (bD NK (kC (1:Int)))) (kC (0:Int))))
 qx
 cu
def AY:HP:=jQ (bj (a9 (sY true) (bD sN (pC (·.vrq))) (bD n8 (pC (·.vrq)))))
 qx
 cu
def Hu:HP:=ay A4
 (ay A0
 (ay AZ
 AY))
def H9(a:GΩ)(b:List Int):OutC S_j9 Unit:=bP (some ()) (Hu ⟨a,b⟩)
theorem TQ:Cl.TJ Eh eN FJ Hu:=ah (aA (ak (gA (λ_=>rfl) (λb a=>rJ b a) xp xp)))
 (ah (b7 (ak (aT (aj uS (ba jM xp) xk)))
 g8
 bv)
 (ah (b7 (ak (aT (aj (jx true) (aj qO xp (ba Ln xk)) xk)))
 g8
 bv)
 (b7 (ak (aT (aj (jx true) (ba E6 xp) (ba jM xp))))
 g8
 bv)))
theorem LM(a:GΩ)(b:List Int):SimO Eh eN (JC [au a,(eL D.int) b]) (H9 a b):=dZ (d:=()) rfl TQ rfl
structure S_k9 where
 vuq:GΩ
 v0q:Int
 v1q:Int
def Eg:S_k9->Tp:=λs=>[some (au s.vuq),some (D.int s.v0q),some (D.int s.v1q)]
abbrev Qj:=S_k9->FlC S_k9 Unit
def AX:Qj:=aS (bj (eB ul (pC (·.vuq)) (Ad (gp (pC (·.v0q)) (gp (pC (·.v1q)) (ky:_->Res (List Int)))))))
def AW:Qj:=jQ (bj (a9 (sY false) (pC (·.v0q)) (pC (·.v1q))))
 qx
 cu
def Ht:Qj:=ay AX
 AW
def C2(a:GΩ)(c:Int)(b:Int):OutC S_k9 Unit:=bP (some ()) (Ht ⟨a,c,b⟩)
theorem TN:Cl.TJ Eg eN FI Ht:=ah (aA (ak (gA (λ_=>rfl) (λb a=>rJ b a) xp (eE (cU xp (cU xp eD))))))
 (b7 (ak (aT (aj (jx false) xp xp)))
 g8
 bv)
theorem G6(a:GΩ)(c:Int)(b:Int):SimO Eg eN (FZ [au a,D.int c,D.int b]) (C2 a c b):=dZ (d:=()) rfl TN rfl
structure S_o9 where
 vuq:GΩ
 viq:Option GΩ
def r6:S_o9->Tp:=λs=>[some (au s.vuq),s.viq.map au]
abbrev y8:=S_o9->FlC S_o9 GΩ
def t3:y8:=bR (λa s=>{s with viq:=some a}) (bj (Je mk_Guild (bD (λg=>.ok g.hω) (pC (·.vuq)))))
def tZ:y8:=aS (rV (λs=>s.viq.map (·.U)) (λs y=>{s with viq:=s.viq.map λo=>{o with U:=y}}) (bD (λg=>.ok g.U) (pC (·.vuq))))
def tY:y8:=aS (rV (λs=>s.viq.map (·.lω)) (λs y=>{s with viq:=s.viq.map λo=>{o with lω:=y}}) (bD (λg=>.ok g.lω) (pC (·.vuq))))
def tX:y8:=aS (rV (λs=>s.viq.map (·.sω)) (λs y=>{s with viq:=s.viq.map λo=>{o with sω:=y}}) (bD (λg=>.ok g.sω) (pC (·.vuq))))
def tW:y8:=aS (rV (λs=>s.viq.map (·.wω)) (λs y=>{s with viq:=s.viq.map λo=>{o with wω:=y}}) (bD (λg=>.ok g.wω) (pC (·.vuq))))
def JV:y8:=bX (Ii (λs=>s.viq) (λs=>{s with viq:=none}))
def Ho:y8:=ay t3
 (ay tZ
 (ay tY
 (ay tX
 (ay tW
 JV))))
def H8(a:GΩ):OutC S_o9 GΩ:=bP none (Ho ⟨a,none⟩)
theorem TH:Cl.TJ r6 au FD Ho:=ah (xs (ak (yt jz (cT (λ_=>rfl) (ba ce xp)))))
 (ah (aA (sG (λs=>by cases s with|mk b a=>cases a<;>rfl) (λs y=>by cases s with|mk b a=>cases a<;>rfl) (λ_=>rfl) (ba eU xp)))
 (ah (aA (sG (λs=>by cases s with|mk b a=>cases a<;>rfl) (λs y=>by cases s with|mk b a=>cases a<;>rfl) (λ_=>rfl) (ba gH xp)))
 (ah (aA (sG (λs=>by cases s with|mk b a=>cases a<;>rfl) (λs y=>by cases s with|mk b a=>cases a<;>rfl) (λ_=>rfl) (ba iW xp)))
 (ah (aA (sG (λs=>by cases s with|mk b a=>cases a<;>rfl) (λs y=>by cases s with|mk b a=>cases a<;>rfl) (λ_=>rfl) (ba mf xp)))
 (a8 (mh (λ_=>rfl) (λ_=>rfl)))))))
theorem T9(a:GΩ):SimO r6 au (ye [au a]) (H8 a):=fA TH rfl
structure S_c9 where
 vuq:GΩ
 v0q:Int
 v1q:Int
def Eo:S_c9->Tp:=λs=>[some (au s.vuq),some (D.int s.v0q),some (D.int s.v1q)]
abbrev HU:=S_c9->FlC S_c9 Unit
def Bj:HU:=aS (bj (lE C2 (pC (·.vuq)) (pC (·.v0q)) (pC (·.v1q))))
def Bi:HU:=jQ (bj (a9 (vz false) (bD cM (iJ (pC (·.v0q)) (pC (·.v1q)))) (bD (λg=>.ok g.U) (pC (·.vuq)))))
 qx
 cu
def Bh:HU:=i7 (λs=>some s.vuq.U) (λs y=>{s with vuq:={s.vuq with U:=y}}) (bD cM (iJ (pC (·.v0q)) (pC (·.v1q)))) (bj (kC true))
def Bg:HU:=i7 (λs=>some s.vuq.U) (λs y=>{s with vuq:={s.vuq with U:=y}}) (bD cM (iJ (pC (·.v1q)) (pC (·.v0q)))) (bj (kC true))
def HC:HU:=ay Bj
 (ay Bi
 (ay Bh
 Bg))
def Ia(a:GΩ)(c:Int)(b:Int):OutC S_c9 Unit:=bP (some ()) (HC ⟨a,c,b⟩)
theorem TZ:Cl.TJ Eo eN FQ HC:=ah (aA (ak (lS (λ_=>rfl) (λc b a=>G6 c b a) xp xp xp)))
 (ah (b7 (ak (aT (aj (uT false) (cB bM (bz xp xp)) (ba eU xp))))
 g8
 bv)
 (ah (eG (λ_=>rfl) (λ_ _=>rfl) (cB bM (bz xp xp)) (ak xk))
 (eG (λ_=>rfl) (λ_ _=>rfl) (cB bM (bz xp xp)) (ak xk))))
theorem LN(a:GΩ)(c:Int)(b:Int):SimO Eo eN (JD [au a,D.int c,D.int b]) (Ia a c b):=dZ (d:=()) rfl TZ rfl
structure S_d9 where
 vuq:GΩ
 v0q:Int
 v1q:Int
def En:S_d9->Tp:=λs=>[some (au s.vuq),some (D.int s.v0q),some (D.int s.v1q)]
abbrev HQ:=S_d9->FlC S_d9 Unit
def Bf:HQ:=aS (bj (lE C2 (pC (·.vuq)) (pC (·.v0q)) (pC (·.v1q))))
def Be:HQ:=jQ (bj (a9 (vz true) (bD cM (iJ (pC (·.v0q)) (pC (·.v1q)))) (bD (λg=>.ok g.U) (pC (·.vuq)))))
 qx
 cu
def Bd:HQ:=aS (vw (λs=>some s.vuq.U) (λs y=>{s with vuq:={s.vuq with U:=y}}) (bD cM (iJ (pC (·.v0q)) (pC (·.v1q)))))
def Bc:HQ:=aS (vw (λs=>some s.vuq.U) (λs y=>{s with vuq:={s.vuq with U:=y}}) (bD cM (iJ (pC (·.v1q)) (pC (·.v0q)))))
def HB:HQ:=ay Bf
 (ay Be
 (ay Bd
 Bc))
def Kw(a:GΩ)(c:Int)(b:Int):OutC S_d9 Unit:=bP (some ()) (HB ⟨a,c,b⟩)
theorem TY:Cl.TJ En eN FP HB:=ah (aA (ak (lS (λ_=>rfl) (λc b a=>G6 c b a) xp xp xp)))
 (ah (b7 (ak (aT (aj (uT true) (cB bM (bz xp xp)) (ba eU xp))))
 g8
 bv)
 (ah (aA (sI (λ_=>rfl) (λ_ _=>rfl) (cB bM (bz xp xp))))
 (aA (sI (λ_=>rfl) (λ_ _=>rfl) (cB bM (bz xp xp))))))
theorem Ui(a:GΩ)(c:Int)(b:Int):SimO En eN (OP [au a,D.int c,D.int b]) (Kw a c b):=dZ (d:=()) rfl TY rfl
structure S_h9 where
 vuq:GΩ
 vrq:(List Int)
 vzq:Option (Option Int)
def Ej:S_h9->Tp:=λs=>[some (au s.vuq),some ((eL D.int) s.vrq),s.vzq.map (eO D.int)]
abbrev C0:=S_h9->FlC S_h9 Int
def t7:C0:=aS (bj (eB H9 (pC (·.vuq)) (pC (·.vrq))))
def t6:C0:=bR (λa s=>{s with vzq:=some a}) (bj (a9 Tr (bD (λg=>.ok g.wω) (pC (·.vuq))) (bD Ik (pC (·.vrq)))))
def jb:C0:=bX (bj (lE Ku (pC (·.vuq)) (a9 q8 (pC (·.vrq)) (kC (0:Int))) (a9 q8 (pC (·.vrq)) (kC (1:Int)))))
def t5:C0:=jQ (bj (bD (Go false Fb) (vC (·.vzq))))
 jb
 cu
def t4:C0:=bX (λs=>Bn ((bj (vC (·.vzq))) s) λa s=>bndO (xt a) s λb=>.ok b s)
def Hw:C0:=ay t7
 (ay t6
 (ay t5
 t4))
def Ks(a:GΩ)(b:List Int):OutC S_h9 Int:=bP none (Hw ⟨a,b,none⟩)
theorem TU:Cl.TJ Ej D.int FL Hw:=ah (aA (ak (gA (λ_=>rfl) (λb a=>LM b a) xp xp)))
 (ah (xs (ak (cT (Gq (λ_=>rfl)) (JR (ba mf xp) (ba E5 (oG (wY (λ_=>rfl)) xp))))))
 (ah (b7 (ak (aT (s8 (Ar (λ_=>rfl)) xv)))
 (a8 (ak (lS (λ_=>rfl) (λb a c=>Ug b a c) xp (cT (λ_=>rfl) (aj qO xp xk)) (cT (λ_=>rfl) (aj qO xp xk)))))
 bv)
 (a8 (qR jt (ak xv)))))
theorem Ue(a:GΩ)(b:List Int):SimO Ej D.int (OL [au a,(eL D.int) b]) (Ks a b):=du TU rfl
structure S_l9 where
 vuq:GΩ
 v0q:Int
 v1q:Int
def Ef:S_l9->Tp:=λs=>[some (au s.vuq),some (D.int s.v0q),some (D.int s.v1q)]
abbrev Qi:=S_l9->FlC S_l9 Unit
def AV:Qi:=aS (bj (lE C2 (pC (·.vuq)) (pC (·.v0q)) (pC (·.v1q))))
def AU:Qi:=i7 (λs=>some s.vuq.sω) (λs y=>{s with vuq:={s.vuq with sω:=y}}) (bD cM (iJ (pC (·.v0q)) (pC (·.v1q)))) (bj (kC true))
def Hr:Qi:=ay AV
 AU
def Kq(a:GΩ)(c:Int)(b:Int):OutC S_l9 Unit:=bP (some ()) (Hr ⟨a,c,b⟩)
theorem TM:Cl.TJ Ef eN FG Hr:=ah (aA (ak (lS (λ_=>rfl) (λc b a=>G6 c b a) xp xp xp)))
 (eG (λ_=>rfl) (λ_ _=>rfl) (cB bM (bz xp xp)) (ak xk))
theorem Ud(a:GΩ)(c:Int)(b:Int):SimO Ef eN (OK [au a,D.int c,D.int b]) (Kq a c b):=dZ (d:=()) rfl TM rfl
structure S_p9 where
 vuq:GΩ
 vrq:(List Int)
 vnq:Int
def Ec:S_p9->Tp:=λs=>[some (au s.vuq),some ((eL D.int) s.vrq),some (D.int s.vnq)]
abbrev Qh:=S_p9->FlC S_p9 Unit
def AS:Qh:=aS (bj (eB H9 (pC (·.vuq)) (pC (·.vrq))))
def AR:Qh:=i7 (λs=>some s.vuq.wω) (λs y=>{s with vuq:={s.vuq with wω:=y}}) (bD Ik (pC (·.vrq))) (bj (pC (·.vnq)))
def Hn:Qh:=ay AS
 AR
def Kn(a:GΩ)(b:List Int)(c:Int):OutC S_p9 Unit:=bP (some ()) (Hn ⟨a,b,c⟩)
theorem TF:Cl.TJ Ec eN FC Hn:=ah (aA (ak (gA (λ_=>rfl) (λb a=>LM b a) xp xp)))
 (eG (λ_=>rfl) (λ_ _=>rfl) (ba E5 (oG (wY (λ_=>rfl)) xp)) (ak xp))
theorem T8(a:GΩ)(b:List Int)(c:Int):SimO Ec eN (OG [au a,(eL D.int) b,D.int c]) (Kn a b c):=dZ (d:=()) rfl TF rfl
structure S_bd9 where
 vuq:PostT
 vAq:Int
 voq:Option Int
def mV:S_bd9->Tp:=λs=>[some (bg s.vuq),some (D.int s.vAq),s.voq.map D.int]
abbrev HV:=S_bd9->FlC S_bd9 Unit
def j4:HV:=aS (gL rR (λa s=>{s with vuq:=a.vuq}) (pC (·.vuq)) (pC (·.vAq)) (vC (·.voq)))
def wk:HV:=fX (eB Kt (bD (λg=>.ok g.guild) (pC (·.vuq))) (pC (·.vAq))) (λa s=>{s with voq:=some a})
 j4
def yP:HV:=wk
def rQ(b:PostT)(a:Int):OutC S_bd9 Unit:=bP (some ()) (yP ⟨b,a,none⟩)
theorem Pz:Cl.TJ mV eN xX yP:=da (gk (gA (λ_=>rfl) (λb a=>Uf b a) (ba eT xp) xp)) (λ_ _=>rfl)
 (aA (fw (λ_=>rfl) (λ_ _=>rfl) (λb a c=>yz b a c) xp xp xv))
theorem Hb(b:PostT)(a:Int):SimO mV eN (iy [bg b,D.int a]) (rQ b a):=dZ (d:=()) rfl Pz rfl
def d8(t:GΩ)(n:Nat):PostT:=⟨t,(List.replicate n none).set 0 (some [0]),[],[],[],List.replicate n []⟩
noncomputable def mk_Post(g:GΩ):Res PostT:=match H8 g with
 | .ok t _=>if 1<=g.hω/\g.hω<=60 then (match rQ (d8 t g.hω.toNat) 0 with
   |.ok _ s=>.ok s.vuq
   |.exc c _=>.exc c
   |.bad=>.bad) else .bad
 |.exc c _=>.exc c
 |.bad=>.bad
theorem BU{n:Nat}:∀k,bG (λ_=>.ok true) (aV (.dK [] [])) [] ((List.range k).map λi:Nat=>D.int (n+i))=.ok (List.replicate k (.dK [] [])):=by
 intro k
 have a:∀l:List D,bG (λ_=>.ok true) (aV (.dK [] [])) [] l=.ok (List.replicate l.length (.dK [] [])):=by
  intro l
  induction l with
  |nil=>rfl
  |cons d l b=>rw[bG,b];rfl
 rw[a,Vs,XA]
theorem sT(g:GΩ):SimR bg (gM 1 yd [au g]) (mk_Post g):=by
 have a:=T9 g;have hsz:nQ [au g]=.ok (.int g.hω) (xc ⟨g⟩):=Ua g;have j:bH 0 "twin" (au g)=true:=rfl;have b:bH 0 "size" (au g)=true:=rfl;unfold mk_Post;cases q:H8 g with
 |bad=>trivial
 |exc c s=>
   rw[q]at a;have a:ye [au g]=.exc c (r6 s):=a;show gM 1 yd [au g]=.exc c;unfold gM yd Mi.run;rw[u6];simp[aw,cR,aQ,pm,vr,rg,a7,f9,a,j]
 |ok t s=>
   rw[q]at a;have a:ye [au g]=.ok (au t) (r6 s):=a;dsimp only;by_cases C:1<=g.hω/\g.hω<=60
   · rw[Vq C];obtain⟨n,l⟩:∃n:Nat,g.hω=n:=⟨g.hω.toNat,by omega⟩;have L:1<=n:=by omega
     have K:n<=60:=by omega
     have A:1<=aq:=by decide +kernel
     have E:60<aq:=by decide +kernel
     have e1:cR 1 "guild" 0 (aQ (pm 0 "twin" ye (vr 1) a7)) [some (.obj 1 [] []),some (au g)]=.nx [some (.obj 1 ["guild"] [au t]),some (au g)]:=by
      simp[cR,aQ,pm,vr,rg,a7,f9,a,j,l9,cL]
     have X:cR 1 "roads" 0 (aQ (bn xf (nM (aB (aV .non) a7)) (pm 0 "size" nQ (vr 1) a7))) [some (.obj 1 ["guild"] [au t]),some (au g)]=.nx [some (.obj 1 ["guild","roads"] [au t,.lst (List.replicate n .non)]),some (au g)]:=by
      have J:xf (.lst [.non]) (.int g.hω)=.ok (.lst (List.replicate n .non)):=by
       have this:=RN (e:=eN) [()] g.hω;rw[Ed (by omega) (by omega) (by rw[Xe];omega)]at this;have this:xf (.lst [.non]) (.int g.hω)=.ok (eL eN _):=this;rw[this,l];show Res.ok (D.lst _)=Res.ok (D.lst _);rw[show(Int.toNat (n:Int))=n from rfl]
       have r:∀k:Nat,((List.replicate k [()]).flatten.map eN)=List.replicate k D.non:=λk=>by
        induction k with
        |zero=>rfl
        |succ k H=>rw[Wb,Wr,V9,H];rfl
       rw[r]
      simp[cR,aQ,pm,vr,rg,a7,aB,nM,bn,aV,f9,hsz,b,J,l9,cL,A];decide
     have W:nX (fy 1 "roads" 0) (fc "roads" 0) (aV (.int 0)) (aQ (nM (aB (aV (.int 0)) a7))) [some (.obj 1 ["guild","roads"] [au t,.lst (List.replicate n .non)]),some (au g)]=.nx [some (.obj 1 ["guild","roads"] [au t,.lst ((List.replicate n .non).set 0 (.lst [.int 0]))]),some (au g)]:=by
      have hi:oj n 0=some 0:=by unfold oj;simp;omega
      have v:¬ (Str.ofString "guild" = Str.ofString "roads"):=by decide
      simp[nX,fy,fc,Aj,aQ,rg,a7,aB,nM,aV,A,bF,dI,v,hi]
     have z:∀(ns:List Str) (vs:List D) (f:Str),ns.length<900->cL ns f=false->cR 1 f 0 (aQ (aV (.dT [] []))) [some (.obj 1 ns vs),some (au g)]=.nx [some (.obj 1 (ns++[f]) (vs++[.dT [] []])),some (au g)]:=by
      intro ns vs f y w;simp only[cR,aQ,aV,Res.up,gD,rg,l9];simp[y,w]
     have V:∀(ns:List Str) (vs:List D) (f:Str),ns.length<900->cL ns f=false->cR 1 f 0 (aQ (je (gb (pm 0 "size" nQ (vr 1) a7)) [] (λ_=>.ok true) (aV (.dK [] [])))) [some (.obj 1 ns vs),some (au g)]=.nx [some (.obj 1 (ns++[f]) (vs++[.lst (List.replicate n (.dK [] []))])),some (au g)]:=by
      intro ns vs f y w
      have P:je (gb (pm 0 "size" nQ (vr 1) a7)) [] (λ_=>.ok true) (aV (.dK [] [])) [some (.obj 1 ns vs),some (au g)]=.ok (.lst (List.replicate n (.dK [] []))):=by
       have I:gb (pm 0 "size" nQ (vr 1) a7) [some (.obj 1 ns vs),some (au g)]=.ok (rng 0 n):=by
        simp[gb,BL,pm,vr,rg,a7,f9,hsz,b,aV,l];omega
       unfold je;rw[I];have N:(rng 0 (n:Int)).length=n:=by unfold rng;simp
       show(if (rng 0 (n:Int)).length<aq then (bG _ _ [] (rng 0 (n:Int))).bind λG=>Res.ok (D.lst G) else .bad)=_;rw[N,Vq (by omega)]
       have:=BU (n:=0) n
       unfold rng;rw[show((n:Int)-0).toNat=n by omega];have e0:((List.range n).map λi:Nat=>D.int ((0:Int)+i))=(List.range n).map λi:Nat=>D.int (((0:Nat):Int)+i):=rfl;rw[e0,this];rfl
      simp only[cR,aQ,P,Res.up,gD,rg,l9];simp[y,w]
     have Q:bg (d8 t n)=.obj 1 ["guild","roads","told_last","written_last","letters","standings"] [au t,.lst ((List.replicate n .non).set 0 (.lst [.int 0])),.dT [] [],.dT [] [],.dT [] [],.lst (List.replicate n (.dK [] []))]:=by
      show D.obj 1 _ [au t,.lst (((List.replicate n none).set 0 (some [0])).map (eO (eL D.int))),.dT [] [],.dT [] [],.dT [] [],.lst ((List.replicate n []).map (lR eK))]=_;rw[Zd,List.map_replicate,List.map_replicate];rfl
     have m:=Hb (d8 t n) 0;have p:bH 1 "write_to_all" (bg (d8 t n))=true:=rfl
     have R:∀o x:D,bH 1 "write_to_all" o=true->aY (mm 1 "write_to_all" [(.O 0),.F] iy (vr 0) (aB (aV (.int 0)) a7)) [some o,some x]=(match iy [o,.int 0] with | .ok d M=>.nx (cK [(.O 0),.F] 0 M [some o,some x]) | .exc c M=>.exc c (cK [(.O 0),.F] 0 M [some o,some x]) | .bad=>.bad):=by
      intro o x h;simp[aY,mm,vr,rg,aB,a7,aV,h,cC];cases iy [o,.int 0]<;>rfl
     have U:gM 1 yd [au g]=(match iy [bg (d8 t n),.int 0] with | .ok d M=>(match rg (cK [(.O 0),.F] 0 M [some (bg (d8 t n)),some (au g)]) 0 with|some d=>.ok d|none=>.bad) | .exc c _=>.exc c | .bad=>.bad):=by
      unfold gM yd Mi.run;rw[u6];have T:([D.obj 1 [] [],au g].map some++List.replicate (2-[D.obj 1 [] [],au g].length) none)=[some (.obj 1 [] []),some (au g)]:=rfl;rw[T];simp only[aw,e1,X,W];rw[z _ _ _ (by decide) (by decide)];dsimp only;rw[z _ _ _ (by decide) (by decide)];dsimp only;rw[z _ _ _ (by decide) (by decide)];dsimp only;rw[V _ _ _ (by decide) (by decide)];have S:(D.obj 1 (((((["guild","roads"]:List Str)++[("told_last" : Str)])++[("written_last" : Str)])++[("letters" : Str)])++[("standings" : Str)]) (((([au t,D.lst ((List.replicate n .non).set 0 (.lst [.int 0]))]++[.dT [] []])++[.dT [] []])++[.dT [] []])++[.lst (List.replicate n (.dK [] []))]))=bg (d8 t n):=Q.symm;dsimp only;rw[S];rw[R _ _ p];cases iy [bg (d8 t n),.int 0] with
      |ok d M=>rfl
      |exc c M=>rfl
      |bad=>rfl
     rw[U,show g.hω.toNat=n by omega];cases B:rQ (d8 t n) 0 with
     |bad=>trivial
     |exc c s=>
       rw[B]at m;rw[show iy [bg (d8 t n),.int 0]=_ from m];exact rfl
     |ok u s=>
       rw[B]at m;rw[show iy [bg (d8 t n),.int 0]=_ from m];exact rfl
   ·rw[on C];trivial
structure S_t9 where
 vuq:PostT
 vaq:Int
 vrq:Option (Option (List Int))
def D9:S_t9->Tp:=λs=>[some (bg s.vuq),some (D.int s.vaq),s.vrq.map (eO (eL D.int))]
abbrev y7:=S_t9->FlC S_t9 Bool
def tR:y7:=bR (λa s=>{s with vrq:=some a}) (bj (eB BE (pC (·.vaq)) (bD Ky (vC (gI (λs=>some s.vuq.standings) (λs=>some s.vaq))))))
def mJ:y7:=bX (bj (kC false))
def tQ:y7:=jQ (bj (a9 (sY false) (vC (·.vrq)) (a9 q8 (bD (λg=>.ok g.roads) (pC (·.vuq))) (pC (·.vaq)))))
 mJ
 cu
def AN:y7:=Lw (λs=>some s.vuq.roads) (λs y=>{s with vuq:={s.vuq with roads:=y}}) (pC (·.vaq)) (bj (vC (·.vrq)))
def AM:y7:=aS (Ch rQ (λa s=>{s with vuq:=a.vuq}) (pC (·.vuq)) (pC (·.vaq)))
def AK:y7:=bX (bj (kC true))
def Hj:y7:=ay tR
 (ay tQ
 (ay AN
 (ay AM
 AK)))
def C1(b:PostT)(a:Int):OutC S_t9 Bool:=bP none (Hj ⟨b,a,none⟩)
theorem TB:Cl.TJ D9 D.bl Fw Hj:=ah (xs (ak (dy (λb a=>P5 b a) xp (ba NA (Pa (UM (λ_=>rfl) (oh (λ_=>rfl))))))))
 (ah (b7 (ak (aT (aj (qQ (rD (i9 dP) (gQ _)) (by decide) false) xv (aj qO (ba gx xp) xp))))
 (a8 (ak xk))
 bv)
 (ah (Iu (λ_=>rfl) (λ_ _=>rfl) xp (ak xv))
 (ah (aA (nJ (λ_=>rfl) (λ_ _=>rfl) (λb a=>Hb b a) xp xp))
 (a8 (ak xk)))))
theorem G5(b:PostT)(a:Int):SimO D9 D.bl (FX [bg b,D.int a]) (C1 b a):=du TB rfl
structure S_y9 where
 vuq:PostT
 v0q:Int
 v1q:Int
def D4:S_y9->Tp:=λs=>[some (bg s.vuq),some (D.int s.v0q),some (D.int s.v1q)]
abbrev Ke:=S_y9->FlC S_y9 Unit
def tE:Ke:=aS (UJ (λs=>some s.vuq.guild) (λs y=>{s with vuq:={s.vuq with guild:=y}}) (λs=>s.vuq) (M0 (λb a=>.ok (b,a)) (pC (·.v0q)) (pC (·.v1q))) (λo r=>Ia o r.1 r.2))
def tD:Ke:=aS (gL rR (λa s=>{s with vuq:=a.vuq}) (pC (·.vuq)) (a9 Fl (pC (·.v0q)) (pC (·.v1q))) (a9 FV (pC (·.v0q)) (pC (·.v1q))))
def tz:Ke:=aS (gL rR (λa s=>{s with vuq:=a.vuq}) (pC (·.vuq)) (a9 FV (pC (·.v0q)) (pC (·.v1q))) (a9 Fl (pC (·.v0q)) (pC (·.v1q))))
def He:Ke:=ay tE
 (ay tD
 tz)
def Kj(a:PostT)(c:Int)(b:Int):OutC S_y9 Unit:=bP (some ()) (He ⟨a,c,b⟩)
theorem Tu:Cl.TJ D4 eN Fq He:=ah (aA (Lr (λ_=>rfl) (λ_ _=>rfl) (λ_=>rfl) (Ri (eR:=(λ(r:Int×Int)=>[D.int r.1,D.int r.2])) (k:=.ok) (f:=λe d=>.ok (e,d)) (e0:=D.int) (e1:=D.int) (λ_ _=>rfl) xp xp) (λo r=>LN o r.1 r.2) (λ_=>rfl)))
 (ah (aA (fw (λ_=>rfl) (λ_ _=>rfl) (λc b a=>yz c b a) xp (aj z5 xp xp) (aj z6 xp xp)))
 (aA (fw (λ_=>rfl) (λ_ _=>rfl) (λc b a=>yz c b a) xp (aj z6 xp xp) (aj z5 xp xp))))
theorem T4(a:PostT)(c:Int)(b:Int):SimO D4 eN (OC [bg a,D.int c,D.int b]) (Kj a c b):=dZ (d:=()) rfl Tu rfl
structure S_bm9 where
 vwq:Int
 vyq:T0
 v7q:(DI Int)
 v6q:(DI Int)
 vvq:T0
 v9q:Option GΩ
 v0q:Option Int
 v1q:Option Int
 vjq:Option (List Int)
 vdq:Option (List Int)
def zE:S_bm9->Tp:=λs=>[some (D.int s.vwq),some ((eL (qo D.int D.int)) s.vyq),some ((bB D.int) s.v7q),some ((bB D.int) s.v6q),some ((eL (qo D.int D.int)) s.vvq),s.v9q.map au,s.v0q.map D.int,s.v1q.map D.int,s.vjq.map (kP D.int),s.vdq.map (kP D.int)]
abbrev jh:=S_bm9->FlC S_bm9 GΩ
def o0:jh:=bR (λa s=>{s with v9q:=some a}) (bj (Je mk_Guild (pC (·.vwq))))
def j3:jh:=aS (gL Ia (λa s=>{s with v9q:=some a.vuq}) (vC (·.v9q)) (vC (·.v0q)) (vC (·.v1q)))
def v4:jh:=fX (pC (·.vyq)) (λa s=>{s with v0q:=some a.1,v1q:=some a.2})
 j3
def j2:jh:=aS (Fo Kv (λa s=>{s with v9q:=some a.vuq}) (vC (·.v9q)) (a9 q8 (vC (·.vjq)) (kC (0:Int))) (a9 q8 (vC (·.vjq)) (kC (1:Int))) (a9 Qv (pC (·.v7q)) (vC (·.vjq))))
def vZ:jh:=fX (bD qX (pC (·.v7q))) (λa s=>{s with vjq:=some a})
 j2
def jZ:jh:=aS (gL Kn (λa s=>{s with v9q:=some a.vuq}) (vC (·.v9q)) (bD Ik (vC (·.vdq))) (a9 Qv (pC (·.v6q)) (vC (·.vdq))))
def vY:jh:=fX (bD qX (pC (·.v6q))) (λa s=>{s with vdq:=some a})
 jZ
def jY:jh:=aS (gL Kq (λa s=>{s with v9q:=some a.vuq}) (vC (·.v9q)) (vC (·.v0q)) (vC (·.v1q)))
def vX:jh:=fX (pC (·.vvq)) (λa s=>{s with v0q:=some a.1,v1q:=some a.2})
 jY
def vW:jh:=bX (Ii (λs=>s.v9q) (λs=>{s with v9q:=none}))
def yH:jh:=ay o0
 (ay v4
 (ay vZ
 (ay vY
 (ay vX
 vW))))
def BC(b:Int)(a:T0)(c:DI Int)(d:DI Int)(e:T0):OutC S_bm9 GΩ:=bP none (yH ⟨b,a,c,d,e,none,none,none,none,none⟩)
theorem Pq:Cl.TJ zE au xM yH:=ah (xs (ak (yt jz xp)))
 (ah (da (gk xp) (λ_ _=>rfl)
 (aA (fw (λ_=>rfl) (λ_ _=>rfl) (λc b a=>LN c b a) xv (cT (λ_=>rfl) xv) (cT (λ_=>rfl) xv))))
 (ah (da (gk (ba E7 xp)) (λ_ _=>rfl)
 (aA (NH (λ_=>rfl) (λ_ _=>rfl) (λc b a d=>Uh c b a d) xv (cT (λ_=>rfl) (aj lG xv xk)) (cT (λ_=>rfl) (aj lG xv xk)) (cT (λ_=>rfl) (aj xy xp xv)))))
 (ah (da (gk (ba E7 xp)) (λ_ _=>rfl)
 (aA (fw (λ_=>rfl) (λ_ _=>rfl) (λc b a=>T8 c b a) xv (ba Jm (oG (IS (λ_=>rfl)) xv)) (cT (λ_=>rfl) (aj xy xp xv)))))
 (ah (da (gk xp) (λ_ _=>rfl)
 (aA (fw (λ_=>rfl) (λ_ _=>rfl) (λc b a=>Ud c b a) xv (cT (λ_=>rfl) xv) (cT (λ_=>rfl) xv))))
 (a8 (mh (λ_=>rfl) (λ_=>rfl)))))))
theorem PV(b:Int)(a:T0)(c:DI Int)(d:DI Int)(e:T0):SimO zE au (m_bm9 [D.int b,(eL (qo D.int D.int)) a,(bB D.int) c,(bB D.int) d,(eL (qo D.int D.int)) e]) (BC b a c d e):=fA Pq rfl
structure S_bu9 where
 v9q:GΩ
 vrq:(List Int)
def zw:S_bu9->Tp:=λs=>[some (au s.v9q),some ((eL D.int) s.vrq)]
abbrev LP:=S_bu9->FlC S_bu9 (Int×Int×(List Int))
def vI:LP:=bX (bj (iJ (bD NK (eB Ks (pC (·.v9q)) (pC (·.vrq)))) (iJ (bD n8 (pC (·.vrq))) (pC (·.vrq)))))
def yA:LP:=vI
def Bw(a:GΩ)(b:List Int):OutC S_bu9 (Int×Int×(List Int)):=bP none (yA ⟨a,b⟩)
theorem Ph:Cl.TJ zw (wO D.int D.int (eL D.int)) xD yA:=a8 (ak (AA (ba Ln (gA (λ_=>rfl) (λb a=>Ue b a) xp xp)) (ba jM xp) xp))
theorem PL(a:GΩ)(b:List Int):SimO zw (wO D.int D.int (eL D.int)) (m_bu9 [au a,(eL D.int) b]) (Bw a b):=du Ph rfl
structure S_u9 where
 vuq:PostT
 v0q:Int
 v1q:Int
def D8:S_u9->Tp:=λs=>[some (bg s.vuq),some (D.int s.v0q),some (D.int s.v1q)]
abbrev CZ:=S_u9->FlC S_u9 Unit
def tP:CZ:=aS (UJ (λs=>some s.vuq.guild) (λs y=>{s with vuq:={s.vuq with guild:=y}}) (λs=>s.vuq) (M0 (λb a=>.ok (b,a)) (pC (·.v0q)) (pC (·.v1q))) (λo r=>Kw o r.1 r.2))
def tO:CZ:=aS (gL HY (λa s=>{s with vuq:=a.vuq}) (pC (·.vuq)) (pC (·.v0q)) (pC (·.v1q)))
def tN:CZ:=aS (gL HY (λa s=>{s with vuq:=a.vuq}) (pC (·.vuq)) (pC (·.v1q)) (pC (·.v0q)))
def tM:CZ:=aS (Ch C1 (λa s=>{s with vuq:=a.vuq}) (pC (·.vuq)) (a9 Fl (pC (·.v0q)) (pC (·.v1q))))
def tL:CZ:=aS (Ch C1 (λa s=>{s with vuq:=a.vuq}) (pC (·.vuq)) (a9 FV (pC (·.v0q)) (pC (·.v1q))))
def Hi:CZ:=ay tP
 (ay tO
 (ay tN
 (ay tM
 tL)))
def Km(a:PostT)(c:Int)(b:Int):OutC S_u9 Unit:=bP (some ()) (Hi ⟨a,c,b⟩)
theorem Tz:Cl.TJ D8 eN Fv Hi:=ah (aA (Lr (λ_=>rfl) (λ_ _=>rfl) (λ_=>rfl) (Ri (eR:=(λ(r:Int×Int)=>[D.int r.1,D.int r.2])) (k:=.ok) (f:=λe d=>.ok (e,d)) (e0:=D.int) (e1:=D.int) (λ_ _=>rfl) xp xp) (λo r=>Ui o r.1 r.2) (λ_=>rfl)))
 (ah (aA (fw (λ_=>rfl) (λ_ _=>rfl) (λb a c=>LJ b a c) xp xp xp))
 (ah (aA (fw (λ_=>rfl) (λ_ _=>rfl) (λb a c=>LJ b a c) xp xp xp))
 (ah (aA (nJ (λ_=>rfl) (λ_ _=>rfl) (λb a=>G5 b a) xp (aj z5 xp xp)))
 (aA (nJ (λ_=>rfl) (λ_ _=>rfl) (λb a=>G5 b a) xp (aj z6 xp xp))))))
theorem T7(a:PostT)(c:Int)(b:Int):SimO D8 eN (OF [bg a,D.int c,D.int b]) (Km a c b):=dZ (d:=()) rfl Tz rfl
structure S_x9 where
 vuq:PostT
 vAq:Int
 voq:Int
 vrq:(Option (List Int))
def D5:S_x9->Tp:=λs=>[some (bg s.vuq),some (D.int s.vAq),some (D.int s.voq),some ((eO (eL D.int)) s.vrq)]
abbrev HL:=S_x9->FlC S_x9 Unit
def tG:HL:=i7 (λs=>some s.vuq.told_last) (λs y=>{s with vuq:={s.vuq with told_last:=y}}) (bD cM (iJ (pC (·.vAq)) (pC (·.voq)))) (bj (pC (·.vrq)))
def mH:HL:=Lx (gI (λs=>some s.vuq.standings) (λs=>some s.voq)) (pI (λs=>some s.vuq.standings) (λs y=>{s with vuq:={s.vuq with standings:=y}}) (λs=>some s.voq)) (pC (·.vAq)) (bj (eB Bw (bD (λg=>.ok g.guild) (pC (·.vuq))) (a9 yT (Ad (gp (pC (·.voq)) (ky:_->Res (List Int)))) (bD xt (pC (·.vrq))))))
def mI:HL:=aS (qZ (gI (λs=>some s.vuq.standings) (λs=>some s.voq)) (pI (λs=>some s.vuq.standings) (λs y=>{s with vuq:={s.vuq with standings:=y}}) (λs=>some s.voq)) (pC (·.vAq)))
def tF:HL:=jQ (bj (lE wH (bD (λg=>.ok g.guild) (pC (·.vuq))) (pC (·.voq)) (pC (·.vrq))))
 mH
 mI
def Hf:HL:=ay tG
 tF
def Kk(c:PostT)(b:Int)(a:Int)(d:Option (List Int)):OutC S_x9 Unit:=bP (some ()) (Hf ⟨c,b,a,d⟩)
theorem Tv:Cl.TJ D5 eN Fs Hf:=ah (eG (λ_=>rfl) (λ_ _=>rfl) (cB bM (bz xp xp)) (ak xp))
 (b7 (ak (aT (sZ (λb a c=>PN b a c) (ba eT xp) xp xp)))
 (Iv (UM (λ_=>rfl) (oh (λ_=>rfl))) (Vb (λ_=>rfl) (λ_ _=>rfl) (oh (λ_=>rfl))) xp (ak (dy (λb a=>PL b a) (ba eT xp) (aj Lq (eE (cU xp eD)) (cB jt xp)))))
 (aA (z8 (UM (λ_=>rfl) (oh (λ_=>rfl))) (Vb (λ_=>rfl) (λ_ _=>rfl) (oh (λ_=>rfl))) xp)))
theorem T5(c:PostT)(b:Int)(a:Int)(e:Option (List Int)):SimO D5 eN (OD [bg c,D.int b,D.int a,(eO (eL D.int)) e]) (Kk c b a e):=dZ (d:=()) rfl Tv rfl
structure S_r9 where
 vuq:PostT
 v0q:Int
 v1q:Int
def Eb:S_r9->Tp:=λs=>[some (bg s.vuq),some (D.int s.v0q),some (D.int s.v1q)]
abbrev HN:=S_r9->FlC S_r9 Bool
def tV:HN:=aS (bj (eB ul (bD (λg=>.ok g.guild) (pC (·.vuq))) (Ad (gp (pC (·.v0q)) (gp (pC (·.v1q)) (ky:_->Res (List Int)))))))
def tU:HN:=jQ (bj (a9 (vz true) (bD cM (iJ (pC (·.v0q)) (pC (·.v1q)))) (bD (λg=>.ok g.letters) (pC (·.vuq)))))
 qx
 cu
def tT:HN:=aS (U8 Kk (λa s=>{s with vuq:=a.vuq}) (λs=>some s.vuq) (pC (·.v0q)) (pC (·.v1q)) (vw (λs=>some s.vuq.letters) (λs y=>{s with vuq:={s.vuq with letters:=y}}) (bD cM (iJ (pC (·.v0q)) (pC (·.v1q))))))
def AQ:HN:=bX (Ch C1 (λa s=>{s with vuq:=a.vuq}) (pC (·.vuq)) (pC (·.v1q)))
def Hl:HN:=ay tV
 (ay tU
 (ay tT
 AQ))
def H0(a:PostT)(c:Int)(b:Int):OutC S_r9 Bool:=bP none (Hl ⟨a,c,b⟩)
theorem TD:Cl.TJ Eb D.bl Fy Hl:=ah (aA (ak (gA (λ_=>rfl) (λb a=>rJ b a) (ba eT xp) (eE (cU xp (cU xp eD))))))
 (ah (b7 (ak (aT (aj (uT true) (cB bM (bz xp xp)) (ba db xp))))
 g8
 bv)
 (ah (aA (RS (λ_=>rfl) (λ_ _=>rfl) (λ_=>rfl) (λb a d c=>T5 b a d c) xp xp (sI (λ_=>rfl) (λ_ _=>rfl) (cB bM (bz xp xp)))))
 (a8 (nJ (λ_=>rfl) (λ_ _=>rfl) (λb a=>G5 b a) xp xp))))
theorem LL(a:PostT)(c:Int)(b:Int):SimO Eb D.bl (Jy [bg a,D.int c,D.int b]) (H0 a c b):=du TD rfl
structure S_bn9 where
 vsq:(List Int)
 vwq:Int
 vyq:T0
 v7q:Option (DI Int)
 v6q:Option (DI Int)
 vvq:Option T0
def zD:S_bn9->Tp:=λs=>[some (eS s.vsq),some (D.int s.vwq),some ((eL (qo D.int D.int)) s.vyq),s.v7q.map (bB D.int),s.v6q.map (bB D.int),s.vvq.map (eL (qo D.int D.int))]
abbrev wG:=S_bn9->FlC S_bn9 PostT
def oZ:wG:=bR (λa s=>{s with v7q:=some a}) (bj (eB BD (eB iG (pC (·.vsq)) (kC (2:Int))) (pC (·.vwq))))
def oY:wG:=bR (λa s=>{s with v6q:=some a}) (bj (eB wL (eB iG (pC (·.vsq)) (kC (3:Int))) (pC (·.vwq))))
def oX:wG:=bR (λa s=>{s with vvq:=some a}) (bj (eB wI (eB iG (pC (·.vsq)) (kC (4:Int))) (pC (·.vwq))))
def vV:wG:=bX (bj (Je mk_Post (Ro BC (pC (·.vwq)) (pC (·.vyq)) (vC (·.v7q)) (vC (·.v6q)) (vC (·.vvq)))))
def yG:wG:=ay oZ
 (ay oY
 (ay oX
 vV))
def wJ(a:List Int)(c:Int)(b:T0):OutC S_bn9 PostT:=bP none (yG ⟨a,c,b,none,none,none⟩)
theorem Pp:Cl.TJ zD bg xL yG:=ah (xs (ak (dy (λb a=>PX b a) (dy (λb a=>jf b a) xp xk) xp)))
 (ah (xs (ak (dy (λb a=>PY b a) (dy (λb a=>jf b a) xp xk) xp)))
 (ah (xs (ak (dy (λb a=>PR b a) (dy (λb a=>jf b a) xp xk) xp)))
 (a8 (ak (yt sT (Pb (λb a e d c=>PV b a e d c) xp xp xv xv xv))))))
theorem G7(a:List Int)(c:Int)(b:T0):SimO zD bg (m_bn9 [eS a,D.int c,(eL (qo D.int D.int)) b]) (wJ a c b):=fA Pp rfl
structure S_s9 where
 vuq:PostT
 vjq:Option (List Int)
def Ea:S_s9->Tp:=λs=>[some (bg s.vuq),s.vjq.map (kP D.int)]
abbrev Qg:=S_s9->FlC S_s9 Bool
def tS:Qg:=bR (λa s=>{s with vjq:=some a}) (bj (jK Kl (pC (·.vuq))))
def AO:Qg:=bX (gL H0 (λa s=>{s with vuq:=a.vuq}) (pC (·.vuq)) (a9 q8 (vC (·.vjq)) (kC (0:Int))) (a9 q8 (vC (·.vjq)) (kC (1:Int))))
def Hk:Qg:=ay tS
 AO
def HZ(a:PostT):OutC S_s9 Bool:=bP none (Hk ⟨a,none⟩)
theorem TC:Cl.TJ Ea D.bl Fx Hk:=ah (xs (ak (i6 (λ_=>rfl) (λa=>T6 a) xp)))
 (a8 (fw (λ_=>rfl) (λ_ _=>rfl) (λa c b=>LL a c b) xp (aj lG xv xk) (aj lG xv xk)))
theorem LK(a:PostT):SimO Ea D.bl (Jx [bg a]) (HZ a):=du TC rfl
structure S_bk9 where
 vmq:PostT
 vyq:T0
 vwq:Int
 v4q:Int
 v0q:Option Int
 v1q:Option Int
 vfq:Option (List (Int×Int×(Option (List Int))))
 vjq:Option (Int×Int)
 vlq:Option (Int×Int×(Option (List Int)))
def zG:S_bk9->Tp:=λs=>[some (bg s.vmq),some ((eL (qo D.int D.int)) s.vyq),some (D.int s.vwq),some (D.int s.v4q),s.v0q.map D.int,s.v1q.map D.int,s.vfq.map (eL (wO D.int D.int (eO (eL D.int)))),s.vjq.map (qo D.int D.int),s.vlq.map (wO D.int D.int (eO (eL D.int)))]
abbrev gq:=S_bk9->FlC S_bk9 Unit
def o7:gq:=bR (λa s=>{s with v0q:=some a}) (bj (a9 dF (a9 dO (pC (·.v4q)) (kC (5:Int))) (pC (·.vwq))))
def o6:gq:=bR (λa s=>{s with v1q:=some a}) (bj (a9 dF (a9 dO (a9 dO (pC (·.v4q)) (kC (5:Int))) (pC (·.vwq))) (pC (·.vwq))))
def o5:gq:=bR (λa s=>{s with vfq:=some a}) (bj (jK mO (pC (·.vmq))))
def ii:gq:=bR (λa s=>{s with vjq:=some a}) (bj (iJ (a9 Fl (vC (·.v0q)) (vC (·.v1q))) (a9 FV (vC (·.v0q)) (vC (·.v1q)))))
def gT:gq:=aS (gL Km (λa s=>{s with vmq:=a.vuq}) (pC (·.vmq)) (vC (·.v0q)) (vC (·.v1q)))
def gS:gq:=aS (OX (λs=>some s.vyq) (λs y=>{s with vyq:=y}) xg (vC (·.vjq)))
def gW:gq:=aS (gL Kj (λa s=>{s with vmq:=a.vuq}) (pC (·.vmq)) (vC (·.v0q)) (vC (·.v1q)))
def gU:gq:=aS (OX (λs=>some s.vyq) (λs y=>{s with vyq:=y}) qy (vC (·.vjq)))
def ig:gq:=jQ (bj (a9 (Tb false) (vC (·.vjq)) (pC (·.vyq))))
 (ay gT
 gS)
 (ay gW
 gU)
def gY:gq:=bR (λa s=>{s with vlq:=some a}) (bj (a9 q8 (vC (·.vfq)) (a9 dF (a9 dO (pC (·.v4q)) (kC (5:Int))) (bD n8 (vC (·.vfq))))))
def gX:gq:=aS (gL H0 (λa s=>{s with vmq:=a.vuq}) (pC (·.vmq)) (bD Th (vC (·.vlq))) (bD Lv (vC (·.vlq))))
def cW:gq:=jQ (bj (a9 Gy (bD n8 (vC (·.vfq))) (kC (0:Int))))
 (ay gY
 gX)
 cu
def f6:gq:=jQ (bj (qd (a9 Gy (a9 dF (pC (·.v4q)) (kC (5:Int))) (kC (2:Int))) (a9 (sY true) (vC (·.v0q)) (vC (·.v1q)))))
 (ay ii
 ig)
 cW
def yJ:gq:=ay o7
 (ay o6
 (ay o5
 f6))
def wK(c:PostT)(a:T0)(b:Int)(d:Int):OutC S_bk9 Unit:=bP (some ()) (yJ ⟨c,a,b,d,none,none,none,none,none⟩)
theorem Ps:Cl.TJ zG eN xP yJ:=ah (xs (ak (aj cf (aj dt xp xk) xp)))
 (ah (xs (ak (aj cf (aj dt (aj dt xp xk) xp) xp)))
 (ah (xs (ak (i6 (λ_=>rfl) (λa=>p6 a) xp)))
 (b7 (ak (na (aT (aj Cb (aj cf xp xk) xk)) (aT (aj (jx true) xv xv))))
 (ah (xs (ak (bz (aj z5 xv xv) (aj z6 xv xv))))
 (b7 (ak (aT (aj (Lp (yx dP dP) (by decide)) xv xp)))
 (ah (aA (fw (λ_=>rfl) (λ_ _=>rfl) (λa c b=>T7 a c b) xp xv xv))
 (aA (uX (λ_=>rfl) (λ_ _=>rfl) (Tk (yx dP dP) (by decide)) xv)))
 (ah (aA (fw (λ_=>rfl) (λ_ _=>rfl) (λa c b=>T4 a c b) xp xv xv))
 (aA (uX (λ_=>rfl) (λ_ _=>rfl) Ay xv)))))
 (b7 (ak (aT (aj Cb (ba jM xv) xk)))
 (ah (xs (ak (aj qO xv (aj cf (aj dt xp xk) (ba jM xv)))))
 (aA (fw (λ_=>rfl) (λ_ _=>rfl) (λa c b=>LL a c b) xp (AB U6 xv) (AB U5 xv))))
 bv))))
theorem G8(c:PostT)(a:T0)(b:Int)(e:Int):SimO zG eN (m_bk9 [bg c,(eL (qo D.int D.int)) a,D.int b,D.int e]) (wK c a b e):=dZ (d:=()) rfl Ps rfl
structure S_z9 where
 vuq:PostT
 vhq:Int
 v3q:Option Int
def xb:S_z9->Tp:=λs=>[some (bg s.vuq),some (D.int s.vhq),s.v3q.map D.int]
abbrev y0:=S_z9->FlC S_z9 Int
def tu:y0:=bR (λa s=>{s with v3q:=some a}) (bj (kC (0:Int)))
def rF:y0:=aS (OA HZ (λa s=>{s with vuq:=a.vuq}) (pC (·.vuq)))
def rE:y0:=bR (λa s=>{s with v3q:=some a}) (bj (a9 lY (vC (·.v3q)) (kC (1:Int))))
def nc:y0:=ay rF
 rE
def tp:y0:=C5 (bj (qd (a9 F2 (vC (·.v3q)) (pC (·.vhq))) (a9 Gy (bD Al (bD (λg=>.ok g.letters) (pC (·.vuq)))) (kC (0:Int)))))
 nc 100000
def AH:y0:=bX (bj (vC (·.v3q)))
def Hd:y0:=ay tu
 (ay tp
 AH)
def Ki(a:PostT)(b:Int):OutC S_z9 Int:=bP none (Hd ⟨a,b,none⟩)
theorem Tt:Cl.TJ xb D.int Fp Hd:=ah (xs (ak xk))
 (ah (zd (rep:=xb) (ak (na (aT (aj uS xv xp)) (aT (aj Cb (ba NE (ba db xp)) xk))))
 (ah (aA (Fd (λ_=>rfl) (λ_ _=>rfl) (λa=>LK a) xp))
 (xs (ak (aj iX xv xk)))) 100000)
 (a8 (ak xv)))
theorem T3(a:PostT)(b:Int):SimO xb D.int (OB [bg a,D.int b]) (Ki a b):=du Tt rfl
structure S_bi9 where
 vmq:PostT
 viq:PostT
 vhq:Int
 v8q:Option Int
 vcq:Option Int
def zI:S_bi9->Tp:=λs=>[some (bg s.vmq),some (bg s.viq),some (D.int s.vhq),s.v8q.map D.int,s.vcq.map D.int]
abbrev iF:=S_bi9->FlC S_bi9 Bool
def pA:iF:=bR (λa s=>{s with v8q:=some a}) (Ch Ki (λb s=>{s with vmq:=b.vuq}) (pC (·.vmq)) (pC (·.vhq)))
def t9:iF:=bX (bj (kC false))
def pz:iF:=jQ (bj (Qs (bD E9 (jK By (vC (·.v8q)))) (Qs (a9 F2 (vC (·.v8q)) (kC (0:Int))) (a9 Gy (vC (·.v8q)) (pC (·.vhq))))))
 t9
 cu
def t8:iF:=bX (bj (kC false))
def kY:iF:=jQ (bj (qd (a9 F2 (vC (·.v8q)) (pC (·.vhq))) (a9 (sY true) (jK mO (pC (·.vmq))) (Ad (ky:_->Res (List (Int×Int×(Option (List Int)))))))))
 t8
 cu
def pp:iF:=bX (bj (kC false))
def pq:iF:=jQ (bj (a9 (sY false) (jK mO (pC (·.viq))) (Ad (ky:_->Res (List (Int×Int×(Option (List Int))))))))
 pp
 cu
def ph:iF:=aS (OA HZ (λa s=>{s with viq:=a.vuq}) (pC (·.viq)))
def pZ:iF:=ay pq
 ph
def pw:iF:=fX (bD (jJ 0) (vC (·.v8q))) (λa s=>{s with vcq:=some a})
 pZ
def wc:iF:=bX (bj (qd (a9 (sY false) (jK wM (pC (·.vmq))) (jK wM (pC (·.viq)))) (a9 (sY false) (jK mO (pC (·.vmq))) (jK mO (pC (·.viq))))))
def yK:iF:=ay pA
 (ay pz
 (ay kY
 (ay pw
 wc)))
def qj(b:PostT)(a:PostT)(c:Int):OutC S_bi9 Bool:=bP none (yK ⟨b,a,c,none,none⟩)
theorem Pu:Cl.TJ zI D.bl xS yK:=ah (xs (nJ (λ_=>rfl) (λ_ _=>rfl) (λa b=>T3 a b) xp xp))
 (ah (b7 (ak (oE (JP (aT (yu (λa=>PP a) xv))) (oE (aT (aj uS xv xk)) (aT (aj Cb xv xp)))))
 (a8 (ak xk))
 bv)
 (ah (b7 (ak (na (aT (aj uS xv xp)) (aT (aj (qQ (i9 (yw dP dP (rD (i9 dP) (gQ _)))) (by decide) true) (i6 (λ_=>rfl) (λa=>p6 a) xp) (eE eD)))))
 (a8 (ak xk))
 bv)
 (ah (da (jq xv) (λ_ _=>rfl)
 (ah (b7 (ak (aT (aj (qQ (i9 (yw dP dP (rD (i9 dP) (gQ _)))) (by decide) false) (i6 (λ_=>rfl) (λa=>p6 a) xp) (eE eD))))
 (a8 (ak xk))
 bv)
 (aA (Fd (λ_=>rfl) (λ_ _=>rfl) (λa=>LK a) xp))))
 (a8 (ak (GL (aj (qQ (i9 (rD (i9 dP) (gQ _))) (by decide) false) (i6 (λ_=>rfl) (λa=>Hc a) xp) (i6 (λ_=>rfl) (λa=>Hc a) xp)) (aj (qQ (i9 (yw dP dP (rD (i9 dP) (gQ _)))) (by decide) false) (i6 (λ_=>rfl) (λa=>p6 a) xp) (i6 (λ_=>rfl) (λa=>p6 a) xp))))))))
theorem G9(b:PostT)(a:PostT)(c:Int):SimO zI D.bl (m_bi9 [bg b,bg a,D.int c]) (qj b a c):=du Pu rfl
structure S_bg9 where
 vsq:(List Int)
 vwq:Option Int
 vyq:Option T0
 vmq:Option PostT
 viq:Option PostT
 veq:Option T0
 vqq:Option T0
 v4q:Option Int
 vhq:Option Int
def zK:S_bg9->Tp:=λs=>[some (eS s.vsq),s.vwq.map D.int,s.vyq.map (eL (qo D.int D.int)),s.vmq.map bg,s.viq.map bg,s.veq.map (eL (qo D.int D.int)),s.vqq.map (eL (qo D.int D.int)),s.v4q.map D.int,s.vhq.map D.int]
abbrev ga:=S_bg9->FlC S_bg9 Bool
def pM:ga:=bR (λa s=>{s with vwq:=some a}) (bj (a9 lY (kC (1:Int)) (a9 dF (eB iG (pC (·.vsq)) (kC (0:Int))) (kC (6:Int)))))
def pL:ga:=bR (λa s=>{s with vyq:=some a}) (bj (eB Bz (eB iG (pC (·.vsq)) (kC (1:Int))) (vC (·.vwq))))
def pK:ga:=bR (λa s=>{s with vmq:=some a}) (bj (lE wJ (pC (·.vsq)) (vC (·.vwq)) (vC (·.vyq))))
def pJ:ga:=bR (λa s=>{s with viq:=some a}) (bj (lE wJ (pC (·.vsq)) (vC (·.vwq)) (vC (·.vyq))))
def pH:ga:=bR (λa s=>{s with veq:=some a}) (bj (bD Ik (vC (·.vyq))))
def pG:ga:=bR (λa s=>{s with vqq:=some a}) (bj (bD Ik (vC (·.vyq))))
def pE:ga:=aS (Fo wK (λa s=>{s with vmq:=some a.vmq,veq:=some a.vyq}) (vC (·.vmq)) (vC (·.veq)) (vC (·.vwq)) (vC (·.v4q)))
def pD:ga:=aS (Fo wK (λa s=>{s with viq:=some a.vmq,vqq:=some a.vyq}) (vC (·.viq)) (vC (·.vqq)) (vC (·.vwq)) (vC (·.v4q)))
def p5:ga:=ay pE
 pD
def pF:ga:=fX (a9 LG (pC (·.vsq)) (kC (6:Int))) (λa s=>{s with v4q:=some a})
 p5
def k8:ga:=bR (λa s=>{s with vhq:=some a}) (bj (a9 dF (eB iG (pC (·.vsq)) (kC (5:Int))) (kC (41:Int))))
def k6:ga:=bR (λa s=>{s with vhq:=some a}) (bj (a9 dF (a9 dO (eB iG (pC (·.vsq)) (kC (5:Int))) (kC (164:Int))) (kC (151:Int))))
def k7:ga:=jQ (bj (a9 (sY false) (a9 dF (a9 dO (eB iG (pC (·.vsq)) (kC (5:Int))) (kC (41:Int))) (kC (4:Int))) (kC (1:Int))))
 k6
 cu
def rG:ga:=bX (HI (gL qj (λa s=>{s with vmq:=some a.vmq,viq:=some a.viq}) (vC (·.vmq)) (vC (·.viq)) (vC (·.vhq))) (gL qj (λa s=>{s with vmq:=some a.vmq,viq:=some a.viq}) (vC (·.vmq)) (vC (·.viq)) (a9 dO (vC (·.vhq)) (kC (2:Int)))))
def yM:ga:=ay pM
 (ay pL
 (ay pK
 (ay pJ
 (ay pH
 (ay pG
 (ay pF
 (ay k8
 (ay k7
 rG))))))))
def Ib(a:List Int):OutC S_bg9 Bool:=bP none (yM ⟨a,none,none,none,none,none,none,none,none⟩)
theorem Pw:Cl.TJ zK D.bl xU yM:=ah (xs (ak (aj iX xk (aj cf (dy (λb a=>jf b a) xp xk) xk))))
 (ah (xs (ak (dy (λb a=>PQ b a) (dy (λb a=>jf b a) xp xk) xv)))
 (ah (xs (ak (sZ (λb a c=>G7 b a c) xp xv xv)))
 (ah (xs (ak (sZ (λb a c=>G7 b a c) xp xv xv)))
 (ah (xs (ak (ba xx xv)))
 (ah (xs (ak (ba xx xv)))
 (ah (da (gk (aj Jo (oG Ma xp) xk)) (λ_ _=>rfl)
 (ah (aA (Fe (λ_ _=>rfl) (λb a c d=>G8 b a c d) xv xv xv xv))
 (aA (Fe (λ_ _=>rfl) (λb a c d=>G8 b a c d) xv xv xv xv))))
 (ah (xs (ak (aj cf (dy (λb a=>jf b a) xp xk) xk)))
 (ah (b7 (ak (aT (aj (jx false) (aj cf (aj dt (dy (λb a=>jf b a) xp xk) xk) xk) xk)))
 (xs (ak (aj cf (aj dt (dy (λb a=>jf b a) xp xk) xk) xk)))
 bv)
 (a8 (Jq (Ff (λ_ _=>rfl) (λb a c=>G9 b a c) xv xv xv) (Ff (λ_ _=>rfl) (λb a c=>G9 b a c) xv xv (aj dt xv xk))))))))))))
theorem PZ(a:List Int):SimO zK D.bl (m_bg9 [eS a]) (Ib a):=du Pw rfl
end
def bZ(ns:List Int)(k:Int):Int:=(ns[k.toNat]?).getD 0
theorem IP(ns:List Int)(k:Int)(a:0<=k):(iG ns k).res=.ok (bZ ns k):=by
 unfold iG yL we wd kZ bZ;by_cases h:k<ns.length
 ·obtain⟨v,e⟩:∃v,ns[k.toNat]?=some v:=⟨_,VI (by omega)⟩;simp[h,lW ns a,e]
 ·have e:ns[k.toNat]?=none:=VP (by omega);simp[h,e]
def PairOk(sz:Int)(k:List Int):Prop:=∃a b,k=[a,b]/\0<=a/\a<sz/\0<=b/\b<sz
theorem IK(c sz:Int)(d:0<sz):∃F:DI Int,(BD c sz).res=.ok F/\F.length<=5/\DI.nd F/\∀p∈F,PairOk sz p.1:=by
 have l:0<=c%5/\c%5<5:=⟨V0 _ (by omega),VS _ (by omega)⟩
 obtain⟨j,e,b,k,F,rfl,g,f,hF⟩:=c9 (u:=λa s=>{s with vcq:=some a}) (c:=pX) (λp (s:S_bl9)=>∃b k F,s=⟨b,sz,some F,k⟩/\F.length<=p.length/\DI.nd F/\∀p∈F,PairOk sz p.1)
  (dk 0 (c%5)) ⟨c,sz,some [],none⟩ ⟨c,none,[],rfl,by simp,by simp[DI.nd],λ_ h=>(nomatch h)⟩ (by
    rintro p a r s i ⟨b,k,F,rfl,g,f,hF⟩
    have hp:p.length<5:=by
     have:=bU 0 (c%5)
     rw[i,Vy,Vx]at this;omega
    have hz:F.length<aq:=by unfold aq;omega
    refine⟨_,.inl ?_,(b*48271+11)%2147483647,some a,F.put [(b*48271+11)%2147483647%sz,(b*48271+11)%2147483647 / 7%sz] ((b*48271+11)%2147483647 / 49%7-3),rfl,?_,gy f,eM hF ⟨_,_,rfl,V0 _ (by omega),VS _ d,V0 _ (by omega),VS _ d⟩⟩
    ·simp[pX,o4,o3,d,hz]
    ·rw[Vy];exact VW gd (by simp;omega))
 refine⟨F,?_,?_,f,hF⟩
 ·unfold BD yI v7 v6 v5;simp[fG (lo:=0) (hi:=c%5) (by omega) (by omega) (by omega) (by omega),e]
 ·have:=bU 0 (c%5);omega
theorem fB{W:Type}:∀{l:List W} {j:Nat} (h:j<l.length),(l[j]::l.eraseIdx j).Perm l
 |x::l,0,h=>List.Perm.refl _
 | x::l,j+1,h=>by
   have a:=fB (l:=l) (j:=j) (by simpa using h);rw[We,List.getElem_cons_succ];exact(List.Perm.swap x _ _).trans (a.cons x)
structure RoadOk (sz:Int) (r:List Int):Prop where
 two:2<=r.length
 last:r.getLast?=some 0
 nd:r.Nodup
 all:∀x∈r,0<=x/\x<sz
theorem MZ{W:Type}{l:List W}{i:Int}(h0:0<=i)(a:i<l.length)(b:l.length<=20000):∃(h:i.toNat<l.length),ED l i=some (l[i.toNat],l.eraseIdx i.toNat):=by
 have h:i.toNat<l.length:=by omega
 refine⟨h,?_⟩;unfold ED;rw[if_pos ⟨h0,a,by unfold aq;omega⟩,List.getElem?_eq_getElem h];rfl
theorem ui{W:Type}{l:List W}{x:W}(h:l.length<aq):qy l x=some ((),l++[x]):=by unfold qy;rw[if_pos h]
theorem P6{W:Type}{l m:List W}(h:l.length+m.length<=aq):yT l m=.ok (l++m):=by unfold yT;rw[if_pos h]
theorem ID(c h sz:Int)(M:1<=h)(L:h<sz)(U:sz<=1000):∃r,(BA c h sz).res=.ok r/\RoadOk sz r/\(∃t,r=h::t)/\r.length<=1001:=by
 have D:iD (a9 jJ (kC (1:Int)) (pC (·.vwq))) (a9 (sY true) (pC λp=>p.1) (pC λp=>p.2.vaq)) (pC λp=>p.1) (⟨c,h,sz,none,none,none⟩:S_bo9)=.ok ((dk 1 sz).filter λx=>!decide (x=h)):=by
  rw[ub (l:=dk 1 sz) (λx=>!decide (x=h)) (λx=>x) (by simp[fG (lo:=1) (hi:=sz) (by omega) (by omega) (by omega) (by omega)]) (by rw[bU];unfold aq;omega) (λa _=>by simp) (λa _ _=>by simp)];simp
 have w:∀x∈(dk 1 sz).filter (λx=>!decide (x=h)),1<=x/\x<sz/\x≠h:=λx g=>by
  obtain⟨G,F⟩:=WK.mp g
  have:=iY.mp G
  exact⟨this.1,this.2,by simpa using F⟩
 have i:((dk 1 sz).filter λx=>!decide (x=h)).Nodup:=(xz 1 sz).filter _;have y:((dk 1 sz).filter λx=>!decide (x=h)).length<=999:=VW (Yx _ _) (by rw[bU];omega);generalize (dk 1 sz).filter (λx=>!decide (x=h))=d at D w i y
 have E:=zb (t:=bj (qd (a9 Gy (vC (·.vgq)) (kC (0:Int))) (a9 Gy (bD n8 (vC (·.vpq))) (kC (0:Int))))) (c:=pW)
  (λn (s:S_bo9)=>∃f m bJ mid,s=⟨f,h,sz,some bJ,some (h::mid),some m⟩/\bJ.length=n/\(h::mid++bJ).Nodup/\(∀x∈h::mid++bJ,1<=x/\x<sz)/\(h::mid++bJ).length<=1000)
  (λs=>∃f m bJ mid,s=⟨f,h,sz,some bJ,some (h::mid),some m⟩/\(h::mid).Nodup/\(∀x∈h::mid,1<=x/\x<sz)/\(h::mid).length<=1000) (by
    rintro n s ⟨f,m,bJ,mid,rfl,rfl,nd,v,A⟩;have H:mid.length+bJ.length+1<=1000:=by simpa using A
    by_cases B:0<m/\0<bJ.length
    · have J:0<=f%(bJ.length:Int):=V0 _ (by omega);have I:f%(bJ.length:Int)<bJ.length:=VS _ (by omega);obtain⟨k,hp⟩:=MZ J I (by omega);have hz:(0:Int)<bJ.length:=by omega
      generalize (f%(bJ.length:Int)).toNat=j at k hp;have C:=ui (l:=h::mid) (x:=bJ[j]) (by simp only[List.length_cons];unfold aq;omega);refine .inr ⟨by simp[B.1,B.2],(bJ.eraseIdx j).length,_,by rw[List.length_eraseIdx,if_pos k];omega,.inl (by simp[pW,oQ,oP,oO,B.2,hp,C]),f / 5,m-1,bJ.eraseIdx j,mid++[bJ[j]],rfl,rfl,?_,?_,?_⟩
      · have e1:(h::(mid++[bJ[j]])++bJ.eraseIdx j).Perm (h::mid++bJ):=by
         have:(bJ[j]::bJ.eraseIdx j).Perm bJ:=fB k
         simpa using(YC (h::mid) this)
        exact e1.nodup_iff.mpr nd
      · intro x g;refine v x ?_
        have e1:(h::(mid++[bJ[j]])++bJ.eraseIdx j).Perm (h::mid++bJ):=by
         have:(bJ[j]::bJ.eraseIdx j).Perm bJ:=fB k
         simpa using(YC (h::mid) this)
        exact e1.mem_iff.mp g
      ·simp[List.length_eraseIdx,k];omega
    · refine .inl ⟨?_,f,m,bJ,mid,rfl,(VZ.mp nd).1,λx g=>v x (VC _ g),by simp;omega⟩;by_cases o:0<m
      ·have e0:bJ=[]:=V2.mp (by omega);subst e0;simp[o]
      ·simp[o])
 obtain⟨S,e,f,m,bJ,mid,rfl,nd,v,A⟩:=E 100000 d.length ⟨c / 4,h,sz,some d,some [h],some (if c / 4%8=3 then sz else c%4)⟩
  ⟨c / 4,_,d,[],rfl,rfl,VQ.mpr ⟨λz=>(w h z).2.2 rfl,i⟩,λx g=>by
   rcases VA.mp g with z|z
   ·rw[z];exact⟨M,L⟩
   ·exact⟨(w x z).1,(w x z).2.1⟩,by show(h::d).length<=1000;rw[Vx];omega⟩ (by omega)
 have T:mid.length+1<=1000:=by simpa using A
 have u:=P6 (l:=h::mid) (m:=[(0:Int)]) (by simp only[List.length_cons,List.length_nil];unfold aq;omega);refine⟨h::mid++[0],?_,⟨by simp,List.getLast?_concat ..,?_,λx g=>?_⟩,⟨_,rfl⟩,by simp;omega⟩
 · have e1:oW ⟨c,h,sz,none,none,none⟩=.nx ⟨c,h,sz,some d,none,none⟩:=by
    unfold oW bR bj;rw[D];rfl
   have R:oV ⟨c,h,sz,some d,none,none⟩=.nx ⟨c,h,sz,some d,some [h],none⟩:=by simp[oV,aq]
   have Q:oU ⟨c,h,sz,some d,some [h],none⟩=.nx ⟨c,h,sz,some d,some [h],some (c%4)⟩:=by simp[oU]
   have P:oT ⟨c,h,sz,some d,some [h],some (c%4)⟩=.nx ⟨c,h,sz,some d,some [h],some (if c / 4%8=3 then sz else c%4)⟩:=by
    by_cases q:c / 4%8=3<;>simp[oT,kW,q]
   have O:∀x,oR ⟨c,h,sz,some d,some [h],x⟩=.nx ⟨c / 4,h,sz,some d,some [h],x⟩:=λx=>by simp[oR]
   have N:vU ⟨c / 4,h,sz,some d,some [h],some (if c / 4%8=3 then sz else c%4)⟩=_:=e;unfold BA yF;simp only[ay,e1,R,Q,P,O,N];simp[vT,u,aq,-yT]
 · exact VZ.mpr ⟨nd,by simp,λa C b K=>by
    rw[VG.mp K]
    have:=(v a C).1
    omega⟩
 · rcases VH.mp g with z|z
   ·have:=v x z;omega
   ·rw[VG.mp z];omega
theorem fh:∀(n:Nat) (l:List Int),l.Nodup->(∀x∈l,0<=x/\x<n)->l.length<=n:=by
 intro n
 induction n with
 |zero=>
   intro l nd a;cases l with
   |nil=>exact VE _
   |cons x l=>have:=a x Vu;omega
 |succ n d=>
   intro l nd a
   have c:=d (l.erase n) (nd.erase _) λx e=>by
    have b:=(nd.mem_erase_iff).mp e
    have:=a x b.2
    have f:=b.1;omega
   rw[List.length_erase]at c;split at c<;>omega
theorem RoadOk.len{sz:Int}{r:List Int}(h:RoadOk sz r):(r.length:Int)<=sz:=by
 have:=fh sz.toNat r h.nd λx a=>by have:=h.all x a;omega
 obtain⟨x,a⟩:=XY r (λz=>by have:=h.two;rw[z]at this;simp at this)
 have:=h.all x a
 omega
theorem IN(c sz:Int)(z:1<=sz)(o:sz<=1000):∃F:DI Int,(wL c sz).res=.ok F/\F.length<=4/\DI.nd F/\∀p∈F,RoadOk sz p.1:=by
 by_cases j:sz<2
 ·refine⟨[],?_,by simp,by simp[DI.nd],λ_ h=>(nomatch h)⟩;simp[wL,ud,pf,pe,kX,j]
 · have y:0<=c%4/\c%4<4:=⟨V0 _ (by omega),VS _ (by omega)⟩
   obtain⟨v,e,f,k,F,r,rfl,m,i,hF⟩:=c9 (u:=λa s=>{s with vcq:=some a}) (c:=pY) (λp (s:S_bj9)=>∃f k F r,s=⟨f,sz,some F,k,r⟩/\F.length<=p.length/\DI.nd F/\∀p∈F,RoadOk sz p.1)
    (dk 0 (c%4)) ⟨c,sz,some [],none,none⟩ ⟨c,none,[],none,rfl,by simp,by simp[DI.nd],λ_ h=>(nomatch h)⟩ (by
      rintro p a r s n ⟨f,k,F,rd,rfl,m,i,hF⟩
      have hp:p.length<4:=by
       have:=bU 0 (c%4)
       rw[n,Vy,Vx]at this;omega
      have hz:F.length<aq:=by unfold aq;omega
      have g:1<sz:=by omega
      generalize t:(f*48271+17)%2147483647=b;have x:0<=b%(sz-1):=V0 _ (by omega);have w:b%(sz-1)<sz-1:=VS _ (by omega);obtain⟨d,q,l,_,_⟩:=ID (b / 9) (1+b%(sz-1)) sz (by omega) (by omega) o;refine⟨_,.inl ?_,b,some a,F.put d (b / 5%9-4),some d,rfl,?_,gy i,eM hF l⟩
      ·simp[pY,pd,o9,o8,t,hz,g,q]
      ·rw[Vy];exact VW gd (by simp;omega))
   refine⟨F,?_,?_,i,hF⟩
   ·unfold wL ud;simp[pf,pe,v9,v8,j,fG (lo:=0) (hi:=c%4) (by omega) (by omega) (by omega) (by omega),e]
   ·have:=bU 0 (c%4);omega
def Bv(sz:Int)(p:Int×Int):Prop:=0<=p.1/\p.1<sz/\0<=p.2/\p.2<sz/\p.1≠p.2
theorem jN{W:Type}{l:List W}{a:W}(h:l.Nodup)(d:a∉l):(l++[a]).Nodup:=
 VZ.mpr ⟨h,by simp,λx c y b=>by rw[VG.mp b];rintro rfl;exact d c⟩
theorem BG{a x sz:Int}(e:0<=a)(d:a<sz)(c:0<=x)(b:x<sz-1):a≠(a+1+x)%sz:=by
 by_cases q:a+1+x<sz
 ·rw[Int.emod_eq_of_lt (by omega) q];omega
 · have:(a+1+x)%sz=a+1+x-sz:=by
    rw[<-Int.sub_emod_right,Int.emod_eq_of_lt (by omega) (by omega)]
   rw[this];omega
theorem L7(c sz:Int)(M:1<=sz):∃W:T0,(wI c sz).res=.ok W/\W.length<=3/\W.Nodup/\∀p∈W,Bv sz p:=by
 by_cases C:sz<2
 ·refine⟨[],?_,by simp,by simp,λ_ h=>(nomatch h)⟩;simp[wI,uc,oN,oM,kU,C,aq]
 · have L:0<=c%3/\c%3<3:=⟨V0 _ (by omega),VS _ (by omega)⟩;have g:1<sz:=by omega
   have f:0<sz:=by omega
   obtain⟨K,e,m,k,y,w,W,rfl,H,i,j⟩:=c9 (u:=λa s=>{s with vcq:=some a}) (c:=lg) (λp (s:S_bp9)=>∃m k y w W,s=⟨m,sz,some W,k,y,w⟩/\W.length<=p.length/\W.Nodup/\∀p∈W,Bv sz p)
    (dk 0 (c%3)) ⟨c,sz,some [],none,none,none⟩ ⟨c,none,none,none,[],rfl,by simp,by simp,λ_ h=>(nomatch h)⟩ (by
      rintro p x r s I ⟨m,k,y,w,W,rfl,H,i,j⟩
      have hp:p.length<3:=by
       have:=bU 0 (c%3)
       rw[I,Vy,Vx]at this;omega
      generalize D:(m*48271+23)%2147483647=d;have q:0<=d%sz:=V0 _ (by omega);have o:d%sz<sz:=VS _ f;have G:0<=d / 7%(sz-1):=V0 _ (by omega);have F:d / 7%(sz-1)<sz-1:=VS _ (by omega);have B:0<=(d%sz+1+d / 7%(sz-1))%sz:=V0 _ (by omega);have A:(d%sz+1+d / 7%(sz-1))%sz<sz:=VS _ f;have n:=BG q o G F;generalize v:(d%sz+1+d / 7%(sz-1))%sz=b at B A n;generalize E:d%sz=a at q o n v;by_cases t:(a,b)∈W
      ·refine⟨_,.inl ?_,d,some x,some a,some b,W,rfl,by rw[Vy];omega,i,j⟩;simp[lg,jX,jW,jV,jU,D,f,g,E,v,t]
      · have J:=ui (l:=W) (x:=(a,b)) (by unfold aq;omega);refine⟨_,.inl ?_,d,some x,some a,some b,W++[(a,b)],rfl,by rw[List.length_append,List.length_append];simp;omega,jN i t,λp hp=>?_⟩
        ·simp[lg,jX,jW,jV,jU,jd,D,f,g,E,v,t,J]
        · rcases VH.mp hp with z|z
          ·exact j p z
          ·rw[VG.mp z];exact⟨q,o,B,A,n⟩)
   refine⟨W,?_,?_,i,j⟩
   ·unfold wI uc;simp[oN,oM,vS,vR,C,fG (lo:=0) (hi:=c%3) (by omega) (by omega) (by omega) (by omega),e,aq]
   ·have:=bU 0 (c%3);omega
structure WaysOk (sz:Int) (W:T0):Prop where
 nd:W.Nodup
 all:∀p∈W,0<=p.1/\p.1<p.2/\p.2<sz
 len:W.length<=10000
theorem IA(c sz:Int)(R:1<=sz)(Q:sz<=60):∃W:T0,(Bz c sz).res=.ok W/\WaysOk sz W:=by
 generalize j:(c+1)*48271%2147483647*16807%2147483647=d
 obtain⟨L,e,k,C,g,W,rfl,y,n,m,v⟩:=c9 (u:=λa s=>{s with v0q:=some a}) (c:=jT) (λp (s:S_bq9)=>∃k C g W,s=⟨c,sz,some d,some W,some k,C,g⟩/\0<=k/\W.Nodup/\(∀q∈W,0<=q.1/\q.1<q.2/\q.2<sz/\q.1<(p.length:Int))/\W.length<=p.length*100)
  (dk 0 sz) ⟨c,sz,some d,some [],some 0,none,none⟩ ⟨0,none,none,[],rfl,by omega,by simp,λ_ h=>(nomatch h),by simp⟩ (by
    rintro p a r s H ⟨k,C,g,W,rfl,y,n,m,v⟩;have P:=zr H;have F:(p.length:Int)=a:=by omega
    obtain⟨s2,I,E,J,K,rfl,w,t,B,G⟩:=c9 (u:=λa s=>{s with v1q:=some a}) (c:=io) (λq (s:S_bq9)=>∃k g W,s=⟨c,sz,some d,some W,some k,some a,g⟩/\0<=k/\W.Nodup/\(∀x∈W,0<=x.1/\x.1<x.2/\x.2<sz/\(x.1<a\/x.1=a/\x.2<a+1+(q.length:Int)))/\W.length<=p.length*100+q.length)
     (dk (a+1) sz) ⟨c,sz,some d,some W,some k,some a,g⟩ ⟨k,g,W,rfl,y,n,λx i=>by have:=m x i;omega,by simpa using v⟩ (by
       rintro q b M s o ⟨k,g,W,rfl,y,n,m,v⟩;have O:=zr o
       have N:q.length<60:=by
        have:=bU (a+1) sz
        rw[o,Vy,Vx]at this;omega
       have f:0<=k%29:=V0 _ (by omega);by_cases D:d / 2 ^ (k%29).toNat%2=1
       · have A:=ui (l:=W) (x:=(a,b)) (by unfold aq;omega);refine⟨_,.inl ?_,k+1,some b,W++[(a,b)],rfl,by omega,jN n (λz=>by have:=m _ z;omega),λx i=>?_,by rw[List.length_append,List.length_append];simp;omega⟩
         ·simp[io,ie,gR,ic,f,D,A]
         · rw[Vy];rcases VH.mp i with z|z
           ·have:=m x z;simp;omega
           ·rw[VG.mp z];simp;omega
       · refine⟨_,.inl ?_,k+1,some b,W,rfl,by omega,n,λx i=>?_,by rw[Vy];omega⟩
         ·simp[io,ie,ic,f,D]
         ·have:=m x i;rw[Vy];simp;omega)
    refine⟨_,.inl ?_,E,some a,J,K,rfl,w,t,λx i=>?_,?_⟩
    ·simp only[jT,fX,a9,lY,vC,pC,kC,Res.bind];rw[fG (by omega) (by omega) (by omega) (by omega)];exact I
    ·have:=B x i;rw[Vy];simp;omega
    ·have:=bU (a+1) sz;rw[Vy];simp;omega)
 refine⟨W,?_,n,λp hp=>by have:=m p hp;omega,by have:=bU 0 sz;omega⟩;unfold Bz yE;simp[vQ,vP,vO,vN,vM,j,aq,fG (lo:=0) (hi:=sz) (by omega) (by omega) (by omega) (by omega),e]
theorem F3(l:List Int)(m:Int):0<=dM l m↔0<=m/\∀x∈l,0<=x:=by
 obtain⟨e,f,d⟩:=i3 l m;constructor
 ·intro h;exact⟨by omega,λx c=>by have:=d x c;omega⟩
 · rintro⟨a,b⟩;rcases e with z|z
   ·omega
   ·exact b _ z
theorem BM(b:List Int)(n:Int)(h:∀x∈b,0<=x/\x<n)(h0:0<n):(Bx b n).res=.ok ():=by
 unfold Bx yB
 first | unfold vJ | skip
 cases b with
 |nil=>
   have q:¬ n<=0:=by omega
   simp[q]
 |cons a l=>
   have g:0<=dM l a:=(F3 l a).mpr ⟨(h a Vu).1,λx e=>(h x (Vw _ e)).1⟩
   have f:gK l a<n:=by
    obtain⟨z|z,_⟩:=jO l a
    ·rw[z];exact(h a Vu).2
    ·exact(h _ (Vw _ z)).2
   have d:¬ dM l a<0:=by omega
   have c:¬ n<=gK l a:=by omega
   simp[d,c]
theorem lv(g:GΩ)(a:List Int)(h:∀x∈a,0<=x/\x<g.hω)(h0:0<g.hω):(ul g a).res=.ok ():=by
 have e:=BM a g.hω h h0;unfold ul Hv
 first | unfold A5 | skip
 simp[e]
theorem in1{a n:Int}(c:0<=a/\a<n):∀x∈[a],0<=x/\x<n:=λx b=>by rw[VG.mp b];exact c
theorem UL{a b n:Int}(e:0<=a/\a<n)(d:0<=b/\b<n):∀x∈[a,b],0<=x/\x<n:=λx c=>by
 rcases VA.mp c with z|z
 ·rw[z];exact e
 ·rw[VG.mp z];exact d
theorem wV(g:GΩ)(a b:Int)(f:0<=a/\a<g.hω)(d:0<=b/\b<g.hω)(c:a≠b):(C2 g a b).res=.ok ():=by
 have e:=lv g [a,b] (UL f d) (by omega);unfold C2 Ht;simp[AX,AW,e,c,aq]
theorem BP(g:GΩ)(a b:Int)(d:0<=a/\a<g.hω)(c:0<=b/\b<g.hω):(Ku g a b).res=.ok ((g.lω.get [a,b]).getD 0):=by
 have e:=lv g [a,b] (UL d c) (by omega);unfold Ku Hz;simp[A9,A8,e,aq]
theorem zk(g:GΩ)(r:List Int)(a:RoadOk g.hω r)(h:g.hω<=1000):(H9 g r).res=.ok ():=by
 have f:=a.len;have two:=a.two;have e:=lv g r a.all (by omega);have d:¬ (r.length:Int)<2:=by omega
 have b:r.length<4000:=by omega
 have c:=a.last;unfold H9 Hu;simp[A4,A0,AZ,AY,e,d,b,Cl.wE,c,GY a.nd]
def xh(L Q:DI Int)(r:List Int):Int:=(Q.get r).getD (match r with|a::b::_=>(L.get [a,b]).getD 0|_=>0)
def fk(L Q:DI Int)(r:List Int):Int×Int×List Int:=(0-xh L Q r,(r.length:Int),r)
theorem J8{W:Type}(a b:W)(t:List W):li (a::b::t) 0=some a:=by rw[lW _ (by omega)];rfl
theorem UQ{W:Type}(a b:W)(t:List W):li (a::b::t) 1=some b:=by rw[lW _ (by omega)];rfl
theorem IF(g:GΩ)(r:List Int)(c:RoadOk g.hω r)(i:g.hω<=1000):(Ks g r).res=.ok (xh g.lω g.wω r):=by
 have e:=zk g r c i
 obtain⟨a,b,t,rfl⟩:∃a b t,r=a::b::t:=by
  match r,c.two with
  |a::b::t,_=>exact⟨a,b,t,rfl⟩
 have h:=c.all a (by simp);have f:=c.all b (by simp);have d:=BP g a b h f;unfold Ks Hw xh;cases q:g.wω.get (a::b::t) with
 |none=>simp[t7,t6,t5,jb,t4,e,q,J8,UQ,d]
 |some v=>simp[t7,t6,t5,jb,t4,e,q]
theorem L9(g:GΩ)(r:List Int)(a:RoadOk g.hω r)(b:g.hω<=1000):(Bw g r).res=.ok (fk g.lω g.wω r):=by
 have e:=IF g r a b;unfold Bw yA fk
 first | unfold vI | skip
 simp[e,Int.zero_sub]
theorem IH(g:GΩ)(a b v:Int)(f:0<=a/\a<g.hω)(d:0<=b/\b<g.hω)(c:g.lω.length<aq):Kv g a b v=.ok () ⟨{g with lω:=g.lω.put [a,b] v},a,b,v⟩:=by
 have e:=lv g [a,b] (UL f d) (by omega);unfold Kv HA;simp[Bb,Ba,e,c,aq]<;>(unfold aq at c;simp[c])
theorem IC(g:GΩ)(a b:Int)(h:0<=a/\a<g.hω)(f:0<=b/\b<g.hω)(c:a≠b)(d:g.sω.length<aq):Kq g a b=.ok () ⟨{g with sω:=g.sω.put [a,b] true},a,b⟩:=by
 have e:=wV g a b h f c;unfold Kq Hr;simp[AV,AU,e,d]
theorem Iz(g:GΩ)(r:List Int)(v:Int)(a:RoadOk g.hω r)(c:g.hω<=1000)(b:g.wω.length<aq):Kn g r v=.ok () ⟨{g with wω:=g.wω.put r v},r,v⟩:=by
 have e:=zk g r a c;unfold Kn Hn;simp[AS,AR,e,b]
theorem Du(g:GΩ)(a b:Int)(j:0<=a/\a<g.hω)(i:0<=b/\b<g.hω)(c:a≠b)(f:g.U.get [a,b]=none)(h:g.U.length+1<aq):Ia g a b=.ok () ⟨{g with U:=(g.U.put [a,b] true).put [b,a] true},a,b⟩:=by
 have e:=wV g a b j i c;have d:g.U.length<aq:=by omega
 have l2:(g.U.put [a,b] true).length<aq:=Nat.lt_of_le_of_lt gd h;unfold Ia HC;simp[Bj,Bi,Bh,Bg,e,f,d,l2]
theorem II(g:GΩ)(a b:Int)(k:0<=a/\a<g.hω)(j:0<=b/\b<g.hω)(c:a≠b)(i:(g.U.get [a,b]).isSome=true)(d:(g.U.get [b,a]).isSome=true):Kw g a b=.ok () ⟨{g with U:=(g.U.del [a,b]).del [b,a]},a,b⟩:=by
 have e:=wV g a b k j c;obtain⟨x,ex⟩:=W0.mp i;obtain⟨y,l⟩:=W0.mp d
 have f:(g.U.del [a,b]).get [b,a]=some y:=by
  rw[sV,on (by intro z;injection z with h m;exact c h.symm)];exact l
 unfold Kw HB;simp[Bf,Be,Bd,Bc,e,ex,f]
structure GuildIs (g:GΩ) (sz:Int) (U:T0) (Z Y:DI Int) (X:T0):Prop where
 count:g.hω=sz
 way:∀x y,(g.U.get [x,y]).isSome=true↔(x,y)∈U\/(y,x)∈U
 lik:∀k,g.lω.get k=Z.get k
 wsh:∀k,g.wω.get k=Y.get k
 shn:∀x y,(g.sω.get [x,y]).isSome=true↔(x,y)∈X
def Few(g:GΩ):Prop:=g.U.length<=30000/\g.lω.length<=30000/\g.wω.length<=30000/\g.sω.length<=30000
structure DrawOk (sz:Int) (U:T0) (Z Y:DI Int) (X:T0):Prop where
 size:1<=sz/\sz<=60
 U:WaysOk sz U
 Z:Z.length<=100/\DI.nd Z/\∀p∈Z,PairOk sz p.1
 Y:Y.length<=100/\DI.nd Y/\∀p∈Y,RoadOk sz p.1
 X:X.length<=100/\X.Nodup/\∀p∈X,Bv sz p
theorem Ax{X:Type}(k:List Int):DI.get ([]:DI X) k=none:=rfl
theorem sP{X:Type}{F:DI X}(a:DI.nd F){k:List Int}(b:k∈F.map (·.1)):∃v,F.get k=some v/\(k,v)∈F:=by
 obtain⟨p,hp,rfl⟩:=VY.mp b;exact⟨p.2,h9 a hp,hp⟩
theorem mw{X:Type}{F:DI X}{k:List Int}(a:k∉F.map (·.1)):F.get k=none:=by
 cases q:F.get k with
 |none=>rfl
 |some v=>exact absurd (VY.mpr ⟨(k,v),vn q,rfl⟩) a
structure Wf (sz:Int) (g:GΩ):Prop where
 count:g.hω=sz
 U:DI.nd g.U/\∀p∈g.U,PairOk sz p.1
 lik:DI.nd g.lω/\∀p∈g.lω,PairOk sz p.1
 shn:DI.nd g.sω/\∀p∈g.sω,PairOk sz p.1
 wsh:DI.nd g.wω/\∀p∈g.wω,RoadOk sz p.1
theorem lH{X:Type}{F:DI X}{k:List Int}(h:DI.nd F):DI.nd (F.del k):=by
 unfold DI.nd DI.del at *;exact h.sublist (List.Sublist.map _ List.filter_sublist)
theorem gf{X:Type}{F:DI X}{k:List Int}{p:List Int×X}(h:p∈F.del k):p∈F:=(WK.mp h).1
theorem Wf.lay{sz:Int}{g:GΩ}(h:Wf sz g){a b:Int}(d:0<=a/\a<sz)(c:0<=b/\b<sz):Wf sz {g with U:=(g.U.put [a,b] true).put [b,a] true}:=
 ⟨h.count,⟨gy (gy h.U.1),eM (P:=PairOk sz) (eM (P:=PairOk sz) h.U.2 ⟨a,b,rfl,d.1,d.2,c.1,c.2⟩) ⟨b,a,rfl,c.1,c.2,d.1,d.2⟩⟩,h.lik,h.shn,h.wsh⟩
theorem Wf.lift{sz:Int}{g:GΩ}(h:Wf sz g)(a b:Int):Wf sz {g with U:=(g.U.del [a,b]).del [b,a]}:=
 ⟨h.count,⟨lH (lH h.U.1),λp hp=>h.U.2 p (gf (gf hp))⟩,h.lik,h.shn,h.wsh⟩
theorem Wf.like{sz:Int}{g:GΩ}(h:Wf sz g){a b:Int}(v:Int)(d:0<=a/\a<sz)(c:0<=b/\b<sz):Wf sz {g with lω:=g.lω.put [a,b] v}:=
 ⟨h.count,h.U,⟨gy h.lik.1,eM (P:=PairOk sz) h.lik.2 ⟨a,b,rfl,d.1,d.2,c.1,c.2⟩⟩,h.shn,h.wsh⟩
theorem Wf.shun{sz:Int}{g:GΩ}(h:Wf sz g){a b:Int}(d:0<=a/\a<sz)(c:0<=b/\b<sz):Wf sz {g with sω:=g.sω.put [a,b] true}:=
 ⟨h.count,h.U,h.lik,⟨gy h.shn.1,eM (P:=PairOk sz) h.shn.2 ⟨a,b,rfl,d.1,d.2,c.1,c.2⟩⟩,h.wsh⟩
theorem Wf.wish{sz:Int}{g:GΩ}(h:Wf sz g){k:List Int}(v:Int)(a:RoadOk sz k):Wf sz {g with wω:=g.wω.put k v}:=
 ⟨h.count,h.U,h.lik,h.shn,⟨gy h.wsh.1,eM (P:=RoadOk sz) h.wsh.2 a⟩⟩
theorem Wf.new{sz:Int}:Wf sz ⟨sz,[],[],[],[]⟩:=⟨rfl,⟨by unfold DI.nd;simp,by simp⟩,⟨by unfold DI.nd;simp,by simp⟩,⟨by unfold DI.nd;simp,by simp⟩,⟨by unfold DI.nd;simp,by simp⟩⟩
theorem Ey{F:DI Bool}{a b x y:Int}{p:T0}(h:(F.get [x,y]).isSome=true↔(x,y)∈p\/(y,x)∈p):((((F.put [a,b] true).put [b,a] true).get [x,y])).isSome=true↔(x,y)∈p++[(a,b)]\/(y,x)∈p++[(a,b)]:=by
 rw[jp,jp,VH,VH,VG,VG];by_cases e:[x,y]=[b,a]
 ·rw[Vq e];injection e with e c;injection c with c;subst e c;simp
 · rw[on e];by_cases c:[x,y]=[a,b]
   ·rw[Vq c];injection c with c d;injection d with d;subst c d;simp
   · rw[on c,h];constructor
     · rintro(z|z)
       ·exact .inl (.inl z)
       ·exact .inr (.inl z)
     · rintro((z|z) | (z|z))
       ·exact .inl z
       ·injection z with d f;subst d f;exact absurd rfl c
       ·exact .inr z
       ·injection z with d f;subst d f;exact absurd rfl e
theorem Ew{F:DI Bool}{a b x y:Int}{p:T0}(h:(F.get [x,y]).isSome=true↔(x,y)∈p):((F.put [a,b] true).get [x,y]).isSome=true↔(x,y)∈p++[(a,b)]:=by
 rw[jp,VH,VG];by_cases c:[x,y]=[a,b]
 ·rw[Vq c];injection c with c d;injection d with d;subst c d;simp
 · rw[on c,h];constructor
   ·exact .inl
   · rintro(z|z)
     ·exact z
     ·injection z with f e;subst f e;exact absurd rfl c
theorem vp{F G:DI Int}{p:List (List Int)}{k:List Int}{v:Int}(h:∀j,F.get j=if j∈p then G.get j else none)(e:G.get k=some v)(j:List Int):(F.put k v).get j=if j∈p++[k] then G.get j else none:=by
 rw[jp,h j];by_cases z:j=k
 ·subst z;rw[Vq rfl,Vq (by simp),e]
 · rw[on z];by_cases b:j∈p
   ·rw[Vq b,Vq (VC _ b)]
   · rw[on b,on (λa=>by
      rcases VH.mp a with a|a
      ·exact b a
      ·exact z (VG.mp a))]
theorem BQ{sz:Int}{U:T0}{Z Y:DI Int}{X:T0}(h:DrawOk sz U Z Y X):∃g,(BC sz U Z Y X).res=.ok g/\GuildIs g sz U Z Y X/\Few g/\Wf sz g:=by
 obtain⟨W,V⟩:=h.size
 have e1:o0 ⟨sz,U,Z,Y,X,none,none,none,none,none⟩=.nx ⟨sz,U,Z,Y,X,some ⟨sz,[],[],[],[]⟩,none,none,none,none⟩:=by
  simp[o0,mk_Guild,W,V]
 obtain⟨s2,e2,g2,C,B,rfl,c2,l2,w2,n2,y2,len2⟩:=c9 (u:=λa s=>{s with v0q:=some a.1,v1q:=some a.2}) (c:=j3) (λp (s:S_bm9)=>∃g N M,s=⟨sz,U,Z,Y,X,some g,N,M,none,none⟩/\Wf sz g/\g.lω=[]/\g.wω=[]/\g.sω=[]/\(∀x y,(g.U.get [x,y]).isSome=true↔(x,y)∈p\/(y,x)∈p)/\g.U.length<=2*p.length)
  U ⟨sz,U,Z,Y,X,some ⟨sz,[],[],[],[]⟩,none,none,none,none⟩ ⟨_,none,none,rfl,Wf.new,rfl,rfl,rfl,λx y=>by simp[Ax],by simp⟩ (by
   rintro p ⟨a,b⟩ r s d ⟨g,N,M,rfl,f,hl,T,K,i,l⟩;have P:=f.count;have n:(a,b)∈U:=by rw[d];simp
   have A:=h.U.all _ n;have J:=h.U.nd;rw[d]at J;have S:=VZ.mp J;have hp1:(a,b)∉p:=λz=>S.2.2 _ z _ Vu rfl
   have hp2:(b,a)∉p:=λz=>by
    have:(b,a)∈U:=by rw[d];exact VC _ z
    have:=h.U.all _ this
    simp only at A this;omega
   have m:p.length<=10000:=by
    have:=h.U.len
    rw[d,Vy]at this;omega
   simp only at A
   have gn:g.U.get [a,b]=none:=by
    cases q:g.U.get [a,b] with
    |none=>rfl
    |some v=>
      rcases(i a b).mp (by rw[q];rfl) with z|z
      ·exact absurd z hp1
      ·exact absurd z hp2
   have sp:=Du g a b (by omega) (by omega) (by omega) gn (by unfold aq;omega);refine⟨_,.inl (by simp[j3,sp]),{g with U:=(g.U.put [a,b] true).put [b,a] true},some a,some b,rfl,f.lay (by omega) (by omega),hl,T,K,λx y=>?_,?_⟩
   ·exact Ey (i x y)
   · show((g.U.put [a,b] true).put [b,a] true).length<=_
     have:=gd (F:=g.U.put [a,b] true) (k:=[b,a]) (v:=true)
     have:=gd (F:=g.U) (k:=[a,b]) (v:=true)
     rw[Vy];simp;omega)
 have hwl:=h.U.len
 obtain⟨s3,e3,g3,O,rfl,c3,w3,n3,q3,y3,k3,G⟩:=c9 (u:=λa s=>{s with vjq:=some a}) (c:=j2) (λp (s:S_bm9)=>∃g p0,s=⟨sz,U,Z,Y,X,some g,C,B,p0,none⟩/\Wf sz g/\g.wω=[]/\g.sω=[]/\g.U.length<=30000/\(∀x y,(g.U.get [x,y]).isSome=true↔(x,y)∈U\/(y,x)∈U)/\(∀k,g.lω.get k=if k∈p then Z.get k else none)/\g.lω.length<=p.length)
  (Z.map (·.1)) ⟨sz,U,Z,Y,X,some g2,C,B,none,none⟩ ⟨g2,none,rfl,c2,w2,n2,by omega,y2,λk=>by rw[l2];rfl,by rw[l2];simp⟩ (by
    rintro p k r s d ⟨g,p0,rfl,f,T,K,I,i,L,l⟩;have P:=f.count;obtain⟨v,H,n⟩:=sP h.Z.2.1 (k:=k) (by rw[d];simp);obtain⟨a,b,rfl,ha1,ha2,hb1,hb2⟩:=h.Z.2.2 _ n
    have m:p.length<=100:=by
     have:=h.Z.1
     have e:(Z.map (·.1)).length=Z.length:=Vs ..;rw[d,Vy]at e;omega
    have sp:=IH g a b v (by omega) (by omega) (by unfold aq;omega);refine⟨_,.inl (by simp[j2,J8,UQ,H,sp]),{g with lω:=g.lω.put [a,b] v},some [a,b],rfl,f.like v (by omega) (by omega),T,K,I,i,λj=>?_,?_⟩
    ·exact vp L H j
    · show(g.lω.put [a,b] v).length<=_
      rw[Vy];exact VW gd (by simp;omega))
 obtain⟨s4,e4,g4,p4,rfl,c4,n4,q4,y4,k4,E,f4,w⟩:=c9 (u:=λa s=>{s with vdq:=some a}) (c:=jZ) (λp (s:S_bm9)=>∃g k0,s=⟨sz,U,Z,Y,X,some g,C,B,O,k0⟩/\Wf sz g/\g.sω=[]/\g.U.length<=30000/\(∀x y,(g.U.get [x,y]).isSome=true↔(x,y)∈U\/(y,x)∈U)/\(∀k,g.wω.get k=if k∈p then Y.get k else none)/\g.wω.length<=p.length/\(∀k,g.lω.get k=Z.get k)/\g.lω.length<=30000)
  (Y.map (·.1)) ⟨sz,U,Z,Y,X,some g3,C,B,O,none⟩ ⟨g3,none,rfl,c3,n3,q3,y3,λk=>by rw[w3];rfl,by rw[w3];simp,λk=>by
    rw[k3 k];by_cases z:k∈Z.map (·.1)
    ·rw[Vq z]
    ·rw[on z,mw z],by have:=h.Z.1;rw[Vs]at G;omega⟩ (by
    rintro p k r s d ⟨g,k0,rfl,f,K,I,i,L,l,hf,o⟩;have P:=f.count;obtain⟨v,H,n⟩:=sP h.Y.2.1 (k:=k) (by rw[d];simp);have hr:=h.Y.2.2 _ n
    have m:p.length<=100:=by
     have:=h.Y.1
     have e:(Y.map (·.1)).length=Y.length:=Vs ..;rw[d,Vy]at e;omega
    have sp:=Iz g k v (by rw[P];exact hr) (by omega) (by unfold aq;omega);refine⟨_,.inl (by simp[jZ,H,sp]),{g with wω:=g.wω.put k v},some k,rfl,f.wish v hr,K,I,i,λj=>?_,?_,hf,o⟩
    ·exact vp L H j
    · show(g.wω.put k v).length<=_
      rw[Vy];exact VW gd (by simp;omega))
 obtain⟨s5,e5,g5,a5,b5,rfl,c5,q5,y5,k5,D,f5,t,R,Q⟩:=c9 (u:=λa s=>{s with v0q:=some a.1,v1q:=some a.2}) (c:=jY) (λp (s:S_bm9)=>∃g N M,s=⟨sz,U,Z,Y,X,some g,N,M,O,p4⟩/\Wf sz g/\g.U.length<=30000/\(∀x y,(g.U.get [x,y]).isSome=true↔(x,y)∈U\/(y,x)∈U)/\(∀k,g.wω.get k=Y.get k)/\g.wω.length<=30000/\(∀k,g.lω.get k=Z.get k)/\g.lω.length<=30000/\(∀x y,(g.sω.get [x,y]).isSome=true↔(x,y)∈p)/\g.sω.length<=p.length)
  X ⟨sz,U,Z,Y,X,some g4,C,B,O,p4⟩ ⟨g4,C,B,rfl,c4,q4,y4,λk=>by
   rw[k4 k];by_cases z:k∈Y.map (·.1)
   ·rw[Vq z]
   ·rw[on z,mw z],by have:=h.Y.1;rw[Vs]at E;omega,f4,w,λx y=>by rw[n4];simp[Ax],by rw[n4];simp⟩ (by
   rintro p ⟨a,b⟩ r s d ⟨g,N,M,rfl,f,I,i,L,hkl,hf,o,hs,hsl⟩;have P:=f.count;have n:(a,b)∈X:=by rw[d];simp
   have A:=h.X.2.2 _ n;unfold Bv at A;simp only at A
   have m:p.length<=100:=by
    have:=h.X.1
    rw[d,Vy]at this;omega
   have sp:=IC g a b (by omega) (by omega) A.2.2.2.2 (by unfold aq;omega);refine⟨_,.inl (by simp[jY,sp]),{g with sω:=g.sω.put [a,b] true},some a,some b,rfl,f.shun (by omega) (by omega),I,i,L,hkl,hf,o,λx y=>?_,?_⟩
   ·exact Ew (hs x y)
   · show(g.sω.put [a,b] true).length<=_
     rw[Vy];exact VW gd (by simp;omega))
 refine⟨g5,?_,⟨c5.count,y5,f5,k5,R⟩,⟨q5,t,D,by have:=h.X.1;omega⟩,c5⟩;unfold BC yH;simp only[ay,e1];simp[v4,vZ,vY,vX,vW,e2,e3,e4,e5]
structure PathOk (sz:Int) (r:List Int):Prop where
 ne:r≠[]
 last:r.getLast?=some 0
 nd:r.Nodup
 all:∀x∈r,0<=x/\x<sz
theorem PathOk.len{sz:Int}{r:List Int}(p:PathOk sz r):(r.length:Int)<=sz:=by
 have:=fh sz.toNat r p.nd λx a=>by have:=p.all x a;omega
 obtain⟨x,a⟩:=XY r p.ne
 have:=p.all x a
 omega
theorem PathOk.road{sz h:Int}{r:List Int}(p:PathOk sz r)(c:0<=h/\h<sz)(b:h∉r):RoadOk sz (h::r):=by
 obtain⟨q,t,rfl⟩:∃q t,r=q::t:=by
  cases r with
  |nil=>exact absurd rfl p.ne
  |cons q t=>exact⟨q,t,rfl⟩
 refine⟨by simp,?_,VQ.mpr ⟨b,p.nd⟩,λx a=>?_⟩
 ·rw[List.getLast?_cons_cons];exact p.last
 · rcases VA.mp a with z|z
   ·rw[z];exact c
   ·exact p.all x z
theorem RoadOk.path{sz:Int}{r:List Int}(h:RoadOk sz r):PathOk sz r:=⟨λz=>by have:=h.two;rw[z]at this;simp at this,h.last,h.nd,h.all⟩
def x8(sh:Int->Bool)(h:Int)(r:List Int):Bool:=!decide (h∈r)&&!r.any sh
def Ig(g:GΩ)(h b:Int):Bool:=(g.sω.get [h,b]).isSome
theorem qc{W:Type}(f:W->Bool):∀l:List W,(l.map f).any id=l.any f
 |[]=>rfl
 |a::l=>by rw[Vr,Xd,Xd,qc f l];rfl
theorem Dt(g:GΩ)(a:Int)(c:List Int)(h:c.length<aq):(Ko g a c).res=.ok (c.any (Ig g a)):=by
 have e:∀s:S_m9,s=⟨g,a,c⟩->iD (pC (·.vbq)) (λ_=>.ok true) (a9 (vz false) (bD cM (iJ (pC λp=>p.2.v0q) (pC λp=>p.1))) (bD (λg=>.ok g.sω) (pC λp=>p.2.vuq))) s=.ok (c.map (Ig g a)):=by
  rintro s rfl;exact pU (l:=c) (Ig g a) rfl h λb _=>by simp[Ig]
 unfold Ko Hq AT;simp only[bX,bj,bD];rw[e _ rfl];simp[qc]
def x6(sh:Int->Bool)(h:Int)(o:Option (List Int)):Bool:=match o with
 |none=>false
 |some r=>decide (h≠0)&&x8 sh h r
theorem L8(g:GΩ)(h:Int)(o:Option (List Int))(b:∀r,o=some r->r.length<aq):(wH g h o).res=.ok (x6 (Ig g h) h o):=by
 unfold wH yC x6;cases o with
 |none=>simp[jc,dQ]
 |some r=>
   by_cases h0:h=0
   ·simp[jc,dQ,h0]
   · by_cases a:h∈r
     ·simp[jc,dQ,h0,a,x8]
     ·simp[jc,dQ,vK,h0,a,x8,Dt g h r (b r rfl)]
theorem uy(h:Int)(a:List (Int×Int×List Int)):(BE h a).res=.ok (if h=0 then some [0] else (sK a).map (·.2.2)):=by
 unfold BE yO;by_cases h0:h=0
 ·simp[lb,la,h0,aq]
 · cases q:sK a with
   |none=>simp[lb,pQ,pP,ij,h0,q]
   |some k=>simp[lb,pQ,pP,ij,wj,h0,q]
theorem Fk:∀{c:List (Int×Int×List Int)} {k:Int×Int×List Int},sK c=some k->k∈c:=by
 intro c;cases c with
 |nil=>intro k h;cases h
 |cons a r=>
   intro k h
   have d:∀(r:List (Int×Int×List Int)) (a:Int×Int×List Int),r.foldl (λb x=>if fj x b=true then x else b) a∈a::r:=by
    intro r
    induction r with
    |nil=>intro a;simp
    |cons x r e=>
      intro a;rw[XH]
      have:=e (if fj x a=true then x else a)
      rcases VA.mp this with z|z
      · rw[z];split
        ·simp
        ·simp
      ·exact Vw _ (Vw _ z)
   injection h with h
   rw[<-h];exact d r a
def fU(sz:Int)(P:DI Bool)(a:Int):List Int:=(dk 0 sz).filter λb=>(P.get [a,b]).isSome
theorem BO(g:GΩ)(P:DI Bool)(a:Int)(h0:0<=g.hω)(c:g.hω<=1000):(Kx g P a).res=.ok (fU g.hω P a):=by
 have e:∀s:S_b9,s=⟨g,P,a⟩->iD (bD (jJ 0) (bD (λg=>.ok g.hω) (pC (·.vuq)))) (a9 (vz false) (bD cM (iJ (pC λp=>p.2.v0q) (pC λp=>p.1))) (pC λp=>p.2.vkq)) (pC λp=>p.1) s=.ok (fU g.hω P a):=by
  rintro s rfl;rw[ub (l:=dk 0 g.hω) (λb=>(P.get [a,b]).isSome) (λx=>x) (by simp[fG (lo:=0) (hi:=g.hω) (by omega) (by omega) (by omega) (by omega)]) (by rw[bU];unfold aq;omega) (λb _=>by simp) (λb _ _=>by simp)];simp[fU]
 unfold Kx HE Bk;simp only[bX,bj];rw[e _ rfl];rfl
theorem qq(g:GΩ)(a:Int)(b:0<=a/\a<g.hω)(c:g.hω<=1000):(Kt g a).res=.ok (fU g.hω g.U a):=by
 have e:=lv g [a] (in1 b) (by omega);have d:=BO g g.U a (by omega) c;unfold Kt Hy;simp[A7,A6,e,d,aq]
def gj(T:List (Option (List Int)))(h:Int):Option (List Int):=T.getD h.toNat none
theorem Ul{T:List (Option (List Int))}{b:Int}(h0:0<=b)(a:b<T.length):li T b=some (gj T b):=by
 rw[lW T h0,List.getElem?_eq_getElem (by omega)];unfold gj;rw[List.getD_eq_getElem?_getD,List.getElem?_eq_getElem (by omega)];rfl
theorem CG{T:List (Option (List Int))}{b:Int}{r:List Int}(h:gj T b=some r):some r∈T:=by
 unfold gj at h;rw[List.getD_eq_getElem?_getD]at h;cases q:T[b.toNat]? with
 |none=>rw[q]at h;cases h
 |some o=>rw[q]at h;have h:o=some r:=h;subst h;exact Wu q
structure TableOk (sz:Int) (T:List (Option (List Int))):Prop where
 len:(T.length:Int)=sz
 all:∀r,some r∈T->PathOk sz r
theorem nO{sz:Int}{P:DI Bool}{a b:Int}(h:b∈fU sz P a):0<=b/\b<sz:=iY.mp (WK.mp h).1
theorem K9{sz:Int}(h:0<sz):PathOk sz [0]:=⟨by simp,rfl,by simp,λx a=>by rw[VG.mp a];omega⟩
theorem TableOk.set{sz:Int}{T:List (Option (List Int))}(h:TableOk sz T)(j:Nat)(o:Option (List Int))(b:∀r,o=some r->PathOk sz r):TableOk sz (T.set j o):=⟨by rw[VT];exact h.len,λr a=>by
 rcases WX a with z|z
 ·exact h.all r z
 ·exact b r z.symm⟩
theorem Dr(x:Int):(By x).res=.ok true:=by
 unfold By yD vL;simp
theorem lF{W:T0}{sz:Int}(c:WaysOk sz W)(a b:Int):((a,b)∈W\/(b,a)∈W)↔(min a b,max a b)∈W:=by
 constructor
 · rintro(z|z)
   · have:=(c.all _ z).2.1
     rw[show min a b=a by simp only at this;omega,show max a b=b by simp only at this;omega];exact z
   · have:=(c.all _ z).2.1
     rw[show min a b=b by simp only at this;omega,show max a b=a by simp only at this;omega];exact z
 · intro z;by_cases q:a<=b
   ·rw[show min a b=a by omega,show max a b=b by omega]at z;exact .inl z
   ·rw[show min a b=b by omega,show max a b=a by omega]at z;exact .inr z
theorem GuildIs.lay{g:GΩ}{sz:Int}{W:T0}{L Q:DI Int}{X:T0}(G:GuildIs g sz W L Q X)(a b:Int):GuildIs {g with U:=(g.U.put [a,b] true).put [b,a] true} sz (W++[(min a b,max a b)]) L Q X:=by
 refine⟨G.count,λx y=>?_,G.lik,G.wsh,G.shn⟩;show(((g.U.put [a,b] true).put [b,a] true).get [x,y]).isSome=true↔_;rw[jp,jp,VH,VH,VG,VG];by_cases d:[x,y]=[b,a]
 · rw[Vq d];injection d with d c;injection c with c;subst d c
   simp only[XU,true_iff];by_cases q:x<=y
   ·exact .inl (.inr (by rw[show min y x=x by omega,show max y x=y by omega]))
   ·exact .inr (.inr (by rw[show min y x=y by omega,show max y x=x by omega]))
 · rw[on d];by_cases c:[x,y]=[a,b]
   · rw[Vq c];injection c with c h;injection h with h;subst c h
     simp only[XU,true_iff];by_cases q:x<=y
     ·exact .inl (.inr (by rw[show min x y=x by omega,show max x y=y by omega]))
     ·exact .inr (.inr (by rw[show min x y=y by omega,show max x y=x by omega]))
   · rw[on c,G.way];constructor
     · rintro(z|z)
       ·exact .inl (.inl z)
       ·exact .inr (.inl z)
     · have no:∀u v:Int,(u,v)=(min a b,max a b)->[u,v]=[a,b]\/[u,v]=[b,a]:=λu v e=>by
        injection e with e1 f
        by_cases q:a<=b
        ·exact .inl (by rw[e1,f,show min a b=a by omega,show max a b=b by omega])
        ·exact .inr (by rw[e1,f,show min a b=b by omega,show max a b=a by omega])
       have i:∀{u v p q:Int},[u,v]=[p,q]->[v,u]=[q,p]:=λe=>by injection e with e1 f;injection f with f;rw[e1,f]
       rintro((z|z) | (z|z))
       ·exact .inl z
       · rcases no _ _ z with w|w
         ·exact absurd w c
         ·exact absurd w d
       ·exact .inr z
       · rcases no _ _ z with w|w
         ·exact absurd (i w) d
         ·exact absurd (i w) c
theorem GuildIs.lift{g:GΩ}{sz:Int}{W m:T0}{L Q:DI Int}{X:T0}(G:GuildIs g sz W L Q X)(o:WaysOk sz W)(a b:Int)(l:∀p,p∈m↔p∈W/\p≠(min a b,max a b)):GuildIs {g with U:=(g.U.del [a,b]).del [b,a]} sz m L Q X:=by
 refine⟨G.count,λx y=>?_,G.lik,G.wsh,G.shn⟩;show(((g.U.del [a,b]).del [b,a]).get [x,y]).isSome=true↔_;rw[sV,sV,l,l]
 have no:∀u v:Int,(u,v)=(min a b,max a b)->[u,v]=[a,b]\/[u,v]=[b,a]:=λu v e=>by
  injection e with e1 c
  by_cases q:a<=b
  ·exact .inl (by rw[e1,c,show min a b=a by omega,show max a b=b by omega])
  ·exact .inr (by rw[e1,c,show min a b=b by omega,show max a b=a by omega])
 have d:∀u v:Int,(u,v)∈W->[u,v]=[a,b]\/[u,v]=[b,a]->(u,v)=(min a b,max a b):=λu v n e=>by
  have:=(o.all _ n).2.1
  simp only at this;rcases e with e|e<;>(injection e with e1 c;injection c with c;subst e1 c)
  ·rw[show min u v=u by omega,show max u v=v by omega]
  ·rw[show min v u=u by omega,show max v u=v by omega]
 have k:∀{u v p q:Int},[u,v]=[p,q]->[v,u]=[q,p]:=λe=>by injection e with e1 c;injection c with c;rw[e1,c]
 by_cases j:[x,y]=[b,a]
 · rw[Vq j];simp only[Option.isSome_none,Xa,false_iff];rintro(⟨h,f⟩|⟨h,f⟩)
   ·exact f (d _ _ h (.inr j))
   ·exact f (d _ _ h (.inl (k j)))
 · rw[on j];by_cases i:[x,y]=[a,b]
   · rw[Vq i];simp only[Option.isSome_none,Xa,false_iff];rintro(⟨h,f⟩|⟨h,f⟩)
     ·exact f (d _ _ h (.inl i))
     ·exact f (d _ _ h (.inr (k i)))
   · rw[on i,G.way];constructor
     · rintro(w|w)
       · refine .inl ⟨w,λe=>?_⟩;rcases no _ _ e with v|v
         ·exact i v
         ·exact j v
       · refine .inr ⟨w,λe=>?_⟩;rcases no _ _ e with v|v
         ·exact j (k v)
         ·exact i (k v)
     · rintro(⟨w,_⟩|⟨w,_⟩)
       ·exact .inl w
       ·exact .inr w
theorem Er{W:Type}[DecidableEq W]:∀{xs:List W} {x:W},x∈xs->xs.Nodup->∃b,xg xs x=some ((),b)/\b.Nodup/\b.length<=xs.length/\∀y,y∈b↔y∈xs/\y≠x
 |[],x,h,_=>(nomatch h)
 | z::xs,x,h,nd=>by
   have a:=VQ.mp nd;by_cases e:z=x
   · subst e;refine⟨xs,by unfold xg;simp[List.findIdx?_cons],a.2,by simp,λy=>?_⟩;constructor
     ·exact λd=>⟨Vw _ d,λw=>a.1 (w▸d)⟩
     · rintro⟨d,m⟩;rcases VA.mp d with w|w
       ·exact absurd w m
       ·exact w
   · have l:x∈xs:=by
      rcases VA.mp h with w|w
      ·exact absurd w.symm e
      ·exact w
     obtain⟨b,i,p,o,g⟩:=Er l a.2;unfold xg at i;obtain⟨j,n,c⟩:=Option.map_eq_some_iff.mp i;have c:xs.eraseIdx j=b:=by injection c
     refine⟨z::b,?_,VQ.mpr ⟨λw=>a.1 ((g z).mp w).1,p⟩,by simpa using o,λy=>?_⟩
     ·unfold xg;rw[List.findIdx?_cons,decide_eq_false e,n];simp[c]
     · rw[VA,VA,g];constructor
       · rintro(w|⟨k,f⟩)
         ·exact⟨.inl w,by rw[w];exact e⟩
         ·exact⟨.inr k,f⟩
       · rintro⟨w|w,f⟩
         ·exact .inl w
         ·exact .inr ⟨w,f⟩
def GH:Nat->List Int->List (List Int)
 |0,_=>[[]]
 |n+1,l=>[]::l.flatMap λx=>(GH n (l.erase x)).map (x::·)
theorem rj:∀(n:Nat) (b l:List Int),l.Nodup->(∀x∈l,x∈b)->l.length<=n->l∈GH n b
 |0,b,l,_,_,h=>by rw[V2.mp (Nat.le_zero.mp h)];exact Vu
 |n+1,b,[],_,_,_=>Vu
 | n+1,b,x::t,nd,d,h=>by
   have a:=VQ.mp nd;refine Vw _ (List.mem_flatMap.mpr ⟨x,d x Vu,VY.mpr ⟨t,rj n _ t a.2 (λy c=>?_) (by simpa using h),rfl⟩⟩);exact(List.mem_erase_of_ne λe=>a.1 (by rw[<-e];exact c)).mpr (d y (Vw _ c))
theorem At{W X:Type}{f:W->X}:∀{l:List W},(l.map f).Nodup->∀a∈l,∀b∈l,f a=f b->a=b
 |[],_,a,c,_,_,_=>by cases c
 | x::l,h,a,c,b,d,e=>by
   rw[Vr,VQ]at h;rcases VA.mp c with z|z<;>rcases VA.mp d with w|w
   ·rw[z,w]
   ·subst z;exact(h.1 (VY.mpr ⟨b,w,e.symm⟩)).elim
   ·subst w;exact(h.1 (VY.mpr ⟨a,z,e⟩)).elim
   ·exact At h.2 a z b w e
theorem nH{S:List (List Int)}(j:(S.map cX).Nodup){c:List (List Int)}(f:c.Nodup)(h:∀k∈c,k∈S):(c.map cX).Nodup:=by
 unfold List.Nodup;rw[List.pairwise_map];refine List.Pairwise.imp_of_mem ?_ f;intro a b i g d e;exact d (At j a (h a i) b (h b g) e)
def EN(n:Int):List (List Int):=(dk 0 n).flatMap λx=>(dk 0 n).map λy=>[x,y]
theorem Cg{n:Int}{k:List Int}(h:PairOk n k):k∈EN n:=by
 obtain⟨a,b,rfl,f,e,d,c⟩:=h;exact List.mem_flatMap.mpr ⟨a,iY.mpr ⟨f,e⟩,VY.mpr ⟨b,iY.mpr ⟨d,c⟩,rfl⟩⟩
theorem PairOk.mono{m n:Int}(c:m<=n){k:List Int}(h:PairOk m k):PairOk n k:=by
 obtain⟨a,b,rfl,e,g,d,f⟩:=h;exact⟨a,b,rfl,e,by omega,d,by omega⟩
theorem B8{sz:Int}(m:sz<=60){g:List (List Int)}(nd:g.Nodup)(h:∀k∈g,PairOk sz k):g.length<=3600:=by
 have:=fh 3600 (g.map λk=>k.getD 0 0*60+k.getD 1 0) (by
  unfold List.Nodup;rw[List.pairwise_map];refine List.Pairwise.imp_of_mem ?_ nd;intro p q hp j f e;obtain⟨a,b,rfl,s,r,o,n⟩:=h p hp;obtain⟨c,d,rfl,y,w,v,u⟩:=h q j;simp at e;have e1:a=c:=by omega
  have t:b=d:=by omega
  rw[e1,t]at f;exact f rfl) (λx i=>by
  obtain⟨k,l,rfl⟩:=VY.mp i;obtain⟨a,b,rfl,s,r,o,n⟩:=h k l;simp
  omega)
 rwa [Vs]at this
theorem i8{X:Type}{sz:Int}(a:sz<=60){F:DI X}(h:DI.nd F/\∀q∈F,PairOk sz q.1):F.length<=3600:=by
 have nd:(List.map Prod.fst F).Nodup:=h.1
 have:=B8 a nd λk c=>by obtain⟨q,b,rfl⟩:=VY.mp c;exact h.2 q b
 rwa [Vs]at this
theorem Ju{X:Type}{F:DI X}{k:List Int}{v:X}{q:List Int×X}(h:q∈F.put k v):q∈F\/q=(k,v):=by
 unfold DI.put at h;split at h
 · obtain⟨p,hp,e⟩:=VY.mp h;by_cases z:p.1=k
   ·rw[Vq z]at e;rw[<-e,z];exact .inr rfl
   ·rw[on z]at e;rw[<-e];exact .inl hp
 · rcases VH.mp h with z|z
   ·exact .inl z
   ·exact .inr (VG.mp z)
structure Hs (g:GΩ):Prop where
 U:((g.U.map (·.1)).map cX).Nodup
 lik:((g.lω.map (·.1)).map cX).Nodup
 shn:((g.sω.map (·.1)).map cX).Nodup
 wsh:((g.wω.map (·.1)).map cX).Nodup
theorem LX{Z W:Type}{a:Z->Option (DI W)}{p:Z->DI W->Z}{c:Z->Res (DI W)}{s:Z}{F:DI W}(e:a s=some [])(d:c s=.ok F)(b:((F.map (·.1)).map cX).Nodup):rV a p c s=.ok () (p s F):=by
 unfold rV;rw[e];dsimp only;rw[d];show(if ((F.map (·.1)).map cX).Nodup then OutC.ok () (p s F) else .bad)=_;rw[if_pos b]
theorem mU{Z W X:Type}{a:Z->Option (DI W)}{p:Z->DI W->Z}{c:Z->Res (DI W)}{s:Z}(F:DI W)(e:a s=some [])(d:c s=.ok F)(b:((F.map (·.1)).map cX).Nodup):(aS (rV a p c):Z->FlC Z X) s=.nx (p s F):=by
 unfold aS;rw[LX e d b];rfl
theorem IB{g:GΩ}(c:1<=g.hω)(b:g.hω<=60)(a:Hs g):∃s,H8 g=.ok g s:=by
 have e1:t3 ⟨g,none⟩=.nx ⟨g,some ⟨g.hω,[],[],[],[]⟩⟩:=by simp[t3,mk_Guild,c,b]
 have h:tZ ⟨g,some ⟨g.hω,[],[],[],[]⟩⟩=.nx ⟨g,some ⟨g.hω,g.U,[],[],[]⟩⟩:=by
  unfold tZ;exact mU g.U rfl rfl a.U
 have f:tY ⟨g,some ⟨g.hω,g.U,[],[],[]⟩⟩=.nx ⟨g,some ⟨g.hω,g.U,g.lω,[],[]⟩⟩:=by
  unfold tY;exact mU g.lω rfl rfl a.lik
 have e:tX ⟨g,some ⟨g.hω,g.U,g.lω,[],[]⟩⟩=.nx ⟨g,some ⟨g.hω,g.U,g.lω,g.sω,[]⟩⟩:=by
  unfold tX;exact mU g.sω rfl rfl a.shn
 have d:tW ⟨g,some ⟨g.hω,g.U,g.lω,g.sω,[]⟩⟩=.nx ⟨g,some g⟩:=by
  unfold tW;exact mU g.wω rfl rfl a.wsh
 unfold H8 Ho;simp only[ay,e1,h,f,e,d];exact⟨_,rfl⟩
abbrev y9:=Int×Int×List Int
def gE(p:PostT)(h:Int):DJ y9:=p.standings.getD h.toNat []
structure PW (sz:Int) (p:PostT):Prop where
 g:Wf sz p.guild
 roads:TableOk sz p.roads
 told:DI.nd p.told_last/\∀q∈p.told_last,PairOk sz q.1
 wrt:DI.nd p.written_last/\∀q∈p.written_last,PairOk sz q.1
 lts:DI.nd p.letters/\∀q∈p.letters,PairOk sz q.1
 ltv:∀q∈p.letters,∀r,q.2=some r->PathOk sz r
 sln:(p.standings.length:Int)=sz
 stn:∀F∈p.standings,DJ.nd F/\∀q∈F,(0<=q.1/\q.1<sz)/\PathOk sz q.2.2.2
def d6(p:PostT)(w r:Int):PostT:=if (p.written_last.get [w,r]).bind id=gj p.roads w then p else {p with written_last:=p.written_last.put [w,r] (gj p.roads w),letters:=p.letters.put [w,r] (gj p.roads w)}
theorem nj{sz:Int}{p:PostT}(P:PW sz p)(a:sz<=60)(w r:Int)(d:0<=w/\w<sz):∃o,rR p w r=.ok () ⟨d6 p w r,w,r,o⟩:=by
 have J8:li p.roads w=some (gj p.roads w):=Ul d.1 (by have:=P.roads.len;omega);have e1:pS ⟨p,w,r,none⟩=.nx ⟨p,w,r,some (gj p.roads w)⟩:=by simp[pS,J8]
 have e:=i8 a P.wrt;have l2:=i8 a P.lts;refine⟨some (gj p.roads w),?_⟩;unfold rR yQ d6;simp only[ay,e1];by_cases q:(p.written_last.get [w,r]).bind id=gj p.roads w
 ·rw[Vq q];simp[pR,lc,q]
 · rw[if_neg q];have c:p.written_last.length<aq:=by unfold aq;omega
   have b:p.letters.length<aq:=by unfold aq;omega
   simp[pR,wn,wm,q,c,b]
theorem PW.write{sz:Int}{p:PostT}(P:PW sz p){w r:Int}(a:0<=w/\w<sz)(b:0<=r/\r<sz):PW sz (d6 p w r):=by
 unfold d6;split
 ·exact P
 · have k:PairOk sz [w,r]:=⟨w,r,rfl,a.1,a.2,b.1,b.2⟩;refine⟨P.g,P.roads,P.told,⟨gy P.wrt.1,eM (P:=PairOk sz) P.wrt.2 k⟩,⟨gy P.lts.1,eM (P:=PairOk sz) P.lts.2 k⟩,λq c r e=>?_,P.sln,P.stn⟩;rcases Ju c with z|z
   ·exact P.ltv q z r e
   ·subst z;exact P.roads.all r (CG e)
theorem iK(p:PostT)(w r:Int):(d6 p w r).guild=p.guild:=by unfold d6;split<;>rfl
def writeAll(p:PostT)(w:Int):PostT:=(fU p.guild.hω p.guild.U w).foldl (λp r=>d6 p w r) p
theorem oy{W X:Type}{f:X->W->X}(R:X->Prop):∀(l:List W) (b:X),R b->(∀b a,a∈l->R b->R (f b a))->R (l.foldl f b)
 |[],_,h,_=>h
 |a::l,b,h,st=>oy R l (f b a) (st b a Vu h) λb c d=>st b c (Vw _ d)
theorem PW.writeAll{sz:Int}{p:PostT}(P:PW sz p){w:Int}(d:0<=w/\w<sz):PW sz (writeAll p w):=by
 unfold K13.writeAll;exact oy (PW sz) _ p P λb a c Q=>Q.write d (by rw[P.g.count]at c;exact nO c)
theorem uq(p:PostT)(w:Int):(writeAll p w).guild=p.guild:=oy (λq=>q.guild=p.guild) _ p rfl λb a _ h=>(iK b w a).trans h
theorem l3{sz:Int}{p:PostT}(P:PW sz p)(d:sz<=60)(w:Int)(b:0<=w/\w<sz):∃o,rQ p w=.ok () ⟨writeAll p w,w,o⟩:=by
 have nb:=qq p.guild w (by rw[P.g.count];exact b) (by rw[P.g.count];omega)
 obtain⟨i,e,o,rfl,_⟩:=lP (u:=λa s=>{s with voq:=some a}) (c:=j4) (λ(q:PostT) (s:S_bd9)=>∃o,s=⟨q,w,o⟩/\PW sz q) (λq r=>d6 q w r) (fU p.guild.hω p.guild.U w) p ⟨p,w,none⟩ ⟨none,rfl,P⟩ (by
  rintro q r s f ⟨o,rfl,Q⟩;obtain⟨j,h⟩:=nj Q d w r b
  exact⟨⟨d6 q w r,w,some r⟩,.inl (by simp[j4,h]),some r,rfl,Q.write b (by rw[P.g.count]at f;exact nO f)⟩)
 refine⟨o,?_⟩;unfold rQ yP wk writeAll;simp[nb,e]
def jD(h:Int)(F:DJ y9):Option (List Int):=if h=0 then some [0] else (sK (F.map (·.2))).map (·.2.2)
def dg(p:PostT)(h:Int):Bool×PostT:=if jD h (gE p h)=gj p.roads h then (false,p) else (true,writeAll {p with roads:=p.roads.set h.toNat (jD h (gE p h))} h)
theorem zi{p:PostT}{h:Int}(h0:0<=h)(a:h<p.standings.length):p.standings[h.toNat]?=some (gE p h):=by
 unfold gE;rw[List.getD_eq_getElem?_getD,List.getElem?_eq_getElem (by omega)];rfl
theorem qa{sz h:Int}{F:DJ y9}(h0:0<sz)(hF:∀q∈F,PathOk sz q.2.2.2){r:List Int}(e:jD h F=some r):PathOk sz r:=by
 unfold jD at e;split at e
 ·cases e;exact K9 h0
 ·obtain⟨k,b,rfl⟩:=VJ.mp e;obtain⟨q,a,rfl⟩:=VY.mp (Fk b);exact hF q a
theorem PW.st{sz:Int}{p:PostT}(P:PW sz p){h:Int}(a:0<=h/\h<sz):DJ.nd (gE p h)/\∀q∈gE p h,(0<=q.1/\q.1<sz)/\PathOk sz q.2.2.2:=
 P.stn _ (Wu (zi a.1 (by have:=P.sln;omega)))
theorem PW.set{sz:Int}{p:PostT}(P:PW sz p)(j:Nat)(o:Option (List Int))(a:∀r,o=some r->PathOk sz r):PW sz {p with roads:=p.roads.set j o}:=⟨P.g,P.roads.set j o a,P.told,P.wrt,P.lts,P.ltv,P.sln,P.stn⟩
theorem PW.choose{sz:Int}{p:PostT}(P:PW sz p)(h0:0<sz){h:Int}(a:0<=h/\h<sz):PW sz (dg p h).2:=by
 unfold dg;split
 ·exact P
 ·exact(P.set _ _ λr e=>qa h0 (λq b=>((P.st a).2 q b).2) e).writeAll a
theorem lw{sz:Int}{p:PostT}(P:PW sz p)(d:sz<=60)(h:Int)(a:0<=h/\h<sz):∃o,C1 p h=.ok (dg p h).1 ⟨(dg p h).2,h,o⟩:=by
 have J8:li p.roads h=some (gj p.roads h):=Ul a.1 (by have:=P.roads.len;omega);have c:p.standings[h.toNat]?=some (gE p h):=zi a.1 (by have:=P.sln;omega);have b:=uy h ((gE p h).map (·.2))
 have e1:tR ⟨p,h,none⟩=.nx ⟨p,h,some (jD h (gE p h))⟩:=by
  simp[tR,a.1,c,b,jD]
 unfold C1 Hj dg;simp only[ay,e1];by_cases q:jD h (gE p h)=gj p.roads h
 ·rw[Vq q];exact⟨some (jD h (gE p h)),by simp[tQ,mJ,J8,q]⟩
 ·rw[on q];have ix:oj p.roads.length h=some h.toNat:=O3 a.1 (by have:=P.roads.len;omega);have i:=P.set h.toNat (jD h (gE p h)) λr e=>qa (sz:=sz) (by omega) (λq f=>((P.st a).2 q f).2) e;obtain⟨o,g⟩:=l3 i d h a;exact⟨some (jD h (gE p h)),by simp[tQ,AN,AM,AK,J8,q,ix,g]⟩
def Gv(g:GΩ)(F:DJ y9)(w r:Int)(o:Option (List Int)):DJ y9:=if x6 (Ig g r) r o=true then DJ.put F w (fk g.lω g.wω (r::o.getD [])) else DJ.del F w
def vk(p:PostT)(w r:Int)(o:Option (List Int)):PostT:={p with told_last:=p.told_last.put [w,r] o,standings:=p.standings.set r.toNat (Gv p.guild (gE p r) w r o)}
def cH(p:PostT)(w r:Int):PostT:={p with letters:=p.letters.del [w,r],told_last:=p.told_last.del [w,r],written_last:=p.written_last.del [w,r],standings:=p.standings.set r.toNat (DJ.del (gE p r) w)}
theorem CI{X:Type}{F:DJ X}{k:Int}(h:DJ.get F k=none):DJ.del F k=F:=by
 unfold DJ.get at h;unfold DJ.del;rw[Option.map_eq_none_iff,List.find?_eq_none]at h;rw[List.filter_eq_self];exact λp hp=>by simpa using h p hp
theorem GW{X:Type}{F:DI X}{k:List Int}(h:F.get k=none):F.del k=F:=by
 unfold DI.get at h;unfold DI.del;rw[Option.map_eq_none_iff,List.find?_eq_none]at h;rw[List.filter_eq_self];exact λp hp=>by simpa using h p hp
theorem Fn{X:Type}{F:DJ X}{k:Int}{v:X}{q:Int×X}(h:q∈DJ.put F k v):q∈F\/q=(k,v):=by
 unfold DJ.put at h;split at h
 · obtain⟨p,hp,e⟩:=VY.mp h;by_cases z:p.1=k
   ·rw[Vq z]at e;rw[<-e,z];exact .inr rfl
   ·rw[on z]at e;rw[<-e];exact .inl hp
 · rcases VH.mp h with z|z
   ·exact .inl z
   ·exact .inr (VG.mp z)
theorem zh{p:PostT}{h:Int}(h0:0<=h)(a:h<p.standings.length):p.standings.set h.toNat (gE p h)=p.standings:=by
 refine X5 λi=>?_;rw[List.getElem?_set];split
 ·rename_i e;subst e;rw[Vq (by omega),zi h0 a]
 ·rfl
theorem ss{Z W X:Type}{g:Z->Option (DI (Option W))}{p:Z->DI (Option W)->Z}{ck:Z->Res (List Int)}{s:Z}(F:DI (Option W))(k:List Int)(c:g s=some F)(b:ck s=.ok k)(a:p s F=s):(aS (jG g p ck):Z->FlC Z X) s=.nx (p s (F.del k)):=by
 unfold aS jG;rw[c];dsimp only;rw[b];dsimp only[bndO];cases q:DI.get F k with
 |none=>rw[GW q,a];rfl
 |some x=>rfl
theorem Ao{Z W X:Type}{g:Z->Option (DJ W)}{p:Z->DJ W->Z}{ck:Z->Res Int}{s:Z}(F:DJ W)(k:Int)(c:g s=some F)(b:ck s=.ok k)(a:p s F=s):(aS (qZ g p ck):Z->FlC Z X) s=.nx (p s (DJ.del F k)):=by
 unfold aS qZ;rw[c];dsimp only;rw[b];dsimp only[bndO];cases q:DJ.get F k with
 |none=>rw[CI q,a];rfl
 |some x=>rfl
theorem LC{p:PostT}{h:Int}(h0:0<=h)(a:h<p.standings.length):(if 0<=h then p.standings[h.toNat]? else none)=some (gE p h):=by rw[Vq h0,zi h0 a]
theorem Iy{sz:Int}{F:DJ y9}(c:sz<=60)(h:DJ.nd F/\∀q∈F,(0<=q.1/\q.1<sz)/\PathOk sz q.2.2.2):F.length<=60:=by
 have nd:(List.map Prod.fst F).Nodup:=h.1
 have:=fh 60 _ nd λx a=>by
  obtain⟨q,b,rfl⟩:=VY.mp a
  have:=(h.2 q b).1
  omega
 rwa [Vs]at this
theorem IJ{sz:Int}{p:PostT}(P:PW sz p)(c:sz<=60)(w r:Int)(d:0<=r/\r<sz)(o:Option (List Int))(h:∀t,o=some t->PathOk sz t):Kk p w r o=.ok () ⟨vk p w r o,w,r,o⟩:=by
 have A:=i8 c P.told;have n:p.told_last.length<aq:=by unfold aq;omega
 have e1:tG ⟨p,w,r,o⟩=.nx ⟨{p with told_last:=p.told_last.put [w,r] o},w,r,o⟩:=by simp[tG,n]
 have i:r<p.standings.length:=by have:=P.sln;omega
 have j:=LC d.1 i;have b:=L8 p.guild r o λt e=>by have:=(h t e).len;unfold aq;omega
 have lst:=Iy c (P.st d);have m:(gE p r).length<aq:=by unfold aq;omega
 unfold Kk Hf vk Gv;simp only[ay,e1];by_cases q:x6 (Ig p.guild r) r o=true
 · rw[Vq q];cases o with
   |none=>cases q
   |some t=>
     have hp:=h t rfl
     have v:r∉t:=by
      have a:x8 (Ig p.guild r) r t=true:=by
       unfold x6 at q;revert q;simp
      unfold x8 at a;simp at a;exact a.1
     have u:=L9 p.guild (r::t) (by rw[P.g.count];exact hp.road d v) (by rw[P.g.count];omega);have z:=hp.len;have ct:([r]:List Int).length+t.length<=aq:=by unfold aq;simp;omega
     have l:1<=aq:=by unfold aq;omega
     have k:1+t.length<=aq:=by simpa using ct
     simp[tF,mH,b,q,l,k,u,j,m]
 · rw[on q];have a:x6 (Ig p.guild r) r o=false:=by simpa using q
   have f:=Ao (X:=Unit) (g:=gI (λs:S_x9=>some s.vuq.standings) (λs=>some s.voq)) (p:=pI (λs:S_x9=>some s.vuq.standings) (λs y=>{s with vuq:={s.vuq with standings:=y}}) (λs=>some s.voq)) (ck:=pC (·.vAq)) (s:=⟨{p with told_last:=p.told_last.put [w,r] o},w,r,o⟩) (gE p r) w j rfl (by
    show S_x9.mk _ w r o=_
    rw[zh d.1 i])
   unfold tF mI
   have x:(bj (lE wH (bD (λg=>.ok g.guild) (pC (·.vuq))) (pC (·.voq)) (pC (·.vrq))):S_x9->OutC S_x9 Bool) ⟨{p with told_last:=p.told_last.put [w,r] o},w,r,o⟩=.ok false ⟨{p with told_last:=p.told_last.put [w,r] o},w,r,o⟩:=by
    simp[b,a]
   unfold jQ;rw[x];show bP (some ()) ((aS _:S_x9->FlC S_x9 Unit) _)=_;rw[f];rfl
theorem PW.hear{sz:Int}{p:PostT}(P:PW sz p){w r:Int}(c:0<=w/\w<sz)(a:0<=r/\r<sz)(o:Option (List Int))(e:∀t,o=some t->PathOk sz t):PW sz (vk p w r o):=by
 have k:PairOk sz [w,r]:=⟨w,r,rfl,c.1,c.2,a.1,a.2⟩;refine⟨P.g,P.roads,⟨gy P.told.1,eM (P:=PairOk sz) P.told.2 k⟩,P.wrt,P.lts,P.ltv,by show((p.standings.set _ _).length:Int)=sz;rw[VT];exact P.sln,λF hF=>?_⟩;rcases WX hF with z|z
 ·exact P.stn F z
 · subst z;unfold Gv;split
   · rename_i q;cases o with
     |none=>cases q
     |some t=>
       have hp:=e t rfl
       have f:r∉t:=by
        have b:x8 (Ig p.guild r) r t=true:=by
         unfold x6 at q;revert q;simp
        unfold x8 at b;simp at b;exact b.1
       refine⟨Js (P.st a).1,λq d=>?_⟩;rcases Fn d with z|z
       ·exact(P.st a).2 q z
       ·subst z;exact⟨c,(hp.road a f).path⟩
   ·exact⟨z9 (P.st a).1,λq d=>(P.st a).2 q (WK.mp d).1⟩
theorem qC{sz:Int}{p:PostT}(P:PW sz p)(w r:Int)(a:0<=r/\r<sz):HY p w r=.ok () ⟨cH p w r,w,r⟩:=by
 have b:r<p.standings.length:=by have:=P.sln;omega
 have e1:tK ⟨p,w,r⟩=.nx ⟨{p with letters:=p.letters.del [w,r]},w,r⟩:=by unfold tK;exact ss p.letters [w,r] rfl rfl rfl
 have e:tJ ⟨{p with letters:=p.letters.del [w,r]},w,r⟩=.nx ⟨{p with letters:=p.letters.del [w,r],told_last:=p.told_last.del [w,r]},w,r⟩:=by unfold tJ;exact ss p.told_last [w,r] rfl rfl rfl
 have d:tI ⟨{p with letters:=p.letters.del [w,r],told_last:=p.told_last.del [w,r]},w,r⟩=.nx ⟨{p with letters:=p.letters.del [w,r],told_last:=p.told_last.del [w,r],written_last:=p.written_last.del [w,r]},w,r⟩:=by unfold tI;exact ss p.written_last [w,r] rfl rfl rfl
 have c:tH ⟨{p with letters:=p.letters.del [w,r],told_last:=p.told_last.del [w,r],written_last:=p.written_last.del [w,r]},w,r⟩=.nx ⟨cH p w r,w,r⟩:=by
  unfold tH
  exact Ao (gE p r) w (LC a.1 b) rfl (by
   show S_w9.mk _ w r=_
   rw[zh a.1 b])
 unfold HY Hg;simp only[ay,e1,e,d,c];rfl
theorem PW.forget{sz:Int}{p:PostT}(P:PW sz p)(w r:Int)(b:0<=r/\r<sz):PW sz (cH p w r):=by
 refine⟨P.g,P.roads,⟨lH P.told.1,λq a=>P.told.2 q (gf a)⟩,⟨lH P.wrt.1,λq a=>P.wrt.2 q (gf a)⟩,⟨lH P.lts.1,λq a=>P.lts.2 q (gf a)⟩,λq a=>P.ltv q (gf a),by show((p.standings.set _ _).length:Int)=sz;rw[VT];exact P.sln,λF hF=>?_⟩;rcases WX hF with z|z
 ·exact P.stn F z
 ·subst z;exact⟨z9 (P.st b).1,λq a=>(P.st b).2 q (WK.mp a).1⟩
def f7(p:PostT)(a b:Int):Bool×PostT:=dg (vk {p with letters:=p.letters.del [a,b]} a b ((p.letters.get [a,b]).bind id)) b
theorem PW.del{sz:Int}{p:PostT}(P:PW sz p)(k:List Int):PW sz {p with letters:=p.letters.del k}:=⟨P.g,P.roads,P.told,P.wrt,⟨lH P.lts.1,λq a=>P.lts.2 q (gf a)⟩,λq a=>P.ltv q (gf a),P.sln,P.stn⟩
theorem PW.pair{sz:Int}{p:PostT}(P:PW sz p){a b:Int}{o:Option (List Int)}(h:p.letters.get [a,b]=some o):(0<=a/\a<sz)/\(0<=b/\b<sz)/\∀t,o=some t->PathOk sz t:=by
 have d:=vn h;obtain⟨x,y,e,j,i,g,f⟩:=P.lts.2 _ d;injection e with e1 c
 injection c with c
 subst e1 c;exact⟨⟨j,i⟩,⟨g,f⟩,λt e=>P.ltv _ d t e⟩
theorem PW.carry{sz:Int}{p:PostT}(P:PW sz p)(h0:0<sz){a b:Int}{o:Option (List Int)}(h:p.letters.get [a,b]=some o):PW sz (f7 p a b).2:=by
 obtain⟨e,c,d⟩:=P.pair h;unfold f7;rw[h];exact((P.del [a,b]).hear e c o d).choose h0 c
theorem uw{sz:Int}{p:PostT}(P:PW sz p)(c:sz<=60){a b:Int}{o:Option (List Int)}(h:p.letters.get [a,b]=some o):H0 p a b=.ok (f7 p a b).1 ⟨(f7 p a b).2,a,b⟩:=by
 obtain⟨f,d,e⟩:=P.pair h;have j:=lv p.guild [a,b] (by rw[P.g.count];exact UL f d) (by rw[P.g.count];omega);have i:2<=aq:=by unfold aq;omega
 have e1:tV ⟨p,a,b⟩=.nx ⟨p,a,b⟩:=by simp[tV,j,i]
 have m:tU ⟨p,a,b⟩=.nx ⟨p,a,b⟩:=by simp[tU,h]
 have k:=IJ (P.del [a,b]) c a b d o e;have l:tT ⟨p,a,b⟩=.nx ⟨vk {p with letters:=p.letters.del [a,b]} a b o,a,b⟩:=by simp[tT,h,k]
 obtain⟨n,ch⟩:=lw ((P.del [a,b]).hear f d o e) c b d;unfold H0 Hl f7;rw[h];simp only[ay,e1,m,l];simp[AQ,ch]
def ge(p:PostT):PostT:=match p.letters with
 |[]=>p
 |q::_=>(f7 p (q.1.getD 0 0) (q.1.getD 1 0)).2
theorem PW.first{sz:Int}{p:PostT}(P:PW sz p){q:List Int×Option (List Int)}{t:DI (Option (List Int))}(e:p.letters=q::t):∃a b,q.1=[a,b]/\p.letters.get [a,b]=some q.2:=by
 have c:q∈p.letters:=by rw[e];exact Vu
 obtain⟨a,b,d,_⟩:=P.lts.2 q c;exact⟨a,b,d,h9 P.lts.1 (by rw[<-d];exact c)⟩
theorem PW.next{sz:Int}{p:PostT}(P:PW sz p)(h0:0<sz):PW sz (ge p):=by
 unfold ge;cases e:p.letters with
 |nil=>exact P
 |cons q t=>
   obtain⟨a,b,d,c⟩:=P.first e;dsimp only;rw[d];exact P.carry h0 c
theorem zj{sz:Int}{p:PostT}(P:PW sz p)(d:sz<=60)(c:p.letters≠[]):∃b o,HZ p=.ok b ⟨ge p,o⟩:=by
 cases e:p.letters with
 |nil=>exact absurd e c
 |cons q t=>
   obtain⟨a,b,f,g⟩:=P.first e
   have h:(Kl p).res=.ok [a,b]:=by
    unfold Kl Hh;simp[AI,e,f]
   have e1:tS ⟨p,none⟩=.nx ⟨p,some [a,b]⟩:=by simp[tS,h]
   have i:=uw P d g;refine⟨(f7 p a b).1,some [a,b],?_⟩;unfold HZ Hk ge;rw[e];dsimp only;rw[f];simp only[ay,e1];simp[AO,J8,UQ,i]
def a6:Nat->PostT->Nat×PostT
 |0,p=>(0,p)
 |n+1,p=>if p.letters=[] then (0,p) else ((a6 n (ge p)).1+1,(a6 n (ge p)).2)
theorem l4{sz:Int}(h0:0<sz)(d:sz<=60)(a:Int):∀(n fuel:Nat) (c:Int) (p:PostT),PW sz p->n<fuel->c+n=a->
 C5 (bj (qd (a9 F2 (vC λp:S_z9=>p.v3q) (pC (·.vhq))) (a9 Gy (bD Al (bD (λg=>.ok g.letters) (pC (·.vuq)))) (kC (0:Int))))) nc fuel ⟨p,a,some c⟩=.nx ⟨(a6 n p).2,a,some (c+(a6 n p).1)⟩
 |n,0,c,p,P,h,i=>absurd h (Xs _)
 | 0,f+1,c,p,P,h,i=>by
   have:¬ c<a:=by omega
   unfold C5;simp[this,a6]
 | n+1,f+1,c,p,P,h,i=>by
   have lt:c<a:=by omega
   unfold C5 a6;by_cases q:p.letters=[]
   ·rw[Vq q];simp[lt,q]
   · rw[on q]
     have l:0<p.letters.length:=by
      cases e:p.letters with
      |nil=>exact absurd e q
      |cons _ _=>simp
     obtain⟨b,o,nx⟩:=zj P d q;have k:=l4 h0 d a n f (c+1) (ge p) (P.next h0) (by omega) (by omega)
     have bd:nc ⟨p,a,some c⟩=.nx ⟨ge p,a,some (c+1)⟩:=by
      unfold nc;simp[rF,rE,nx]
     have j:(bj (qd (a9 F2 (vC λp:S_z9=>p.v3q) (pC (·.vhq))) (a9 Gy (bD Al (bD (λg=>.ok g.letters) (pC (·.vuq)))) (kC (0:Int))))) ⟨p,a,some c⟩=.ok true (⟨p,a,some c⟩:S_z9):=by
      have:(0:Int)<p.letters.length:=by omega
      simp[lt,l]
     rw[j];dsimp only;rw[bd];dsimp only;rw[k]
     have:c+1+((a6 n (ge p)).1:Int)=c+(((a6 n (ge p)).1+1:Nat):Int):=by omega
     rw[this]
theorem BN{sz:Int}{p:PostT}(P:PW sz p)(h0:0<sz)(a:sz<=60)(n:Nat)(d:n<1000):Ki p n=.ok ((a6 n p).1:Int) ⟨(a6 n p).2,n,some ((a6 n p).1:Int)⟩:=by
 have b:=l4 h0 a n n 100000 0 p P (by omega) (by omega);rw[Int.zero_add]at b;unfold Ki Hd;have e1:tu ⟨p,n,none⟩=.nx ⟨p,n,some 0⟩:=by simp[tu]
 have c:tp ⟨p,n,some 0⟩=.nx ⟨(a6 n p).2,n,some ((a6 n p).1:Int)⟩:=by unfold tp;exact b
 simp only[ay,e1,c];simp[AH]
theorem PW.settle{sz:Int}(h0:0<sz):∀(n:Nat) {p:PostT},PW sz p->PW sz (a6 n p).2
 |0,p,P=>P
 | n+1,p,P=>by
   unfold a6;split
   ·exact P
   ·exact PW.settle h0 n (P.next h0)
theorem qD:∀(n:Nat) (p:PostT),(a6 n p).1<=n
 |0,p=>VE _
 | n+1,p=>by
   unfold a6;split
   ·exact WD _
   ·exact Nat.succ_le_succ (qD n _)
theorem nl:∀(n:Nat) (p:PostT),(a6 n p).1<n->(a6 n p).2.letters=[]
 |0,p,h=>absurd h (Xs _)
 | n+1,p,h=>by
   unfold a6 at h ⊢;split
   ·assumption
   ·rename_i q;rw[on q]at h;exact nl n _ (by simpa using h)
theorem Dv(o:Option (List Int)):(qk o).res=.ok o:=by
 unfold qk yN;cases o with
 |none=>simp[pO,k9]
 |some r=>simp[pO,wg]
def b6(p:PostT):List (Int×Int×Option (List Int)):=p.letters.map λq=>(q.1.getD 0 0,q.1.getD 1 0,q.2)
theorem jH{sz:Int}{p:PostT}(P:PW sz p)(d:sz<=60):(mO p).res=.ok (b6 p):=by
 have l2:=i8 d P.lts
 have c:=pU (Z:=S_bb9) (src:=bD qX (bD (λg=>.ok g.letters) (pC (·.vuq)))) (te:=iJ (a9 q8 (pC λp=>p.1) (kC (0:Int))) (iJ (a9 q8 (pC λp=>p.1) (kC (1:Int))) (jK qk (a9 Qv (bD (λg=>.ok g.letters) (pC λp=>p.2.vuq)) (pC λp=>p.1))))) (s:=⟨p⟩) (l:=p.letters.map (·.1)) (λk=>(k.getD 0 0,k.getD 1 0,(p.letters.get k).bind id)) rfl (by rw[List.length_map];unfold aq;omega) (λk j=>by
  obtain⟨v,f,i⟩:=sP P.lts.1 j;obtain⟨a,b,e,_⟩:=P.lts.2 _ i;have e:k=[a,b]:=e;subst e
  simp[J8,UQ,f,Dv])
 unfold mO yR wo;simp only[bX,bj,c];simp only[JZ,bP,MS];congr 1;unfold b6;rw[List.map_map];refine List.map_congr_left λq h=>?_
 have:=h9 P.lts.1 (show(q.1,q.2)∈p.letters from h)
 show(q.1.getD 0 0,q.1.getD 1 0,(p.letters.get q.1).bind id)=_;rw[this];rfl
theorem Ds{sz:Int}{p:PostT}(P:PW sz p)(a:sz<=60):(wM p).res=.ok p.roads:=by
 have b:=P.roads.len;have c:=pU (Z:=S_ba9) (src:=bD (λg=>.ok g.roads) (pC (·.vuq))) (te:=jK qk (pC λp=>p.1)) (s:=⟨p⟩) (l:=p.roads) (λo=>o) rfl (by unfold aq;omega) (λo _=>by simp[Dv]);unfold wM yS wp;simp only[bX,bj,c];simp
theorem uo{p:PostT}:b6 p=[]↔p.letters=[]:=by unfold b6;exact List.map_eq_nil_iff
theorem ip(p:PostT)(h:Int):(dg p h).2.guild=p.guild:=by
 unfold dg;split
 ·rfl
 ·exact uq _ _
theorem wy(p:PostT)(a b:Int):(f7 p a b).2.guild=p.guild:=by unfold f7;rw[ip];rfl
def iz(p:PostT)(a b:Int):PostT:={p with guild:={p.guild with U:=(p.guild.U.del [a,b]).del [b,a]}}
def va(p:PostT)(a b:Int):PostT:={p with guild:={p.guild with U:=(p.guild.U.put [a,b] true).put [b,a] true}}
def mC(p:PostT)(a b:Int):PostT:=(dg (dg (cH (cH (iz p a b) a b) b a) (min a b)).2 (max a b)).2
def l8(p:PostT)(a b:Int):PostT:=d6 (d6 (va p a b) (min a b) (max a b)) (max a b) (min a b)
theorem PW.guild{sz:Int}{p:PostT}(P:PW sz p){g:GΩ}(a:Wf sz g):PW sz {p with guild:=g}:=⟨a,P.roads,P.told,P.wrt,P.lts,P.ltv,P.sln,P.stn⟩
theorem Ab{a b sz:Int}(d:0<=a/\a<sz)(c:0<=b/\b<sz):(0<=min a b/\min a b<sz)/\(0<=max a b/\max a b<sz):=by omega
theorem PW.fall{sz:Int}{p:PostT}(P:PW sz p){a b:Int}(d:0<=a/\a<sz)(c:0<=b/\b<sz):PW sz (mC p a b):=by
 obtain⟨f,e⟩:=Ab d c;have h0:0<sz:=by omega
 exact((((P.guild (P.g.lift a b)).forget a b c).forget b a d).choose h0 f).choose h0 e
theorem PW.rise{sz:Int}{p:PostT}(P:PW sz p){a b:Int}(f:0<=a/\a<sz)(e:0<=b/\b<sz):PW sz (l8 p a b):=by
 obtain⟨d,c⟩:=Ab f e;exact((P.guild (P.g.lay f e)).write d c).write c d
theorem yp(p:PostT)(a b:Int):(mC p a b).guild=(iz p a b).guild:=by
 unfold mC;rw[ip,ip];rfl
theorem w9(p:PostT)(a b:Int):(l8 p a b).guild=(va p a b).guild:=by
 unfold l8;rw[iK,iK]
theorem IL{sz:Int}{p:PostT}(P:PW sz p)(c:sz<=60){a b:Int}(e:0<=a/\a<sz)(d:0<=b/\b<sz)(h:a≠b)(o:(p.guild.U.get [a,b]).isSome=true)(f:(p.guild.U.get [b,a]).isSome=true):Km p a b=.ok () ⟨mC p a b,a,b⟩:=by
 obtain⟨i,n⟩:=Ab e d;have h0:0<sz:=by omega
 have m:=II p.guild a b (by rw[P.g.count];exact e) (by rw[P.g.count];exact d) h o f;have W:PW sz (iz p a b):=P.guild (P.g.lift a b);have r:=qC W a b d;have j:=W.forget a b d;have q:=qC j b a e;have P3:=j.forget b a e;obtain⟨A,x⟩:=lw P3 c (min a b) i;have y:=P3.choose h0 i;obtain⟨z,w⟩:=lw y c (max a b) n;have l:(if b<a then b else a)=min a b:=by rw[Int.min_def];split<;>split<;>omega
 have k:(if a<b then b else a)=max a b:=by rw[Int.max_def];split<;>split<;>omega
 have e1:tP ⟨p,a,b⟩=.nx ⟨iz p a b,a,b⟩:=by simp[tP,m,iz]
 have v:tO ⟨iz p a b,a,b⟩=.nx ⟨cH (iz p a b) a b,a,b⟩:=by simp[tO,r]
 have u:tN ⟨cH (iz p a b) a b,a,b⟩=.nx ⟨cH (cH (iz p a b) a b) b a,a,b⟩:=by simp[tN,q]
 have t:tM ⟨cH (cH (iz p a b) a b) b a,a,b⟩=.nx ⟨(dg (cH (cH (iz p a b) a b) b a) (min a b)).2,a,b⟩:=by simp[tM,l,x]
 have s:tL ⟨(dg (cH (cH (iz p a b) a b) b a) (min a b)).2,a,b⟩=.nx ⟨mC p a b,a,b⟩:=by simp[tL,k,w,mC]
 unfold Km Hi;simp only[ay,e1,v,u,t,s];rfl
theorem IE{sz:Int}{p:PostT}(P:PW sz p)(c:sz<=60){a b:Int}(f:0<=a/\a<sz)(e:0<=b/\b<sz)(d:a≠b)(m:p.guild.U.get [a,b]=none):Kj p a b=.ok () ⟨l8 p a b,a,b⟩:=by
 obtain⟨k,j⟩:=Ab f e;have t:=i8 c P.g.U;have l:=Du p.guild a b (by rw[P.g.count];exact f) (by rw[P.g.count];exact e) d m (by unfold aq;omega);have W:PW sz (va p a b):=P.guild (P.g.lay f e);obtain⟨v,r⟩:=nj W c (min a b) (max a b) k;have s:=W.write k j;obtain⟨u,q⟩:=nj s c (max a b) (min a b) j;have i:(if b<a then b else a)=min a b:=by rw[Int.min_def];split<;>split<;>omega
 have h:(if a<b then b else a)=max a b:=by rw[Int.max_def];split<;>split<;>omega
 have e1:tE ⟨p,a,b⟩=.nx ⟨va p a b,a,b⟩:=by simp[tE,l,va]
 have o:tD ⟨va p a b,a,b⟩=.nx ⟨d6 (va p a b) (min a b) (max a b),a,b⟩:=by simp[tD,i,h,r]
 have n:tz ⟨d6 (va p a b) (min a b) (max a b),a,b⟩=.nx ⟨l8 p a b,a,b⟩:=by simp[tz,i,h,q,l8]
 unfold Kj He;simp only[ay,e1,o,n];rfl
theorem PW.new{g:GΩ}{sz:Int}(h:Wf sz g)(c:1<=sz):PW sz (d8 g sz.toNat):=by
 refine⟨h,⟨?_,λr b=>?_⟩,⟨by unfold DI.nd;exact List.Pairwise.nil,λq a=>(nomatch a)⟩,⟨by unfold DI.nd;exact List.Pairwise.nil,λq a=>(nomatch a)⟩,⟨by unfold DI.nd;exact List.Pairwise.nil,λq a=>(nomatch a)⟩,λq a=>(nomatch a),?_,λF hF=>?_⟩
 ·show(((List.replicate sz.toNat none).set 0 (some [0])).length:Int)=sz;rw[VT,Xf];omega
 · rcases WX b with z|z
   ·have:=(List.mem_replicate.mp z).2;cases this
   ·cases z;exact K9 (by omega)
 ·show((List.replicate sz.toNat ([]:DJ y9)).length:Int)=sz;rw[Xf];omega
 · have:=(List.mem_replicate.mp hF).2
   subst this;exact⟨by unfold DJ.nd;exact List.Pairwise.nil,λq a=>(nomatch a)⟩
def newP(g:GΩ):PostT:=writeAll (d8 g g.hω.toNat) 0
theorem IG{g:GΩ}{sz:Int}(h:Wf sz g)(d:Hs g)(f:1<=sz)(a:sz<=60):mk_Post g=.ok (newP g):=by
 have e:=h.count;obtain⟨s,c⟩:=IB (by omega) (by omega) d;have P:=PW.new h f;obtain⟨o,b⟩:=l3 P a 0 (by omega);unfold mk_Post newP;rw[c];dsimp only;rw[if_pos (by omega),e,b]
theorem PW.newP{g:GΩ}{sz:Int}(h:Wf sz g)(a:1<=sz):PW sz (newP g):=by
 unfold K13.newP;rw[h.count];exact(PW.new h a).writeAll (by omega)
theorem Cc(g:GΩ):(newP g).guild=g:=by unfold newP;exact uq _ _
theorem C6{sz:Int}(f:sz<=60){W:T0}(nd:W.Nodup)(all:∀p∈W,0<=p.1/\p.1<p.2/\p.2<sz):W.length<=3600:=by
 have:=fh 3600 (W.map λp=>p.1*60+p.2) (by
  unfold List.Nodup;rw[List.pairwise_map];refine List.Pairwise.imp_of_mem ?_ nd;intro p c hp a b e;have g:=all p hp;have h:=all c a;exact b (Prod.ext (by omega) (by omega))) (λx d=>by
  obtain⟨p,hp,rfl⟩:=VY.mp d;have g:=all p hp
  omega)
 rwa [Vs]at this
theorem Im{sz:Int}{p:PostT}(P:PW sz p){i:Nat}(hi:i<(b6 p).length):∃a b o,(b6 p)[i]?=some (a,b,o)/\p.letters.get [a,b]=some o:=by
 have c:i<p.letters.length:=by unfold b6 at hi;rwa [List.length_map]at hi
 have d:p.letters[i]∈p.letters:=List.getElem_mem c;obtain⟨a,b,e,_⟩:=P.lts.2 _ d;refine⟨a,b,p.letters[i].2,?_,h9 P.lts.1 (by rw[<-e];exact d)⟩;unfold b6;rw[List.getElem?_map,List.getElem?_eq_getElem c];simp[e]
theorem IM{sz:Int}{p:PostT}{W:T0}{L Q:DI Int}{X:T0}(P:PW sz p)(G:GuildIs p.guild sz W L Q X)(d:WaysOk sz W)(Z:1<=sz)(g:sz<=60)(c:Int):
 ∃j h s,wK p W sz c=.ok () s/\s.vmq=j/\s.vyq=h/\PW sz j/\GuildIs j.guild sz h L Q X/\WaysOk sz h:=by
 have e:0<sz:=by omega
 have w:sz<1073741824:=by omega
 have t:0<=c / 5%sz:=V0 _ (by omega);have r:c / 5%sz<sz:=VS _ e;have n:0<=c / 5 / sz%sz:=V0 _ (by omega);have m:c / 5 / sz%sz<sz:=VS _ e;have e1:o7 ⟨p,W,sz,c,none,none,none,none,none⟩=.nx ⟨p,W,sz,c,some (c / 5%sz),none,none,none,none⟩:=by simp[o7,e]
 have R:o6 ⟨p,W,sz,c,some (c / 5%sz),none,none,none,none⟩=.nx ⟨p,W,sz,c,some (c / 5%sz),some (c / 5 / sz%sz),none,none,none⟩:=by simp[o6,e,w]
 generalize c / 5%sz=a at *;generalize c / 5 / sz%sz=b at *;have F:=jH P g;have O:o5 ⟨p,W,sz,c,some a,some b,none,none,none⟩=.nx ⟨p,W,sz,c,some a,some b,some (b6 p),none,none⟩:=by simp[o5,F]
 have D:(if b<a then b else a)=min a b:=by rw[Int.min_def];split<;>split<;>omega
 have C:(if a<b then b else a)=max a b:=by rw[Int.max_def];split<;>split<;>omega
 have Y:=G.count;unfold wK yJ;simp only[ay,e1,R,O]
 have line:∃j h s,bP (some ()) (cW ⟨p,W,sz,c,some a,some b,some (b6 p),none,none⟩)=.ok () s/\s.vmq=j/\s.vyq=h/\PW sz j/\GuildIs j.guild sz h L Q X/\WaysOk sz h:=by
  by_cases q:0<((b6 p).length:Int)
  · have K:0<=c / 5%((b6 p).length:Int):=V0 _ (by omega);have V:c / 5%((b6 p).length:Int)<(b6 p).length:=VS _ q;obtain⟨x,y,o,M,E⟩:=Im P (i:=(c / 5%((b6 p).length:Int)).toNat) (by omega);have at_:li (b6 p) (c / 5%((b6 p).length:Int))=some (x,y,o):=by rw[lW _ K];exact M
    have S:=uw P g E;have u:0<(b6 p).length:=by omega
    refine⟨(f7 p x y).2,W,⟨(f7 p x y).2,W,sz,c,some a,some b,some (b6 p),none,some (x,y,o)⟩,?_,rfl,rfl,P.carry e E,by rw[wy];exact G,d⟩;simp[cW,gY,gX,u,at_,S]
  · have u:¬ 0<(b6 p).length:=by omega
    exact⟨p,W,⟨p,W,sz,c,some a,some b,some (b6 p),none,none⟩,by simp[cW,u],rfl,rfl,P,G,d⟩
 by_cases k:2<c%5
 · by_cases f:a=b
   · have A:f6 ⟨p,W,sz,c,some a,some b,some (b6 p),none,none⟩=cW ⟨p,W,sz,c,some a,some b,some (b6 p),none,none⟩:=by
      unfold f6;simp[k,f]
     rw[A];exact line
   · by_cases q:(min a b,max a b)∈W
     ·obtain⟨h,J,I,H,B⟩:=Er q d.nd;have sp:=IL P g ⟨t,r⟩ ⟨n,m⟩ f ((G.way a b).mpr ((lF d a b).mpr q)) ((G.way b a).mpr ((lF d a b).mpr q).symm);refine⟨mC p a b,h,⟨mC p a b,h,sz,c,some a,some b,some (b6 p),some (min a b,max a b),none⟩,?_,rfl,rfl,P.fall ⟨t,r⟩ ⟨n,m⟩,by rw[yp];exact G.lift d a b B,⟨I,λp hp=>d.all p ((B p).mp hp).1,VW H d.len⟩⟩;simp[f6,ii,ig,gT,gS,k,f,D,C,q,sp,J]
     · have N:p.guild.U.get [a,b]=none:=by
        cases z:p.guild.U.get [a,b] with
        |none=>rfl
        |some v=>exact absurd ((lF d a b).mp ((G.way a b).mp (by rw[z];rfl))) q
       have sp:=IE P g ⟨t,r⟩ ⟨n,m⟩ f N;have T:=C6 g d.nd d.all;have ap:=ui (l:=W) (x:=(min a b,max a b)) (by unfold aq;omega);refine⟨l8 p a b,W++[(min a b,max a b)],⟨l8 p a b,W++[(min a b,max a b)],sz,c,some a,some b,some (b6 p),some (min a b,max a b),none⟩,?_,rfl,rfl,P.rise ⟨t,r⟩ ⟨n,m⟩,by rw[w9];exact G.lay a b,⟨jN d.nd q,λp hp=>?_,by rw[List.length_append];simp;omega⟩⟩
       ·simp[f6,ii,ig,gW,gU,k,f,D,C,q,sp,ap]
       · rcases VH.mp hp with z|z
         ·exact d.all p z
         ·rw[VG.mp z];simp only;omega
 · have A:f6 ⟨p,W,sz,c,some a,some b,some (b6 p),none,none⟩=cW ⟨p,W,sz,c,some a,some b,some (b6 p),none,none⟩:=by
    unfold f6;simp[k]
   rw[A];exact line
def D2:List (List Int):=(GH 6 [0,1,2,3,4,5]).filter λr=>r.getLast?==some 0
theorem JJ:((EN 6).map cX).Nodup:=by decide +kernel
theorem JI:(D2.map cX).Nodup:=by decide +kernel
theorem Cf{sz:Int}(h:sz<=6){r:List Int}(a:RoadOk sz r):r∈D2:=by
 refine WK.mpr ⟨rj 6 _ r a.nd (λx b=>?_) (by have:=a.len;omega),by rw[a.last];rfl⟩
 have:=a.all x b
 have:x=0\/x=1\/x=2\/x=3\/x=4\/x=5:=by omega
 simp only[VA,List.not_mem_nil,or_false];exact this
theorem Hs.of{sz:Int}{g:GΩ}(h:Wf sz g)(c:sz<=6):Hs g:=by
 have a:∀{X:Type} {F:DI X},(DI.nd F/\∀p∈F,PairOk sz p.1)->((F.map (·.1)).map cX).Nodup:=λ{X F} hF=>nH JJ hF.1 λk b=>by
  obtain⟨p,hp,rfl⟩:=VY.mp b;exact Cg ((hF.2 p hp).mono c)
 exact⟨a h.U,a h.lik,a h.shn,nH JI h.wsh.1 λk b=>by
  obtain⟨p,hp,rfl⟩:=VY.mp b
  exact Cf c (h.wsh.2 p hp)⟩
theorem z7{Z X:Type}{a b:Z->FlC Z X}{s c:Z}(h:a s=.nx c):ay a b s=b c:=by unfold ay;rw[h]
def nextN:Nat->PostT->PostT
 |0,p=>p
 |k+1,p=>nextN k (ge p)
theorem nL:∀(k:Nat) (p:PostT),nextN (k+1) p=ge (nextN k p)
 |0,p=>rfl
 |k+1,p=>nL k (ge p)
theorem PW.nextN{sz:Int}(h0:0<sz):∀(k:Nat) {p:PostT},PW sz p->PW sz (nextN k p)
 |0,p,P=>P
 |k+1,p,P=>PW.nextN h0 k (P.next h0)
theorem l5:∀(n:Nat) (p:PostT),(a6 n p).2=nextN (a6 n p).1 p/\∀j,j<(a6 n p).1->(nextN j p).letters≠[]
 |0,p=>⟨rfl,λj h=>absurd h (Xs _)⟩
 | n+1,p=>by
   unfold a6;split
   ·exact⟨rfl,λj h=>absurd h (Xs _)⟩
   · rename_i q;obtain⟨b,a⟩:=l5 n (ge p);refine⟨b,λj h=>?_⟩;cases j with
     |zero=>exact q
     |succ j=>exact a j (by simpa using h)
theorem nk{sz:Int}{p:PostT}(P:PW sz p)(h0:0<sz)(d:sz<=60)(n:Nat)(A:n<1000):∃s,qj p p n=.ok true s/\s.vmq=(a6 n p).2/\s.viq=(a6 n p).2:=by
 have st:=BN P h0 d n A;have H:=qD n p;have C:=nl n p;obtain⟨y,ne⟩:=l5 n p;have Q:=PW.settle h0 n P;generalize (a6 n p).1=k at *;generalize (a6 n p).2=q at *;have g:=jH Q d;have v:=Ds Q d;have l:¬ ((k:Int)<0):=by omega
 have F:¬ ((n:Int)<(k:Int)):=by omega
 have j:¬ n<k:=by omega
 have e1:pA ⟨p,p,n,none,none⟩=.nx ⟨q,p,n,some k,none⟩:=by simp[pA,st]
 have E:pz ⟨q,p,n,some k,none⟩=.nx ⟨q,p,n,some k,none⟩:=by simp[pz,Dr,l,j]
 have D:kY ⟨q,p,n,some k,none⟩=.nx ⟨q,p,n,some k,none⟩:=by
  by_cases z:k<n
  ·have t:b6 q=[]:=uo.mpr (C z);simp[kY,z,g,t]
  ·simp[kY,z]
 obtain⟨G,i,e,rfl⟩:=c9 (u:=λa s=>{s with vcq:=some a}) (c:=pZ) (λpre (s:S_bi9)=>∃e,s=⟨q,nextN pre.length p,n,some k,e⟩) (dk 0 k) ⟨q,p,n,some k,none⟩ ⟨none,rfl⟩ (by
  rintro pre a r s B ⟨e,rfl⟩
  have h:pre.length<k:=by
   have:=congrArg List.length B
   rw[bU,Vy,Vx]at this;omega
  have R:=PW.nextN h0 pre.length P;have m:=jH R d;have w:b6 (nextN pre.length p)≠[]:=λz=>ne _ h (uo.mp z);obtain⟨b,o,nx⟩:=zj R d (ne _ h);refine⟨⟨q,nextN (pre++[a]).length p,n,some k,some a⟩,.inl ?_,some a,rfl⟩;rw[List.length_append,List.length_singleton,nL];unfold pZ
  simp[pq,ph,m,w,nx])
 have x:(dk 0 (k:Int)).length=k:=by rw[bU];omega
 rw[x,<-y]at i
 have f:pw ⟨q,p,n,some k,none⟩=.nx ⟨q,q,n,some k,e⟩:=by
  unfold pw;simp[fG (lo:=0) (hi:=(k:Int)) (by omega) (by omega) (by omega) (by omega),i]
 refine⟨⟨q,q,n,some k,e⟩,?_,rfl,rfl⟩;unfold qj yK;rw[z7 e1,z7 E,z7 D,z7 f];simp[wc,v,g]
theorem yy(ns:List Int):∃s,Ib ns=.ok true s:=by
 have cell:∀k:Int,0<=k->(iG ns k).res=.ok (bZ ns k):=IP ns;have m6:0<=bZ ns 0%6/\bZ ns 0%6<6:=⟨V0 _ (by omega),VS _ (by omega)⟩;have e1:pM ⟨ns,none,none,none,none,none,none,none,none⟩=.nx ⟨ns,some (1+bZ ns 0%6),none,none,none,none,none,none,none⟩:=by simp[pM,cell]
 obtain⟨sz,hsz⟩:∃sz,sz=1+bZ ns 0%6:=⟨_,rfl⟩;rw[<-hsz]at e1;have j:1<=sz:=by omega
 have H:sz<=6:=by omega
 have e:sz<=60:=by omega
 obtain⟨W,L,y⟩:=IA (bZ ns 1) sz j e;have e2:pL ⟨ns,some sz,none,none,none,none,none,none,none⟩=.nx ⟨ns,some sz,some W,none,none,none,none,none,none⟩:=by simp[pL,cell,L]
 obtain⟨Z,N,f1,J,I⟩:=IK (bZ ns 2) sz (by omega);obtain⟨Y,O,d1,d2,d3⟩:=IN (bZ ns 3) sz (by omega) (by omega);obtain⟨X,K,y1,A,z⟩:=L7 (bZ ns 4) sz (by omega);obtain⟨g,M,G,_,l⟩:=BQ (sz:=sz) (U:=W) (Z:=Z) (Y:=Y) (X:=X) ⟨⟨by omega,by omega⟩,y,⟨by omega,J,I⟩,⟨by omega,d2,d3⟩,⟨by omega,A,z⟩⟩;have mk:=IG l (Hs.of l H) j e;have P0:=PW.newP l j;have G0:GuildIs (newP g).guild sz W Z Y X:=by rw[Cc];exact G
 generalize newP g=d at *
 have w:(wJ ns sz W).res=.ok d:=by
  have b1:oZ ⟨ns,sz,W,none,none,none⟩=.nx ⟨ns,sz,W,some Z,none,none⟩:=by simp[oZ,cell,N]
  have b2:oY ⟨ns,sz,W,some Z,none,none⟩=.nx ⟨ns,sz,W,some Z,some Y,none⟩:=by simp[oY,cell,O]
  have b3:oX ⟨ns,sz,W,some Z,some Y,none⟩=.nx ⟨ns,sz,W,some Z,some Y,some X⟩:=by simp[oX,cell,K]
  unfold wJ yG;rw[z7 b1,z7 b2,z7 b3];simp[vV,M,mk]
 have V:pK ⟨ns,some sz,some W,none,none,none,none,none,none⟩=.nx ⟨ns,some sz,some W,some d,none,none,none,none,none⟩:=by simp[pK,w]
 have T:pJ ⟨ns,some sz,some W,some d,none,none,none,none,none⟩=.nx ⟨ns,some sz,some W,some d,some d,none,none,none,none⟩:=by simp[pJ,w]
 have S:pH ⟨ns,some sz,some W,some d,some d,none,none,none,none⟩=.nx ⟨ns,some sz,some W,some d,some d,some W,none,none,none⟩:=by simp[pH]
 have R:pG ⟨ns,some sz,some W,some d,some d,some W,none,none,none⟩=.nx ⟨ns,some sz,some W,some d,some d,some W,some W,none,none⟩:=by simp[pG]
 obtain⟨s7,Q,p,b,h,rfl,P,_,_⟩:=GD (u:=λa s=>{s with v4q:=some a}) (c:=p5) (λs:S_bg9=>∃p b h,s=⟨ns,some sz,some W,some p,some p,some b,some b,h,none⟩/\PW sz p/\GuildIs p.guild sz b Z Y X/\WaysOk sz b) (ns.drop 6) ⟨ns,some sz,some W,some d,some d,some W,some W,none,none⟩ ⟨d,W,none,rfl,P0,G0,y⟩ (by
  rintro c s _ ⟨p,b,h,rfl,P,G',o⟩;obtain⟨p',W2,f,dd,hp,E,P',G2,n⟩:=IM P G' o j e c;subst hp E;refine⟨⟨ns,some sz,some W,some f.vmq,some f.vmq,some f.vyq,some f.vyq,some c,none⟩,.inl ?_,_,_,some c,rfl,P',G2,n⟩;unfold p5
  simp[pE,pD,dd])
 have r:pF ⟨ns,some sz,some W,some d,some d,some W,some W,none,none⟩=.nx ⟨ns,some sz,some W,some p,some p,some b,some b,h,none⟩:=by
  unfold pF;simp[Q]
 have i:∃m:Nat,m<1000/\∀k,ay k8 (ay k7 k) ⟨ns,some sz,some W,some p,some p,some b,some b,h,none⟩=k ⟨ns,some sz,some W,some p,some p,some b,some b,h,some (m:Int)⟩:=by
  have D:0<=bZ ns 5%41/\bZ ns 5%41<41:=⟨V0 _ (by omega),VS _ (by omega)⟩;have x:0<=bZ ns 5 / 164%151/\bZ ns 5 / 164%151<151:=⟨V0 _ (by omega),VS _ (by omega)⟩;by_cases q:bZ ns 5 / 41%4=1
  ·refine⟨(bZ ns 5 / 164%151).toNat,by omega,λk=>?_⟩;rw[show(((bZ ns 5 / 164%151).toNat:Nat):Int)=bZ ns 5 / 164%151 by omega];simp[k8,k7,k6,cell,q]
  ·refine⟨(bZ ns 5%41).toNat,by omega,λk=>?_⟩;rw[show(((bZ ns 5%41).toNat:Nat):Int)=bZ ns 5%41 by omega];simp[k8,k7,cell,q]
 obtain⟨m,F,i⟩:=i;obtain⟨s1,c1,t,v⟩:=nk P (by omega) e m F;have P2:=PW.settle (by omega:0<sz) m P;obtain⟨s2,c2,cp2,co2⟩:=nk P2 (by omega) e (m / 2) (by omega);have hd:(m:Int) / 2=((m / 2:Nat):Int):=by omega
 unfold Ib yM;rw[z7 e1,z7 e2,z7 V,z7 T,z7 S,z7 R,z7 r,i]
 have C:gL qj (λf s=>{s with vmq:=some f.vmq,viq:=some f.viq}) (vC λp:S_bg9=>p.vmq) (vC (·.viq)) (vC (·.vhq)) ⟨ns,some sz,some W,some p,some p,some b,some b,h,some (m:Int)⟩=.ok true ⟨ns,some sz,some W,some (a6 m p).2,some (a6 m p).2,some b,some b,h,some (m:Int)⟩:=by
  simp only[gL,vC,bndO,c1,LW,t,v]
 have B:gL qj (λf s=>{s with vmq:=some f.vmq,viq:=some f.viq}) (vC λp:S_bg9=>p.vmq) (vC (·.viq)) (a9 dO (vC (·.vhq)) (kC (2:Int))) ⟨ns,some sz,some W,some (a6 m p).2,some (a6 m p).2,some b,some b,h,some (m:Int)⟩=.ok true ⟨ns,some sz,some W,some s2.vmq,some s2.viq,some b,some b,h,some (m:Int)⟩:=by
  have fd:dO (m:Int) 2=.ok ((m / 2:Nat):Int):=by unfold dO;rw[if_pos (by omega),hd]
  simp only[gL,vC,bndO,a9,kC,Res.bind,fd,c2,LW]
 unfold rG bX HI;rw[C];simp only[Bn,if_true];rw[B];exact⟨_,rfl⟩
theorem Gi(ns:List Int)(a:ns.length<=63):∃M,m_bg9 [.scr (ns.map D.int)]=.ok (.bl true) M:=by
 obtain⟨s,e⟩:=yy ns
 have:=PZ ns
 rw[e]at this;exact⟨_,this⟩
end K13
namespace K13
open PySem L2
theorem bW{K:F0}{x q:Str}{st s2:Stmt}{f:Addr}(h:HD.fnO K f q=HD.fnE x q st)(e:st=s2):∃d,Fun K x q s2 f d:=by
 subst e;have b:=HD.fn_keep h;obtain⟨oc,m,kV,j,pm,an,k,ct,a,l,c⟩:=HD.fn_of h;have e1:HD.dA st=kS st:=by cases st<;>rfl
 have i:HD.dB st=cV st:=by cases st<;>rfl
 have g:HD.dS st=ai st:=by cases st<;>rfl
 rw[e1,i,g]at l;exact⟨_,O7 l c b⟩
def UW:Tns:=[]
theorem Qd{w:World}{K:F0}{h:Heap}{mg:Str->Option Value}{T:Tbs}{t:Addr}(X:K.In h)(G:h.Ns mainGlobals mg)(r:mg "law" = some (.ref t))(TO:TabsOf mg h UW T)(y:HD.obK RQ Sr Ti T2 Tq To S8 K=Qz PySem.Challenge.pw_heraldways_k13_letters_counted):∃fd:FuncData,(∀(s:Shared) (v:Value),BindsTo s fd ⟨[v],[]⟩ [("script",v)])/\∀base:Heap,K.In base->base.Ns mainGlobals mg->(∀c P,PySem.W.CodeHd h c P->PySem.W.CodeHd base c P)->FnOk PySem.Challenge.rw_heraldways_k13_letters_counted.prog w K mg base d5 11 t fd ["script"] (Mi.spT K T):=by
 have f:=congrArg (·.1) y;have d:=congrArg (·.2.1) y;have g:=congrArg (·.2.2.1) y;have b:=congrArg (·.2.2.2.1) y;have N:=congrArg (·.2.2.2.2.1) y;have M:=congrArg (·.2.2.2.2.2) y;clear y;have e:=r.symm.trans (VU X G (HD.nth f 18 rfl rfl));cases e;obtain⟨d_a9,F_a9⟩:=bW (s2:=MQ) (HD.nth b 0 rfl rfl) rfl;obtain⟨d_b9,F_b9⟩:=bW (s2:=DZ) (HD.nth b 1 rfl rfl) rfl;obtain⟨d_m9,F_m9⟩:=bW (s2:=IU) (HD.nth b 2 rfl rfl) rfl;obtain⟨d_n9,F_n9⟩:=bW (s2:=MC) (HD.nth b 3 rfl rfl) rfl;obtain⟨d_v9,F_v9⟩:=bW (s2:=Mt) (HD.nth b 4 rfl rfl) rfl;obtain⟨d_w9,F_w9⟩:=bW (s2:=Ms) (HD.nth b 5 rfl rfl) rfl;obtain⟨d_bc9,F_bc9⟩:=bW (s2:=DY) (HD.nth b 6 rfl rfl) rfl;obtain⟨d_bh9,F_bh9⟩:=bW (s2:=DT) (HD.nth b 7 rfl rfl) rfl;obtain⟨d_bl9,F_bl9⟩:=bW (s2:=DP) (HD.nth b 8 rfl rfl) rfl;obtain⟨d_bo9,F_bo9⟩:=bW (s2:=uD) (HD.nth b 9 rfl rfl) rfl;obtain⟨d_bp9,F_bp9⟩:=bW (s2:=DM) (HD.nth b 10 rfl rfl) rfl;obtain⟨d_bq9,F_bq9⟩:=bW (s2:=DL) (HD.nth b 11 rfl rfl) rfl;obtain⟨d_br9,F_br9⟩:=bW (s2:=DK) (HD.nth b 12 rfl rfl) rfl;obtain⟨d_be9,F_be9⟩:=bW (s2:=DW) (HD.nth b 13 rfl rfl) rfl;obtain⟨d_bf9,F_bf9⟩:=bW (s2:=DV) (HD.nth b 14 rfl rfl) rfl;obtain⟨d_bt9,F_bt9⟩:=bW (s2:=DG) (HD.nth b 15 rfl rfl) rfl;obtain⟨d_i9,F_i9⟩:=bW (s2:=MH) (HD.nth b 16 rfl rfl) rfl;obtain⟨d_ba9,F_ba9⟩:=bW (s2:=uF) (HD.nth b 17 rfl rfl) rfl;obtain⟨d_bb9,F_bb9⟩:=bW (s2:=uE) (HD.nth b 18 rfl rfl) rfl;obtain⟨d_bj9,F_bj9⟩:=bW (s2:=DR) (HD.nth b 19 rfl rfl) rfl;obtain⟨d_bs9,F_bs9⟩:=bW (s2:=DH) (HD.nth b 20 rfl rfl) rfl;obtain⟨d_e9,F_e9⟩:=bW (s2:=MN) (HD.nth b 21 rfl rfl) rfl;obtain⟨d_f9,F_f9⟩:=bW (s2:=MM) (HD.nth b 22 rfl rfl) rfl;obtain⟨d_g9,F_g9⟩:=bW (s2:=MK) (HD.nth b 23 rfl rfl) rfl;obtain⟨d_j9,F_j9⟩:=bW (s2:=MG) (HD.nth b 24 rfl rfl) rfl;obtain⟨d_k9,F_k9⟩:=bW (s2:=MF) (HD.nth b 25 rfl rfl) rfl;obtain⟨d_o9,F_o9⟩:=bW (s2:=MA) (HD.nth b 26 rfl rfl) rfl;obtain⟨d_c9,F_c9⟩:=bW (s2:=MP) (HD.nth b 27 rfl rfl) rfl;obtain⟨d_d9,F_d9⟩:=bW (s2:=MO) (HD.nth b 28 rfl rfl) rfl;obtain⟨d_h9,F_h9⟩:=bW (s2:=MI) (HD.nth b 29 rfl rfl) rfl;obtain⟨d_l9,F_l9⟩:=bW (s2:=ME) (HD.nth b 30 rfl rfl) rfl;obtain⟨d_p9,F_p9⟩:=bW (s2:=Mz) (HD.nth b 31 rfl rfl) rfl;obtain⟨d_bd9,F_bd9⟩:=bW (s2:=DX) (HD.nth b 32 rfl rfl) rfl;obtain⟨d_q9,F_q9⟩:=bW (s2:=DD) (HD.nth b 33 rfl rfl) rfl;obtain⟨d_t9,F_t9⟩:=bW (s2:=Mv) (HD.nth b 34 rfl rfl) rfl;obtain⟨d_y9,F_y9⟩:=bW (s2:=Mq) (HD.nth b 35 rfl rfl) rfl;obtain⟨d_bm9,F_bm9⟩:=bW (s2:=DO) (HD.nth b 36 rfl rfl) rfl;obtain⟨d_bu9,F_bu9⟩:=bW (s2:=DF) (HD.nth b 37 rfl rfl) rfl;obtain⟨d_u9,F_u9⟩:=bW (s2:=Mu) (HD.nth b 38 rfl rfl) rfl;obtain⟨d_x9,F_x9⟩:=bW (s2:=Mr) (HD.nth b 39 rfl rfl) rfl;obtain⟨d_r9,F_r9⟩:=bW (s2:=My) (HD.nth b 40 rfl rfl) rfl;obtain⟨d_bn9,F_bn9⟩:=bW (s2:=DN) (HD.nth b 41 rfl rfl) rfl;obtain⟨d_s9,F_s9⟩:=bW (s2:=Mw) (HD.nth b 42 rfl rfl) rfl;obtain⟨d_bk9,F_bk9⟩:=bW (s2:=DQ) (HD.nth b 43 rfl rfl) rfl;obtain⟨d_z9,F_z9⟩:=bW (s2:=Mp) (HD.nth b 44 rfl rfl) rfl;obtain⟨d_bi9,F_bi9⟩:=bW (s2:=DS) (HD.nth b 45 rfl rfl) rfl;obtain⟨d_bg9,F_bg9⟩:=bW (s2:=DU) (HD.nth b 46 rfl rfl) rfl;obtain⟨j,l,i,mk_Guild,k⟩:=HD.cls_of (HD.nth g 30 rfl rfl);obtain⟨n,q,m,mk_Post,o⟩:=HD.cls_of (HD.nth g 31 rfl rfl)
 have F:∀(s:Shared) (v:Value),BindsTo s d_bg9 ⟨[v],[]⟩ [("script",v)]:=by
  obtain⟨oc,R,kV,I,pm,an,J,ct,u,rfl,S,D⟩:=F_bg9.ex;exact λs v=>.of_eq rfl
 refine⟨d_bg9,F,λbase _ _ O=>?_⟩
 have L:Txt K mg ⟨240,395,115,d_a9,204,d_b9,216,d_m9,122,d_n9,357,d_v9,385,d_w9,364,d_bc9,406,d_bh9,432,d_bl9,418,d_bo9,446,d_bp9,425,d_bq9,413,d_br9,265,d_be9,272,d_bf9,101,d_bt9,223,d_i9,296,d_ba9,308,d_bb9,439,d_bj9,258,d_bs9,157,d_e9,164,d_f9,129,d_g9,237,d_j9,230,d_k9,211,d_o9,143,d_c9,150,d_d9,199,d_h9,171,d_l9,185,d_p9,371,d_bd9,284,d_q9,392,d_t9,350,d_y9,453,d_bm9,251,d_bu9,343,d_u9,378,d_x9,322,d_r9,460,d_bn9,329,d_s9,467,d_bk9,336,d_z9,474,d_bi9,481,d_bg9⟩ base:={
  cl_Guild:=⟨j,l,i,HD.nth d 30 rfl rfl⟩
  mgC_Guild:=VU X G (HD.nth f 0 rfl rfl)
  mk_Guild:=⟨mk_Guild,HD.nth d 0 rfl rfl,HD.nth g 0 rfl rfl,k⟩
  cl_Post:=⟨n,q,m,HD.nth d 31 rfl rfl⟩
  mgC_Post:=VU X G (HD.nth f 1 rfl rfl)
  mk_Post:=⟨mk_Post,HD.nth d 22 rfl rfl,HD.nth g 22 rfl rfl,o⟩
  n_house_count:=HD.nth d 32 rfl rfl
  n_ways:=HD.nth d 33 rfl rfl
  n_likings:=HD.nth d 34 rfl rfl
  n_shuns:=HD.nth d 35 rfl rfl
  n_wish_ranks:=HD.nth d 36 rfl rfl
  n_guild:=HD.nth d 37 rfl rfl
  n_roads:=HD.nth d 38 rfl rfl
  n_told_last:=HD.nth d 39 rfl rfl
  n_written_last:=HD.nth d 40 rfl rfl
  n_letters:=HD.nth d 41 rfl rfl
  n_standings:=HD.nth d 42 rfl rfl
  F_a9:=F_a9
  b_a9:=F_a9.binds λ_ _ _ _ _ _=>L2.dY λ_ _=>rfl
  F_b9:=F_b9
  b_b9:=F_b9.binds λ_ _ _ _ _ _=>L2.dX λ_ _ _=>rfl
  me_b9:=⟨HD.nth d 1 rfl rfl,HD.nth g 1 rfl rfl,F_b9.kp⟩
  F_m9:=F_m9
  b_m9:=F_m9.binds λ_ _ _ _ _ _=>L2.dX λ_ _ _=>rfl
  me_m9:=⟨HD.nth d 2 rfl rfl,HD.nth g 2 rfl rfl,F_m9.kp⟩
  F_n9:=F_n9
  b_n9:=F_n9.binds λ_ _ _ _ _ _=>L2.jy λ_=>rfl
  me_n9:=⟨HD.nth d 3 rfl rfl,HD.nth g 3 rfl rfl,F_n9.kp⟩
  F_v9:=F_v9
  b_v9:=F_v9.binds λ_ _ _ _ _ _=>L2.jy λ_=>rfl
  me_v9:=⟨HD.nth d 4 rfl rfl,HD.nth g 4 rfl rfl,F_v9.kp⟩
  F_w9:=F_w9
  b_w9:=F_w9.binds λ_ _ _ _ _ _=>L2.dX λ_ _ _=>rfl
  me_w9:=⟨HD.nth d 5 rfl rfl,HD.nth g 5 rfl rfl,F_w9.kp⟩
  F_bc9:=F_bc9
  b_bc9:=F_bc9.binds λ_ _ _ _ _ _=>L2.dX λ_ _ _=>rfl
  me_bc9:=⟨HD.nth d 6 rfl rfl,HD.nth g 6 rfl rfl,F_bc9.kp⟩
  F_bh9:=F_bh9
  b_bh9:=F_bh9.binds λ_ _ _ _ _ _=>L2.dY λ_ _=>rfl
  m_bh9:=VU X G (HD.nth f 2 rfl rfl)
  F_bl9:=F_bl9
  b_bl9:=F_bl9.binds λ_ _ _ _ _ _=>L2.dY λ_ _=>rfl
  m_bl9:=VU X G (HD.nth f 3 rfl rfl)
  F_bo9:=F_bo9
  b_bo9:=F_bo9.binds λ_ _ _ _ _ _=>L2.dX λ_ _ _=>rfl
  m_bo9:=VU X G (HD.nth f 4 rfl rfl)
  F_bp9:=F_bp9
  b_bp9:=F_bp9.binds λ_ _ _ _ _ _=>L2.dY λ_ _=>rfl
  m_bp9:=VU X G (HD.nth f 5 rfl rfl)
  F_bq9:=F_bq9
  b_bq9:=F_bq9.binds λ_ _ _ _ _ _=>L2.dY λ_ _=>rfl
  m_bq9:=VU X G (HD.nth f 6 rfl rfl)
  F_br9:=F_br9
  b_br9:=F_br9.binds λ_ _ _ _ _ _=>L2.jy λ_=>rfl
  m_br9:=VU X G (HD.nth f 7 rfl rfl)
  F_be9:=F_be9
  b_be9:=F_be9.binds λ_ _ _ _ _ _=>L2.dY λ_ _=>rfl
  m_be9:=VU X G (HD.nth f 8 rfl rfl)
  F_bf9:=F_bf9
  b_bf9:=F_bf9.binds λ_ _ _ _ _ _=>L2.jy λ_=>rfl
  m_bf9:=VU X G (HD.nth f 9 rfl rfl)
  F_bt9:=F_bt9
  b_bt9:=F_bt9.binds λ_ _ _ _ _ _=>L2.dY λ_ _=>rfl
  m_bt9:=VU X G (HD.nth f 10 rfl rfl)
  F_i9:=F_i9
  b_i9:=F_i9.binds λ_ _ _ _ _ _=>L2.dY λ_ _=>rfl
  me_i9:=⟨HD.nth d 7 rfl rfl,HD.nth g 7 rfl rfl,F_i9.kp⟩
  F_ba9:=F_ba9
  b_ba9:=F_ba9.binds λ_ _ _ _ _ _=>L2.jy λ_=>rfl
  me_ba9:=⟨HD.nth d 8 rfl rfl,HD.nth g 8 rfl rfl,F_ba9.kp⟩
  F_bb9:=F_bb9
  b_bb9:=F_bb9.binds λ_ _ _ _ _ _=>L2.jy λ_=>rfl
  me_bb9:=⟨HD.nth d 9 rfl rfl,HD.nth g 9 rfl rfl,F_bb9.kp⟩
  F_bj9:=F_bj9
  b_bj9:=F_bj9.binds λ_ _ _ _ _ _=>L2.dY λ_ _=>rfl
  m_bj9:=VU X G (HD.nth f 11 rfl rfl)
  F_bs9:=F_bs9
  b_bs9:=F_bs9.binds λ_ _ _ _ _ _=>L2.dX λ_ _ _=>rfl
  m_bs9:=VU X G (HD.nth f 12 rfl rfl)
  F_e9:=F_e9
  b_e9:=F_e9.binds λ_ _ _ _ _ _=>L2.Ak λ_ _ _ _=>rfl
  me_e9:=⟨HD.nth d 10 rfl rfl,HD.nth g 10 rfl rfl,F_e9.kp⟩
  F_f9:=F_f9
  b_f9:=F_f9.binds λ_ _ _ _ _ _=>L2.dX λ_ _ _=>rfl
  me_f9:=⟨HD.nth d 11 rfl rfl,HD.nth g 11 rfl rfl,F_f9.kp⟩
  F_g9:=F_g9
  b_g9:=F_g9.binds λ_ _ _ _ _ _=>L2.dY λ_ _=>rfl
  me_g9:=⟨HD.nth d 12 rfl rfl,HD.nth g 12 rfl rfl,F_g9.kp⟩
  F_j9:=F_j9
  b_j9:=F_j9.binds λ_ _ _ _ _ _=>L2.dY λ_ _=>rfl
  me_j9:=⟨HD.nth d 13 rfl rfl,HD.nth g 13 rfl rfl,F_j9.kp⟩
  F_k9:=F_k9
  b_k9:=F_k9.binds λ_ _ _ _ _ _=>L2.dX λ_ _ _=>rfl
  me_k9:=⟨HD.nth d 14 rfl rfl,HD.nth g 14 rfl rfl,F_k9.kp⟩
  F_o9:=F_o9
  b_o9:=F_o9.binds λ_ _ _ _ _ _=>L2.jy λ_=>rfl
  me_o9:=⟨HD.nth d 15 rfl rfl,HD.nth g 15 rfl rfl,F_o9.kp⟩
  F_c9:=F_c9
  b_c9:=F_c9.binds λ_ _ _ _ _ _=>L2.dX λ_ _ _=>rfl
  me_c9:=⟨HD.nth d 16 rfl rfl,HD.nth g 16 rfl rfl,F_c9.kp⟩
  F_d9:=F_d9
  b_d9:=F_d9.binds λ_ _ _ _ _ _=>L2.dX λ_ _ _=>rfl
  me_d9:=⟨HD.nth d 17 rfl rfl,HD.nth g 17 rfl rfl,F_d9.kp⟩
  F_h9:=F_h9
  b_h9:=F_h9.binds λ_ _ _ _ _ _=>L2.dY λ_ _=>rfl
  me_h9:=⟨HD.nth d 18 rfl rfl,HD.nth g 18 rfl rfl,F_h9.kp⟩
  F_l9:=F_l9
  b_l9:=F_l9.binds λ_ _ _ _ _ _=>L2.dX λ_ _ _=>rfl
  me_l9:=⟨HD.nth d 19 rfl rfl,HD.nth g 19 rfl rfl,F_l9.kp⟩
  F_p9:=F_p9
  b_p9:=F_p9.binds λ_ _ _ _ _ _=>L2.dX λ_ _ _=>rfl
  me_p9:=⟨HD.nth d 20 rfl rfl,HD.nth g 20 rfl rfl,F_p9.kp⟩
  F_bd9:=F_bd9
  b_bd9:=F_bd9.binds λ_ _ _ _ _ _=>L2.dY λ_ _=>rfl
  me_bd9:=⟨HD.nth d 21 rfl rfl,HD.nth g 21 rfl rfl,F_bd9.kp⟩
  F_q9:=F_q9
  b_q9:=F_q9.binds λ_ _ _ _ _ _=>L2.dY λ_ _=>rfl
  F_t9:=F_t9
  b_t9:=F_t9.binds λ_ _ _ _ _ _=>L2.dY λ_ _=>rfl
  me_t9:=⟨HD.nth d 23 rfl rfl,HD.nth g 23 rfl rfl,F_t9.kp⟩
  F_y9:=F_y9
  b_y9:=F_y9.binds λ_ _ _ _ _ _=>L2.dX λ_ _ _=>rfl
  me_y9:=⟨HD.nth d 24 rfl rfl,HD.nth g 24 rfl rfl,F_y9.kp⟩
  F_bm9:=F_bm9
  b_bm9:=F_bm9.binds λ_ _ _ _ _ _=>L2.S4 λ_ _ _ _ _=>rfl
  m_bm9:=VU X G (HD.nth f 13 rfl rfl)
  F_bu9:=F_bu9
  b_bu9:=F_bu9.binds λ_ _ _ _ _ _=>L2.dY λ_ _=>rfl
  m_bu9:=VU X G (HD.nth f 14 rfl rfl)
  F_u9:=F_u9
  b_u9:=F_u9.binds λ_ _ _ _ _ _=>L2.dX λ_ _ _=>rfl
  me_u9:=⟨HD.nth d 25 rfl rfl,HD.nth g 25 rfl rfl,F_u9.kp⟩
  F_x9:=F_x9
  b_x9:=F_x9.binds λ_ _ _ _ _ _=>L2.Ak λ_ _ _ _=>rfl
  me_x9:=⟨HD.nth d 26 rfl rfl,HD.nth g 26 rfl rfl,F_x9.kp⟩
  F_r9:=F_r9
  b_r9:=F_r9.binds λ_ _ _ _ _ _=>L2.dX λ_ _ _=>rfl
  me_r9:=⟨HD.nth d 27 rfl rfl,HD.nth g 27 rfl rfl,F_r9.kp⟩
  F_bn9:=F_bn9
  b_bn9:=F_bn9.binds λ_ _ _ _ _ _=>L2.dX λ_ _ _=>rfl
  m_bn9:=VU X G (HD.nth f 15 rfl rfl)
  F_s9:=F_s9
  b_s9:=F_s9.binds λ_ _ _ _ _ _=>L2.jy λ_=>rfl
  me_s9:=⟨HD.nth d 28 rfl rfl,HD.nth g 28 rfl rfl,F_s9.kp⟩
  F_bk9:=F_bk9
  b_bk9:=F_bk9.binds λ_ _ _ _ _ _=>L2.Ak λ_ _ _ _=>rfl
  m_bk9:=VU X G (HD.nth f 16 rfl rfl)
  F_z9:=F_z9
  b_z9:=F_z9.binds λ_ _ _ _ _ _=>L2.dY λ_ _=>rfl
  me_z9:=⟨HD.nth d 29 rfl rfl,HD.nth g 29 rfl rfl,F_z9.kp⟩
  F_bi9:=F_bi9
  b_bi9:=F_bi9.binds λ_ _ _ _ _ _=>L2.dX λ_ _ _=>rfl
  m_bi9:=VU X G (HD.nth f 17 rfl rfl)
  F_bg9:=F_bg9
  b_bg9:=F_bg9.binds λ_ _ _ _ _ _=>L2.jy λ_=>rfl
  m_bg9:=VU X G (HD.nth f 18 rfl rfl)
  g_SEAT:=⟨_,VU X G (HD.nth f 19 rfl rfl)⟩
  g_MOST_HOUSES:=⟨_,VU X G (HD.nth f 20 rfl rfl)⟩
  z_len:=Wa X G (HD.nth f 21 rfl rfl)
  z_range:=Wa X G (HD.nth f 22 rfl rfl)
  z_min:=Wa X G (HD.nth f 23 rfl rfl)
  z_max:=Wa X G (HD.nth f 24 rfl rfl)
  z_set:=Wa X G (HD.nth f 25 rfl rfl)
  z_list:=Wa X G (HD.nth f 26 rfl rfl)
  z_tuple:=Wa X G (HD.nth f 27 rfl rfl)
  z_isinstance:=Wa X G (HD.nth f 28 rfl rfl)
  z_bool:=Wa X G (HD.nth f 29 rfl rfl)
  z_int:=Wa X G (HD.nth f 30 rfl rfl)
  z_any:=Wa X G (HD.nth f 31 rfl rfl)
 }
 refine(Ny L).imp λvs H Q E z=>?_;obtain⟨a,xs,x,A,B,U,C⟩:=z;refine Mi.OW Gi x A B (λp hp=>?_) C;cases hp
theorem QA{K:F0}{q:Program}{loose:List Str}{XP:(Str->Option Value)->Heap->Prop}{d:DefRec}(e:d.params.defaults=[])(b:d.name = "law")(y:HD.obK RQ Sr Ti T2 Tq To S8 K=Qz PySem.Challenge.pw_heraldways_k13_letters_counted):PySem.W.WalkO q loose XP (λ_ h=>K.In h) PySem.Challenge.rw_heraldways_k13_letters_counted.row.toRowW d [] (λf vs=>PySem.call f vs):=
 L2.Il (l:=PySem.Challenge.rw_heraldways_k13_letters_counted) (K:=λ_=>K) (n:=63) (k:=11) (x := "script") (CX:=λ_=>d5) (sp:=λ_ T=>Mi.spT K T) UW rfl (by decide) e ⟨rfl,by decide,by decide⟩ (λ_ _ Y=>Y) (λ_ h=>absurd rfl h) (λ_ h=>(nomatch h)) (by unfold Tns.ok UW;decide) (λw mg j h T X G c TO=>Qd X G (b▸c) TO y) (λw T H a ns g hO i=>⟨a,ns,rfl,Mi.L6 hO i,g,Mi.QE hO,λ_=>rfl⟩) λ_ _ _ _ _ z=>z
end K13
open PySem PySem.W PyProof.Rows
set_option maxRecDepth 100000 in
set_option maxHeartbeats 0 in
theorem PySem.Challenge.cw_heraldways_k13_letters_counted_holds : PySem.Challenge.rw_heraldways_k13_letters_counted.Holds := by
 refine K13.hd0 λsaid=>?_;refine holds_openX (q:=K13.qP PySem.Challenge.pw_heraldways_k13_letters_counted) (loose:=[]) (Xt:=λs=>xlAt (K13.qP PySem.Challenge.pw_heraldways_k13_letters_counted) [] s&&recOk (RowW.records PySem.Challenge.rw_heraldways_k13_letters_counted.row.toRowW) s) (XP:=XL (K13.qP PySem.Challenge.pw_heraldways_k13_letters_counted) []) (Yf:=HD.ob K13.Vf K13.RQ K13.Sr K13.Ti K13.T2 K13.Tq K13.To K13.S8) (Ya:=λ_=>K13.Qz PySem.Challenge.pw_heraldways_k13_letters_counted) (N:=6992) (λw=>HD.two (K13.S7 w) (K13.S6 w)) (λs e=>xl_of s (YN.mp e).1) XL.keeps (by rfl) (by rfl) (by rfl) (λs e=>recFacts_of (YN.mp e).2) (by rfl) said (by decide +kernel) ⟨rfl,rfl,rfl,rfl,rfl,by decide +kernel⟩ ?hw (HD.walkX λK y=>K13.QA rfl rfl y)
 case hw=>w_witness2
