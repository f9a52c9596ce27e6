import PyProof.Rows.All
import Wide.All
import Wide.FinOn
import OpenK.XOpen
import OpenK.KWalk
import OpenK.KMake
import OpenK.KOwn
import OpenK.KRaiseN
import OpenK.Peek
import OpenK.KCall
import OpenK.KGet
import KE.KIsAll
import KE.KBytesAny
import KE.BytesK
import KE.KxBytes
import KE.KDictOf
import KE.KItem
import Lean
import PyProof.EqAt
import PyProof.EqKinds
import PyProof.TupleCall
import KE.KLam
import KE.KMinKey
import KE.KDictList
import KE.KRevIter
import PyProof.WalksMore
import PyProof.Rows.SetFrom
import KE.KSortTup
import KE.KDictSum
import PyProof.DictUpdate
import Open.Tops
import PySem.Challenge.RW_heraldways_k12_posts_apart
set_option Elab.async false
set_option linter.all false
set_option maxRecDepth 100000
abbrev F0:=PySem.W.Frag
abbrev P4:=List (PySem.Addr×PySem.Obj)
abbrev T1:=PySem.Value->PySem.Shared->Prop
abbrev Tp:=List (Int×Int)
local macro_rules|`(tactic|ac_rfl)=>`(tactic|(constructor<;>first|rfl|decide +kernel))
local macro_rules|`(command|def $i:declId $s:optDeclSig $v:declVal)=>`(command|noncomputable def $i:declId $s:optDeclSig $v:declVal)
local macro_rules|`(command|@[simp]def $i:declId $s:optDeclSig $v:declVal)=>`(command|@[simp]noncomputable def $i:declId $s:optDeclSig $v:declVal)
local macro_rules|`(command|abbrev $i:declId $s:optDeclSig $v:declVal)=>`(command|noncomputable abbrev $i:declId $s:optDeclSig $v:declVal)
def on:=@if_neg
def Vo:=@if_pos
def Vp:=@PySem.wpAny_bind
def Vq:=@List.map_cons
def Vr:=@List.length_map
def Vs:=@List.mem_append_right
def Vt:=@List.mem_cons_self
def Vu:=@List.mem_cons_of_mem
def Vv:=@PySem.Heap.get?_push_of_some
def Vw:=@List.length_append
def Vx:=@List.length_cons
def Vy:=@List.mem_append
def Vz:=@PySem.wpAny_pure
def VA:=@List.mem_cons
def VB:=@List.mem_append_left
def VC:=@Bool.false_ne_true
def VD:=@PySem.Heap.lt_size
def VE:=@List.size_toArray
def VF:=@List.mem_singleton
def VG:=@Nat.le_refl
def VH:=@List.getElem?_eq_getElem
def VI:=@List.getElem?_eq_some_iff
def VJ:=@Option.map_eq_some_iff
def VL:=@List.getD_eq_getElem?_getD
def VM:=@List.nodup_cons
def VN:=@List.getElem?_map
def VO:=@PySem.Heap.get?_push_size
def VP:=@List.getElem?_eq_none
def VQ:=@Option.some.inj
def VR:=@Int.emod_lt_of_pos
def VS:=@List.length_set
def VT:=@Nat.le_trans
def VU:=@Nat.lt_of_lt_of_le
def VV:=@List.mem_map
def VW:=@List.nodup_append
def VX:=@Int.emod_nonneg
def VY:=@Nat.ne_of_lt
def VZ:=@List.length_eq_zero_iff
def V0:=@PySem.Heap.get?_update_other
def V1:=@List.lookup_cons
def V3:=@List.append_nil
def V4:=@PySem.Heap.get?_update_self
def V5:=@beq_eq_false_iff_ne
def V6:=@decide_eq_false
def V7:=@List.map_append
def V8:=@List.replicate_succ
def V9:=@List.getElem?_append_right
def Wa:=@List.eraseIdx_cons_succ
def Wb:=@PySem.Obj.data_mapDictKeys
def Wc:=@List.getElem?_append_left
def Wd:=@PySem.Calls.spliced_cons
def We:=@PySem.Calls.callWith_builtin
def Wg:=@List.nodup_nil
def Wh:=@List.all_eq_true
def Wi:=@Array.length_toList
def Wj:=@Nat.le_of_lt
def Wk:=@List.append_assoc
def Wl:=@List.map_map
def Wm:=@PySem.F.plainAttrs_dict
def Wn:=@List.mem_of_getElem?
def Wo:=@Nat.lt_irrefl
def Wp:=@List.flatten_cons
def Wq:=@List.map_nil
def Wr:=@Nat.zero_le
def Ws:=@List.filter_cons
def Wt:=@PySem.Around.under_plainId
def Wu:=@decide_eq_true
def Wv:=@List.find?_cons
def Ww:=@List.eraseIdxIfInBounds_toArray
def Wx:=@Array.getElem?_eq_getElem
def Wy:=@PySem.F.slot_dict_get
def Wz:=@List.length_singleton
def WA:=@Nat.lt_of_le_of_lt
def WB:=@Option.isSome_iff_exists
def WC:=@PySem.Calls.evalArgs_plain
def WD:=@PySem.wpAny_typeNameOfWhole_keyiter
def WE:=@PySem.Calls.spliced_nil
def WF:=@List.mem_filter
def WG:=@PySem.mem_of_lookup
def WH:=@PySem.Obj.isFreed_of_dict
def WI:=@List.getD_cons_succ
def WJ:=@List.map_congr_left
def WK:=@PyProof.Rows.callWith_type1
def WL:=@beq_self_eq_true
def WM:=@PySem.wpAny_Call_Name_kw
def WN:=@PySem.tupleKind_room_in1
def WO:=@PySem.F.slot_dict_pop
def WP:=@List.getElem?_eq_none_iff
def WQ:=@List.mem_or_eq_of_mem_set
def WR:=@PySem.wpAny_passesOwn
def WS:=@PySem.codeAny_builtin
def WT:=@PySem.wpAny_truthy_bool
def WU:=@PySem.wpAny_dictEntries
def WV:=@PySem.Paired.length
def WW:=@PySem.wpAny_holding
def WX:=@PySem.plainId_quiet
def WY:=@PySem.wpAny_typeNameOf_keyiter
def WZ:=@Ne.symm
def W0:=@List.getElem?_cons_succ
def W1:=@PySem.F.entry_dict_get
def W3:=@Bool.false_eq_true
def W4:=@PySem.SeqAt.canLay_of_shaped
def W5:=@Option.map_some
def W6:=@List.any_cons
def W7:=@Array.getElem?_toList
def W8:=@List.length_replicate
def W9:=@PySem.wpAny_Call_method
def Xa:=@PySem.Heap.size_push
def Xb:=@Nat.lt_succ_self
def Xc:=@PySem.call_meetsIn
def Xd:=@Bool.and_eq_true
def Xe:=@List.cons_append
def Xf:=@List.drop_eq_getElem_cons
def Xg:=@List.getElem?_range
def Xh:=@PySem.Heap.SameBut.update
def Xi:=@Prod.mk.injEq
def Xj:=@List.foldl_cons
def Xk:=@List.getElem?_replicate
def Xl:=@Option.bind_eq_some_iff
def Xm:=@List.getElem?_set_self
def Xn:=@PySem.wpAny_pyIter_list
def Xo:=@PySem.wpAny_tryCatch
def Xp:=@List.length_range
def Xq:=@of_decide_eq_true
def Xr:=@Int.emod_eq_of_lt
def Xs:=@List.length_filter_le
def Xu:=@PySem.F.type_dict_pop
def Xv:=@Bool.beq_eq_decide_eq
def Xw:=@PySem.wpAny_mono
def Xx:=@List.drop_length
def Xy:=@Array.mem_toList_iff
def Xz:=@PySem.wpAny_letGo
def XA:=@PySem.wpAny_execs_nil
def XB:=@Bool.eq_iff_iff
def XC:=@PySem.W.plainGet_of
def XD:=@List.getElem_of_mem
def XE:=@PySem.W.shaped_ints
def XF:=@Nat.succ.inj
def XG:=@Nat.sub_self
def XH:=@PySem.Calls.Name_function_global
def XI:=@Int.fdiv_eq_ediv_of_nonneg
def XJ:=@beq_iff_eq
def XM:=@PySem.W.callWith_K
def XN:=@Option.isSome_some
def XO:=@PySem.call_meets
def XQ:=@List.set_cons_zero
def XR:=@List.set_cons_succ
def XT:=@List.exists_mem_of_ne_nil
def XU:=@Sum.inl.inj
def XV:=@Option.isSome_map
def XW:=@if_true
def XX:=@Nat.lt_succ_of_lt
def XY:=@PySem.wpAny_newObj_type
def XZ:=@List.ext_getElem?
def X3:=@Nat.le_succ_of_le
def X4:=@Int.max_def
def X5:=@PySem.wpAny_standAt
def X7:=@PySem.F.slot_list_remove
def X8:=@List.set_eq_of_length_le
def X9:=@PySem.F.slot_dict_values
def Yb:=@List.length_take
def Yc:=@PySem.F.args_dict_pop_3
def Yd:=@PySem.F.args_dict_get_2
def Ye:=@PySem.F.args_dict_get_3
def Yg:=@if_false
def Yi:=@List.getElem_mem
def Yj:=@PySem.codeAny_mono
def Yk:=@PySem.W.cellsFrom_some
def Yl:=@PySem.F.entry_dict_pop
def Yo:=@List.drop_eq_nil_of_le
def Yp:=@decide_false
def Yq:=@List.all_map
def Yr:=@PySem.wpAny_updateSeq
def Ys:=@PySem.wpAny_dictEpoch
def Yu:=@PySem.W.methodCall_KW
def Yv:=@PySem.F.type_dict_get
def Yw:=@List.getElem?_toArray
def Yy:=@List.Perm.append_left
def Yz:=@congrFun
def YA:=@List.mem_range
def YB:=@List.getElem?_set_ne
def YE:=@Array.getElem_toList
def YI:=@Int.min_def
def YJ:=@Bool.and_eq_true_iff
def Y6:=@List.map_set
namespace HD
open PySem PySem.W PyProof.Rows
def top(p:Program)(i:Nat):Stmt:=p.main.body.getD i (.Pass ⟨0,0,0,0⟩)
def iC(s:Stmt)(j:Nat):Stmt:=match s with
 |.ClassDef _ _ _ a _ _ _ _ _ _ _=>a.getD j (.Pass ⟨0,0,0,0⟩)
 |_=> .Pass ⟨0,0,0,0⟩
def dA(s:Stmt):Arguments:=match s with
 |.FunctionDef _ a _ _ _ _ _ _ _ _=>a
 |_=>{posonlyargs:=[],args:=[],vararg:=none,kwonlyargs:=[],kw_defaults:=[],kwarg:=none,defaults:=[]}
def dB(s:Stmt):List Stmt:=match s with
 |.FunctionDef _ _ b _ _ _ _ _ _ _=>b
 |_=>[]
def dS(s:Stmt):Scope:=match s with
 |.FunctionDef _ _ _ _ _ _ sc _ _ _=>sc
 |_=>{kind:=.function,names:=[],isGenerator:=false,isCoroutine:=false}
def Jc(b:List Addr)(h:Heap):Frag:=b.filterMap λa=>(h.get? a).map λo=>(a,o)
theorem Jb(c:List Addr)(h:Heap):(Jc c h).In h:=by
 intro a o e
 induction c with
 |nil=>cases e
 |cons b c d=>
   unfold Jc at e;rw[List.filterMap_cons]at e;cases q:h.get? b with
   |none=>
     rw[q]at e;exact d e
   |some x=>
     rw[q]at e;replace e:List.lookup a ((b,x)::Jc c h)=some o:=e;rw[V1]at e;by_cases z:a=b
     ·subst z;rw[WL a]at e;cases e;exact q
     ·rw[V5.mpr z]at e;exact d e
abbrev Vm:=Str×Str×Arguments×FuncBody×Scope×Addr×List (Str×Addr)×Value×Addr×Bool
def fnO(K:Frag)(f:Addr)(q:Str):Option Vm:=match K.lookup f with
 |some ⟨_,_,.func fd,_⟩=>some (fd.name,fd.qualname,fd.params,fd.body,fd.scope,fd.globals,fd.closure,fd.defaults,fd.builtins,codeIn K fd.code q)
 |_=>none
def fnE(x q:Str)(st:Stmt):Option Vm:=some (x,q,dA st,.stmts (dB st),dS st,mainGlobals,[],.none,builtinsNs,true)
theorem fn_of{K:Frag}{f:Addr}{x q:Str}{st:Stmt}(h:fnO K f q=fnE x q st):∃(oc:Value) (c:Option Addr) (kV d pm:Value) (an:Option Addr) (b ct:Value) (a:Array (Option Value)),
 K.lookup f=some ⟨oc,c,.func (fnOf x q (dA st) (dB st) (dS st) .none kV d pm an b ct),a⟩/\codeIn K b q=true:=by
 unfold fnO at h;split at h
 · next oc c fd a e=>
   obtain⟨n,l,pr,bd,sc,m,p,o,g,j,pm,an,k,ct,r⟩:=fd;unfold fnE at h;simp only[Option.some.injEq,Prod.mk.injEq]at h;obtain⟨rfl,rfl,rfl,rfl,rfl,rfl,rfl,rfl,rfl,i⟩:=h;exact⟨oc,c,g,j,pm,an,k,ct,a,e,i⟩
 ·exact nomatch h
theorem fn_keep{K:Frag}{f:Addr}{x q:Str}{st:Stmt}(h:fnO K f q=fnE x q st):keepIn K (.ref f)=true:=by
 obtain⟨oc,d,kV,b,pm,an,c,ct,a,e,_⟩:=fn_of h;show(match K.lookup f with|some ⟨_,_,.func _,_⟩=>true|some ⟨_,_,.cls _,_⟩=>specialIn K (.ref f) "__call__" == some (some (.builtin "type.__call__"))|_=>false)=true;rw[e]
def Sy(K:Frag)(C:Addr):List Value:=match K.lookup C with
 |some ⟨_,_,.cls a,_⟩=>a.mro
 |_=>[]
def SU(K:Frag)(C:Addr):Bool:=excIn K C [.type "ValueError",.type "Exception",.type "BaseException",.type "object"] "ValueError.__new__"
def Lf(K:Frag)(D:Addr):Bool:=findIn K (.ref D) "__getattribute__" == some (some (.builtin "BaseException.__getattribute__"))&&(findIn K (.ref D) "__getattr__" == some none&&(findIn K (.ref D) "__class__" == some (some (.builtin "object.__class__")) &&
 (specialIn K (.builtin "object.__class__") "__get__" == some (some (.builtin "getset_descriptor.__get__"))&&(takesIn K (.builtin "object.__class__")==some true&&(mroIn K D (.type "object")==some true&&(mroIn K D (.type "BaseException")==some true&&(clsIn K D).isSome))))))
abbrev Ob:=List (Option (Option Value))×List (Option (Option Value))×List Bool×List (Option Vm)×List (Bool×List Value)×List (Option Bool)
def cls(K:Frag)(C:Addr):Bool:=plainGet K C Str.empty&&(hasDictIn K C&&(plainOver K C&&(makesIn K C&&keepIn K (.ref C))))
def obK(ns:List Str)(ms:List (Addr×Str))(fs cs:List Addr)(ds:List (Addr×Str))(b:List Addr)(a:List (Addr×Value))(K:Frag):Ob:=
 (ns.map (nsIn K mainGlobals),ms.map (λp=>findIn K (.ref p.1) p.2),(fs.map λf=>isFn K (.ref f))++cs.map (cls K),ds.map (λp=>fnO K p.1 p.2),b.map (λC=>(SU K C&&Lf K C,Sy K C)),a.map λp=>kitOne K (.ref p.1) p.2)
def ob(n:List Addr)(ns:List Str)(ms:List (Addr×Str))(fs cs:List Addr)(ds:List (Addr×Str))(b:List Addr)(a:List (Addr×Value))(s:Shared):Ob:=obK ns ms fs cs ds b a (Jc n s.heap)
theorem two{W X M:Type}{o:Option W}{f:W->X}{g:W->M}{a:X}{b:M}(c:o.map f=some a)(d:o.map g=some b):o.map (λs=>(f s,g s))=some (a,b):=by
 cases o with
 |none=>cases c
 |some s=>cases c;cases d;rfl
theorem nth{W:Type}{l m:List W}(h:l=m)(i:Nat){a b:W}(d:l[i]?=some a)(c:m[i]?=some b):a=b:=by
 subst h;rw[d]at c;exact VQ c
theorem cls_of{K:Frag}{C:Addr}(h:cls K C=true):plainGet K C Str.empty=true/\hasDictIn K C=true/\plainOver K C=true/\makesIn K C=true/\keepIn K (.ref C)=true:=by
 unfold cls at h;simpa only[Bool.and_eq_true] using h
theorem walkX{q:Program}{loose:List Str}{XP:(Str->Option Value)->Heap->Prop}{n:List Addr}{ns:List Str}{ms:List (Addr×Str)}{fs cs:List Addr}{ds:List (Addr×Str)}{i:List Addr}{g:List (Addr×Value)}{E:Ob}{r:RowW}{d:DefRec}{c:List (Str×Expr)}{run:Value->List Value->Sem Value}
 (W:∀K:Frag,obK ns ms fs cs ds i g K=E->WalkO q loose XP (λ_ h=>K.In h) r d c run):WalkX q loose XP (ob n ns ms fs cs ds i g) (λ_=>E) r d c run:=
 λw s0 j mg k G y a o pm x e v kV u t s p m l args b f L D C B A z=>W _ y w s0 j mg k G ((Jb _ _).keeps L.keeps) a o pm x e v kV u t s p m l args b f D C B A z
end HD
namespace HS
open PySem PySem.W PyProof.Rows
noncomputable def s0(w:World)(os:OsState):Shared:=⟨boot_heap w.params,Array.mk [],boot_drawn,boot_toks,os⟩
def mid(x:Shared):Option (Shared×Thread)->Shared
 |some (s,_)=>s
 |none=>x
def lz(x:SharedT):Option (Flow×SharedT×Code×Pos)->SharedT
 |some (_,s,_)=>s
 |none=>x
noncomputable def look{W:Type}(p:Program)(w:World)(f:Shared->W)(o:Option Shared):Option W:=o.bind λa=>match staticsOk (importedModules p.main.body) (boot_heap w.params) a.heap&&namesBound p a.heap&&gensDone a&&laidKept (boot_heap w.params) a.heap with
 |true=>some (f a)
 |false=>none
section
variable{p:Program}{w:World}{os:OsState}{m0:Nat}{ann:Option Value}{env:PySem.Env}{q posA posB pos1 pos2:Pos}{b l1 l2:List Stmt}{sA:Shared}{sB s1 s2:SharedT}{k0 kb k1 k2:Nat}
theorem first(pre:topGo treeTable p w m0 ann k0 (s0 w os) (topStub p)=some (sA,⟨denote treeTable (.body b env),.body b env,posA,[topFrame q]⟩))
 (Lw:segRun treeTable p w m0 ann 1 kb sA (blockOf b env (.body b env) posA [topFrame q])=some (.next,sB.abs,.body b env,posB)) {N:Nat} {r:Shared} (h:topRun treeTable p w m0 ann N sB.abs (restOf b env (.body b env) posB [topFrame q])=some r):
 topRun treeTable p w m0 ann (k0+(kb+N)) (s0 w os) (topStub p)=some r:=go_top pre (piece_block Lw h)
theorem Rh{c:Code}(g:segRunT treeTable p w m0 ann 1 k1 s1 (piecesOf l1 env c pos1 [topFrame q])=some (.next,s2,c,pos2)){N:Nat}{r:Shared}(h:topRun treeTable p w m0 ann N s2.abs (restOf l2 env c pos2 [topFrame q])=some r):
 topRun treeTable p w m0 ann (k1+N) s1.abs (restOf (l1++l2) env c pos1 [topFrame q])=some r:=piece_app (segRun_of g) h
end
theorem ends{p:Program}{N M i:Nat}{g:Option Value}{W:Type}{f:Shared->W}{good:World->W}
 (b:∀w:World,(fencedOpening treeTable p w N).map (λs=>(s.heap,s.gens,s.drawn,s.toks))=some (boot_heap w.params,Array.mk [],boot_drawn,boot_toks))
 (size:∀w:World,((boot_heap w.params).isNs mainGlobals && (Array.mk []:Array GenState).size == 0,(boot_heap w.params).objs.size,(boot_heap w.params).nsMap mainGlobals "__annotations__")=(true,i,g))
 (run:∀(w:World) (os:OsState),∃a,topRun treeTable p w i g M (s0 w os) (topStub p)=some a/\look p w f (some a)=some (good w)) (q:M<=N):∀w:World,(openEnds treeTable p w N).map f=some (good w):=λw=>by
 obtain⟨⟨h,n,d,k,os⟩,e,o⟩:=VJ.mp (b w);obtain⟨rfl,rfl,rfl,rfl⟩:h=boot_heap w.params/\n=Array.mk []/\d=boot_drawn/\k=boot_toks:=by simpa using o
 obtain⟨m,l,j⟩:_/\_/\_:=by simpa only[Xi] using size w
 obtain⟨a,r,lk⟩:=run w os;have r:=topRun_mono (N-M) _ _ _ _ r;rw[show M+(N-M)=N by omega]at r;unfold openEnds;rw[e];show(topFrom treeTable p w N _).map f=_;unfold topFrom;dsimp only;rw[m,l,j];show((topRun treeTable p w i g N (s0 w os) (topStub p)).bind _).map f=_;rw[r];unfold look at lk;dsimp only[Option.bind]at lk ⊢;cases c:staticsOk (importedModules p.main.body) (boot_heap w.params) a.heap&&namesBound p a.heap&&gensDone a&&laidKept (boot_heap w.params) a.heap with
 |true=>rw[c]at lk;exact lk
 |false=>rw[c]at lk;cases lk
theorem run{W X:Type}{p:Program}{d t s o m M:Nat}{a:Option Value}{env:PySem.Env}{q j i h c:Pos}{b aY:List Stmt}{GE:World->OsState->Shared}{JN GD fz:World->OsState->SharedT}{f:Shared->W}{g:Shared->X}{good:World->W}{k:World->X}
 (pre:∀w:World,(λos=>topGo treeTable p w d a t (s0 w os) (topStub p))=λos=>some (GE w os,⟨denote treeTable (.body b env),.body b env,j,[topFrame q]⟩))
 (Lw:∀w:World,(λos=>segRun treeTable p w d a 1 s (GE w os) (blockOf b env (.body b env) j [topFrame q]))=λos=>some (.next,(JN w os).abs,.body b env,i))
 (ch:∀(w:World) (os:OsState) (r:Shared),topRun treeTable p w d a (o+m) (GD w os).abs (restOf aY env (.body b env) h [topFrame q])=some r->topRun treeTable p w d a M (JN w os).abs (restOf b env (.body b env) i [topFrame q])=some r)
 (x:∀w:World,(λos=>(segRunT treeTable p w d a 1 o (GD w os) (piecesOf aY env (.body b env) h [topFrame q]),look p w f (topRun treeTable p w d a m (fz w os).abs ⟨doneF .next,.body b env,c,[topFrame q]⟩),look p w g (topRun treeTable p w d a m (fz w os).abs ⟨doneF .next,.body b env,c,[topFrame q]⟩)))=λos=>(some (.next,fz w os,.body b env,c),some (good w),some (k w))) (w:World) (os:OsState):
 ∃l,topRun treeTable p w d a (t+(s+M)) (s0 w os) (topStub p)=some l/\look p w f (some l)=some (good w)/\look p w g (some l)=some (k w):=by
 obtain⟨v,n,u⟩:_/\_/\_:=by simpa only[Xi] using Yz (x w) os
 cases e:topRun treeTable p w d a m (fz w os).abs ⟨doneF .next,.body b env,c,[topFrame q]⟩ with
 |none=>rw[e]at n;cases n
 |some l=>
   rw[e]at n u;refine⟨l,first (Yz (pre w) os) (Yz (Lw w) os) (ch w os l ?_),n,u⟩
   have:=Rh (l2:=[]) v (piece_nil e)
   rw[V3]at this;exact this
theorem run1{W:Type}{p:Program}{i o n m l M:Nat}{a:Option Value}{env:PySem.Env}{q h g d c:Pos}{b aY:List Stmt}{GE:World->OsState->Shared}{JN GD fz:World->OsState->SharedT}{f:Shared->W}{good:World->W}
 (pre:∀w:World,(λos=>topGo treeTable p w i a o (s0 w os) (topStub p))=λos=>some (GE w os,⟨denote treeTable (.body b env),.body b env,h,[topFrame q]⟩))
 (Lw:∀w:World,(λos=>segRun treeTable p w i a 1 n (GE w os) (blockOf b env (.body b env) h [topFrame q]))=λos=>some (.next,(JN w os).abs,.body b env,g))
 (ch:∀(w:World) (os:OsState) (r:Shared),topRun treeTable p w i a (m+l) (GD w os).abs (restOf aY env (.body b env) d [topFrame q])=some r->topRun treeTable p w i a M (JN w os).abs (restOf b env (.body b env) g [topFrame q])=some r)
 (t:∀w:World,(λos=>(segRunT treeTable p w i a 1 m (GD w os) (piecesOf aY env (.body b env) d [topFrame q]),look p w f (topRun treeTable p w i a l (fz w os).abs ⟨doneF .next,.body b env,c,[topFrame q]⟩)))=λos=>(some (.next,fz w os,.body b env,c),some (good w))) (w:World) (os:OsState):
 ∃j,topRun treeTable p w i a (o+(n+M)) (s0 w os) (topStub p)=some j/\look p w f (some j)=some (good w):=by
 obtain⟨s,k⟩:_/\_:=by simpa only[Xi] using Yz (t w) os
 cases e:topRun treeTable p w i a l (fz w os).abs ⟨doneF .next,.body b env,c,[topFrame q]⟩ with
 |none=>rw[e]at k;cases k
 |some j=>
   rw[e]at k;refine⟨j,first (Yz (pre w) os) (Yz (Lw w) os) (ch w os j ?_),k⟩
   have:=Rh (l2:=[]) s (piece_nil e)
   rw[V3]at this;exact this
end HS
set_option maxHeartbeats 4000000
namespace K12
open PySem PySem.W PyProof.Rows
theorem hd0(h:PySem.Challenge.rw_heraldways_k12_posts_apart.row.wellSaid=true->PySem.Challenge.rw_heraldways_k12_posts_apart.row.Holds):PySem.Challenge.rw_heraldways_k12_posts_apart.Holds:=by
 w_on;o_law;exact h (by assumption)
abbrev qP(p:Program):Program:=view p [0,2,3,4,5,6,7,9,10,11,12,14,15,16,18,19,21,22,23,24,25,26,27,28,29,30,31,32,33,34]
def Vf:List Addr:=List.range 492
def Qc:List Str := "Guild"::"Post"::"_law_cell_at"::"_law_fond_by"::"_law_road_by"::"_law_shy_by"::"_law_ties"::"_law_ways_by"::"best_road"::"copied"::"require_within"::"_law_dear_by"::"may_take"::"_law_guild_by"::"_law_meddled"::"_law_seen"::"_law_turned"::"standing"::"_law_post_by"::"_law_deed_done"::"law"::"SEAT"::"MOST_HOUSES"::"len"::"range"::"min"::"max"::"set"::"list"::"tuple"::"any" :: []
def Qd:List (Addr×Str):=(240,"__init__")::(240,"houses_paired")::(240,"shuns_one_of")::(240,"size")::(395,"forget")::(395,"write_road")::(240,"require_houses")::(395,"table")::(395,"waiting")::(240,"like")::(240,"liking")::(240,"neighbours")::(240,"require_long_road")::(240,"require_two_houses")::(240,"twin")::(395,"road")::(395,"told")::(240,"lay_way")::(240,"lift_way")::(240,"rank_of")::(240,"shun")::(240,"wish")::(395,"neighbours_now")::(395,"write_to_all")::(395,"__init__")::(395,"choose_anew")::(395,"rise")::(395,"fall")::(395,"hear")::(395,"carry")::(240,"__setattr__")::(395,"__setattr__")::(240,"house_count")::(240,"ways")::(240,"likings")::(240,"shuns")::(240,"wish_ranks")::(395,"guild")::(395,"roads")::(395,"told_last")::(395,"written_last")::(395,"letters")::(395,"standings")::[]
def Qk:List Addr:=[115,204,216,122,385,364,223,296,308,157,164,129,237,230,211,291,303,143,150,199,171,185,315,371,284,392,350,343,378,322]
def Qo:List Addr:=[240,395]
def Qm:List (Addr×Str):=(115,"Guild.__init__")::(204,"Guild.houses_paired")::(216,"Guild.shuns_one_of")::(122,"Guild.size")::(385,"Post.forget")::(364,"Post.write_road")::(406,"_law_cell_at")::(425,"_law_fond_by")::(411,"_law_road_by")::(439,"_law_shy_by")::(451,"_law_ties")::(418,"_law_ways_by")::(265,"best_road")::(272,"copied")::(101,"require_within")::(223,"Guild.require_houses")::(296,"Post.table")::(308,"Post.waiting")::(432,"_law_dear_by")::(258,"may_take")::(157,"Guild.like")::(164,"Guild.liking")::(129,"Guild.neighbours")::(237,"Guild.require_long_road")::(230,"Guild.require_two_houses")::(211,"Guild.twin")::(291,"Post.road")::(303,"Post.told")::(143,"Guild.lay_way")::(150,"Guild.lift_way")::(199,"Guild.rank_of")::(171,"Guild.shun")::(185,"Guild.wish")::(315,"Post.neighbours_now")::(371,"Post.write_to_all")::(284,"Post.__init__")::(392,"Post.choose_anew")::(350,"Post.rise")::(446,"_law_guild_by")::(484,"_law_meddled")::(477,"_law_seen")::(472,"_law_turned")::(251,"standing")::(343,"Post.fall")::(378,"Post.hear")::(322,"Post.carry")::(458,"_law_post_by")::(465,"_law_deed_done")::(491,"law")::[]
def Ql:List Addr:=[]
def Qi:List (Addr×Value):=[]
abbrev rf(n:Nat):Option (Option Value):=some (some (.ref n))
def P9(p:Program):HD.Ob:=(rf 240::rf 395::rf 406::rf 425::rf 411::rf 439::rf 451::rf 418::rf 265::rf 272::rf 101::rf 432::rf 258::rf 446::rf 484::rf 477::rf 472::rf 251::rf 458::rf 465::rf 491::some (some (.int 0 296))::some (some (.int 60 298))::some none::some none::some none::some none::some none::some none::some none::some none::[],rf 115::rf 204::rf 216::rf 122::rf 385::rf 364::rf 223::rf 296::rf 308::rf 157::rf 164::rf 129::rf 237::rf 230::rf 211::rf 291::rf 303::rf 143::rf 150::rf 199::rf 171::rf 185::rf 315::rf 371::rf 284::rf 392::rf 350::rf 343::rf 378::rf 322::some (some (.builtin "object.__setattr__"))::some (some (.builtin "object.__setattr__"))::some none::some none::some none::some none::some none::some none::some none::some none::some none::some none::some none::[],true::true::true::true::true::true::true::true::true::true::true::true::true::true::true::true::true::true::true::true::true::true::true::true::true::true::true::true::true::true::true::true::[],HD.fnE "__init__" "Guild.__init__" (HD.iC (HD.top p 12) 0)::HD.fnE "houses_paired" "Guild.houses_paired" (HD.iC (HD.top p 12) 13)::HD.fnE "shuns_one_of" "Guild.shuns_one_of" (HD.iC (HD.top p 12) 15)::HD.fnE "size" "Guild.size" (HD.iC (HD.top p 12) 1)::HD.fnE "forget" "Post.forget" (HD.iC (HD.top p 19) 15)::HD.fnE "write_road" "Post.write_road" (HD.iC (HD.top p 19) 12)::HD.fnE "_law_cell_at" "_law_cell_at" (HD.top p 21)::HD.fnE "_law_fond_by" "_law_fond_by" (HD.top p 24)::HD.fnE "_law_road_by" "_law_road_by" (HD.top p 22)::HD.fnE "_law_shy_by" "_law_shy_by" (HD.top p 26)::HD.fnE "_law_ties" "_law_ties" (HD.top p 28)::HD.fnE "_law_ways_by" "_law_ways_by" (HD.top p 23)::HD.fnE "best_road" "best_road" (HD.top p 16)::HD.fnE "copied" "copied" (HD.top p 18)::HD.fnE "require_within" "require_within" (HD.top p 11)::HD.fnE "require_houses" "Guild.require_houses" (HD.iC (HD.top p 12) 16)::HD.fnE "table" "Post.table" (HD.iC (HD.top p 19) 2)::HD.fnE "waiting" "Post.waiting" (HD.iC (HD.top p 19) 4)::HD.fnE "_law_dear_by" "_law_dear_by" (HD.top p 25)::HD.fnE "may_take" "may_take" (HD.top p 15)::HD.fnE "like" "Guild.like" (HD.iC (HD.top p 12) 6)::HD.fnE "liking" "Guild.liking" (HD.iC (HD.top p 12) 7)::HD.fnE "neighbours" "Guild.neighbours" (HD.iC (HD.top p 12) 2)::HD.fnE "require_long_road" "Guild.require_long_road" (HD.iC (HD.top p 12) 18)::HD.fnE "require_two_houses" "Guild.require_two_houses" (HD.iC (HD.top p 12) 17)::HD.fnE "twin" "Guild.twin" (HD.iC (HD.top p 12) 14)::HD.fnE "road" "Post.road" (HD.iC (HD.top p 19) 1)::HD.fnE "told" "Post.told" (HD.iC (HD.top p 19) 3)::HD.fnE "lay_way" "Guild.lay_way" (HD.iC (HD.top p 12) 4)::HD.fnE "lift_way" "Guild.lift_way" (HD.iC (HD.top p 12) 5)::HD.fnE "rank_of" "Guild.rank_of" (HD.iC (HD.top p 12) 12)::HD.fnE "shun" "Guild.shun" (HD.iC (HD.top p 12) 8)::HD.fnE "wish" "Guild.wish" (HD.iC (HD.top p 12) 10)::HD.fnE "neighbours_now" "Post.neighbours_now" (HD.iC (HD.top p 19) 5)::HD.fnE "write_to_all" "Post.write_to_all" (HD.iC (HD.top p 19) 13)::HD.fnE "__init__" "Post.__init__" (HD.iC (HD.top p 19) 0)::HD.fnE "choose_anew" "Post.choose_anew" (HD.iC (HD.top p 19) 16)::HD.fnE "rise" "Post.rise" (HD.iC (HD.top p 19) 10)::HD.fnE "_law_guild_by" "_law_guild_by" (HD.top p 27)::HD.fnE "_law_meddled" "_law_meddled" (HD.top p 33)::HD.fnE "_law_seen" "_law_seen" (HD.top p 32)::HD.fnE "_law_turned" "_law_turned" (HD.top p 31)::HD.fnE "standing" "standing" (HD.top p 14)::HD.fnE "fall" "Post.fall" (HD.iC (HD.top p 19) 9)::HD.fnE "hear" "Post.hear" (HD.iC (HD.top p 19) 14)::HD.fnE "carry" "Post.carry" (HD.iC (HD.top p 19) 6)::HD.fnE "_law_post_by" "_law_post_by" (HD.top p 29)::HD.fnE "_law_deed_done" "_law_deed_done" (HD.top p 30)::HD.fnE "law" "law" (HD.top p 34)::[],[],[])
open_shared sh for PySem.Challenge.pw_heraldways_k12_posts_apart leaving 27
noncomputable section
noncomputable abbrev pg:Program:=PySem.Challenge.pw_heraldways_k12_posts_apart
noncomputable abbrev bd:List Stmt:=behindTheImports pg
noncomputable abbrev cE:Code:=.body bd sh.env_1
noncomputable abbrev BB:List Frame:=[topFrame ⟨0,0,0,0⟩]
abbrev nK:Nat:=2209+2
noncomputable def GE(w:World)(os:OsState):Shared:=HS.mid (HS.s0 w os) (topGo treeTable pg w 11 (some (.ref 6)) 12 (HS.s0 w os) (topStub pg))
noncomputable abbrev JN(w:World)(os:OsState):SharedT:=({tree:=sh.tree_4 w.params,n:=15,life:={},gens:={toList:=[]},drawn:={},toks:=187,os:=os}:SharedT)
noncomputable abbrev GD(w:World)(os:OsState):SharedT:=({tree:=sh.tree_106 w.params,n:=95,life:={},gens:={toList:=[]},drawn:={},toks:=294,os:=os}:SharedT)
theorem pre(w:World):(λos=>topGo treeTable pg w 11 (some (.ref 6)) 12 (HS.s0 w os) (topStub pg))=λos=>some (GE w os,⟨denote treeTable cE,cE,⟨0,0,0,0⟩,BB⟩):=by
 unfold GE cE bd pg;rw[Fast.te14364793385576792824,Fast.te7655721085817172287]
 kernel_rfl
theorem Lw(w:World):(λos=>segRun treeTable pg w 11 (some (.ref 6)) 1 1 (GE w os) (blockOf bd sh.env_1 cE ⟨0,0,0,0⟩ BB))=λos=>some (.next,(JN w os).abs,cE,⟨0,0,0,0⟩):=by
 unfold GE cE bd pg;rw[Fast.te14364793385576792824,Fast.te7655721085817172287]
 kernel_rfl
theorem bdE:sh.sts_4++(sh.sts_28++(sh.sts_44++(sh.sts_60++(sh.sts_76++(sh.sts_92++bd.drop 8)))))=bd:=by
 unfold bd pg;rw[Fast.te7655721085817172287]
 kernel_rfl
theorem chn(w:World)(os:OsState)(r:Shared)(h:topRun treeTable pg w 11 (some (.ref 6)) nK (GD w os).abs (restOf (bd.drop 8) sh.env_1 cE ⟨15,0,16,8⟩ BB)=some r):topRun treeTable pg w 11 (some (.ref 6)) (Nat.add 225 (Nat.add 214 (Nat.add 214 (Nat.add 214 (Nat.add 214 (Nat.add 214 nK)))))) (JN w os).abs (restOf bd sh.env_1 cE ⟨0,0,0,0⟩ BB)=some r:=by
 have h:=sh.chain pg bd w os (bd.drop 8) nK r h;rw[bdE]at h;exact h
noncomputable def fz(w:World)(os:OsState):SharedT:=HS.lz (GD w os) (segRunT treeTable pg w 11 (some (.ref 6)) 1 2209 (GD w os) (piecesOf (bd.drop 8) sh.env_1 cE ⟨15,0,16,8⟩ BB))
noncomputable abbrev gQ{W:Type}(f:Shared->W)(g:W):Prop:=∀w:World,(λos=>(segRunT treeTable pg w 11 (some (.ref 6)) 1 2209 (GD w os) (piecesOf (bd.drop 8) sh.env_1 cE ⟨15,0,16,8⟩ BB),HS.look pg w f (topRun treeTable pg w 11 (some (.ref 6)) 2 (fz w os).abs ⟨doneF .next,cE,⟨347,0,373,42⟩,BB⟩)))=λos=>(some (.next,fz w os,cE,⟨347,0,373,42⟩),some g)
theorem gZ1:gQ (openSeen (qP pg) [] (importedModules pg.main.body) (λs=>xlAt (qP pg) [] s&&recOk (RowW.records PySem.Challenge.rw_heraldways_k12_posts_apart.row.toRowW) s) true) (openGood (qP pg) []):=by
 intro w;unfold fz cE bd pg;rw[Fast.te10110043849684766642,Fast.te14082659384304107361,Fast.te14364793385576792824,Fast.te4187177175401517315,Fast.te5923862056798008813,Fast.te7655721085817172287]
 kernel_rfl
theorem gZ2:gQ (HD.ob Vf Qc Qd Qk Qo Qm Ql Qi) (P9 pg):=by
 intro w;unfold fz cE bd pg;rw[Fast.te10110043849684766642,Fast.te14082659384304107361,Fast.te14364793385576792824]
 kernel_rfl
theorem opn(w:World):(fencedOpening treeTable pg w 7120).map (λs=>(s.heap,s.gens,s.drawn,s.toks))=some (boot_heap w.params,Array.mk [],boot_drawn,boot_toks):=by
 unfold pg;rw[Fast.te14364793385576792824,Fast.te7655721085817172287]
 kernel_rfl
theorem siz(w:World):((boot_heap w.params).isNs mainGlobals && (Array.mk []:Array GenState).size == 0,(boot_heap w.params).objs.size,(boot_heap w.params).nsMap mainGlobals "__annotations__")=(true,11,(some (.ref 6))):=by
 kernel_rfl
theorem SG(w:World):(openEnds treeTable PySem.Challenge.pw_heraldways_k12_posts_apart w 7120).map (openSeen (qP PySem.Challenge.pw_heraldways_k12_posts_apart) [] (importedModules PySem.Challenge.pw_heraldways_k12_posts_apart.main.body) (λs=>xlAt (qP PySem.Challenge.pw_heraldways_k12_posts_apart) [] s&&recOk (RowW.records PySem.Challenge.rw_heraldways_k12_posts_apart.row.toRowW) s) true)=some (openGood (qP PySem.Challenge.pw_heraldways_k12_posts_apart) []):=HS.ends (good:=λ_=>_) opn siz (HS.run1 pre Lw chn gZ1) (by decide +kernel) w
theorem SF(w:World):(openEnds treeTable PySem.Challenge.pw_heraldways_k12_posts_apart w 7120).map (HD.ob Vf Qc Qd Qk Qo Qm Ql Qi)=some (P9 PySem.Challenge.pw_heraldways_k12_posts_apart):=HS.ends (good:=λ_=>_) opn siz (HS.run1 pre Lw chn gZ2) (by decide +kernel) w
end
end K12
namespace L2
open PySem PySem.Spec PyProof.Rows
abbrev az:=Sum Int Str
def pT:az->Value->Bool
 |.inl k,v=>Value.isInt k v
 |.inr x,v=>Value.isStrOf x v
def SI(w:World):az->Int
 |.inl k=>hashInt k
 |.inr x=>hashStr w x
theorem bD:∀{k:az} {v:Value},pT k v=true->(∃i t,k=Sum.inl i/\v=Value.int i t)\/(∃x t,k=Sum.inr x/\v=Value.str x t)
 | .inl i,v,h=>by
   obtain⟨t,e⟩:=Value.isInt_shape (k:=i) (v:=v) h;exact .inl ⟨i,t,rfl,e⟩
 | .inr x,v,h=>by
   obtain⟨t,e⟩:=Value.isStrOf_shape (x:=x) (v:=v) h;exact .inr ⟨x,t,rfl,e⟩
theorem AV(i:Int)(t:Tok):pT (.inl i) (.int i t)=true:=by simp[pT,Value.isInt]
theorem AU(x:Str)(t:Tok):pT (.inr x) (.str x t)=true:=by simp[pT,Value.isStrOf]
theorem OC(a b:Int):decide ((Sum.inl a:az)=Sum.inl b)=(a==b):=by
 by_cases e:a=b
 ·subst e;simp
 ·have h:¬ (Sum.inl a:az)=Sum.inl b:=λq=>e (XU q);rw[V6 h];exact(V5.mpr e).symm
theorem Oz(a b:Str):decide ((Sum.inr a:az)=Sum.inr b)=decide (a=b):=by
 by_cases e:a=b
 ·subst e;simp
 ·have h:¬ (Sum.inr a:az)=Sum.inr b:=λq=>e (Sum.inr.inj q);rw[V6 h,V6 e]
theorem OB(a:Int)(b:Str):decide ((Sum.inl a:az)=Sum.inr b)=false:=V6 (λq=>nomatch q)
theorem OA(a:Str)(b:Int):decide ((Sum.inr a:az)=Sum.inl b)=false:=V6 (λq=>nomatch q)
def aq(prog:Program)(w:World):PySem.KeyKind prog w az where
 is:=pT
 hash:=SI w
 inj:=λv a b g d=>by
  rcases bD g with ⟨i,t,rfl,rfl⟩|⟨x,t,rfl,rfl⟩
  · rcases bD d with ⟨j,u,rfl,e⟩|⟨y,u,rfl,e⟩
    ·injection e with e1 _;rw[e1]
    ·exact nomatch e
  · rcases bD d with ⟨j,u,rfl,e⟩|⟨y,u,rfl,e⟩
    ·exact nomatch e
    ·injection e with e1 _;rw[e1]
 byValue:=λk v h=>by
  rcases bD h with ⟨i,t,rfl,rfl⟩|⟨x,t,rfl,rfl⟩<;>rfl
 pyHash:=λc h=>by
  rcases bD c with ⟨i,t,rfl,rfl⟩|⟨x,t,rfl,rfl⟩
  ·exact wpAny_pyHash_int h
  ·exact wpAny_pyHash_str h
 eqBool:=λf c h=>by
  rcases bD f with ⟨i,t,rfl,rfl⟩|⟨x,t,rfl,rfl⟩
  · rcases bD c with ⟨j,u,rfl,rfl⟩|⟨y,u,rfl,rfl⟩
    ·rw[OC]at h;exact wpAny_eqBool_int h
    ·rw[OB]at h;exact SeqAt.EqAt.int_str i t y u _ _ _ _ h
  · rcases bD c with ⟨j,u,rfl,rfl⟩|⟨y,u,rfl,rfl⟩
    ·rw[OA]at h;exact SeqAt.EqAt.str_int x t j u _ _ _ _ h
    ·rw[Oz]at h;exact wpAny_eqBool_str h
 «strs»:=λk x t v h=>by
  rcases bD h with ⟨i,u,rfl,e⟩|⟨y,u,rfl,e⟩
  ·exact nomatch e
  · injection e with e1 _
    subst e1;cases v<;>rfl
theorem tZ(prog:Program)(w:World)(i:Int)(t:Tok):(aq prog w).is (.inl i) (.int i t)=true:=AV i t
theorem tY(prog:Program)(w:World)(x:Str)(t:Tok):(aq prog w).is (.inr x) (.str x t)=true:=AU x t
inductive V where
 |non|bl (b:Bool)|int (i:Int)|str (x:Str)|byt (b:Array UInt8)|flt (b:UInt64)|ref (a:Addr)|ty (n:String)
 deriving DecidableEq
def RelV:V->Value->Prop
 |.non,u=>u=Value.none
 |.bl b,u=>u=Value.bool b
 |.int i,u=>∃t,u=Value.int i t
 |.str x,u=>∃t,u=Value.str x t
 |.byt b,u=>∃t,u=Value.bytes b t
 |.flt b,u=>∃t,u=Value.float b t
 |.ref a,u=>u=Value.ref a
 |.ty n,u=>u=Value.type n
abbrev Vals:List V->List Value->Prop:=Paired RelV
theorem Vals.length{xs:List V}{us:List Value}(r:Vals xs us):xs.length=us.length:=WV r
theorem Vals.get:∀{xs:List V} {us:List Value} {i:Nat} {x:V},Vals xs us->xs[i]?=some x->∃u,us[i]?=some u/\RelV x u
 |_,_,_,_,.nil,e=>by simp at e
 |_,_,0,_,.cons r _,e=>by simp at e;subst e;exact⟨_,rfl,r⟩
 | _,_,i+1,x,.cons _ t,e=>by
   obtain⟨u,b,a⟩:=Vals.get (i:=i) (x:=x) t (by simpa using e);exact⟨u,by simpa using b,a⟩
theorem Vals.set{x:V}{u:Value}(r:RelV x u):∀{xs:List V} {us:List Value} (i:Nat),Vals xs us->Vals (xs.set i x) (us.set i u)
 |_,_,_,.nil=>.nil
 |_,_,0,.cons _ t=>.cons r t
 |_,_,i+1,.cons q t=>.cons q (Vals.set r i t)
theorem Vals.append:∀{xs ys:List V} {us a:List Value},Vals xs us->Vals ys a->Vals (xs++ys) (us++a)
 |_,_,_,_,.nil,s=>s
 |_,_,_,_,.cons r t,s=>.cons r (Vals.append t s)
theorem Vals.take:∀{xs:List V} {us:List Value} (n:Nat),Vals xs us->Vals (xs.take n) (us.take n)
 |_,_,0,_=>.nil
 |_,_,_+1,.nil=>.nil
 |_,_,n+1,.cons r t=>.cons r (Vals.take n t)
theorem Vals.drop:∀{xs:List V} {us:List Value} (n:Nat),Vals xs us->Vals (xs.drop n) (us.drop n)
 |_,_,0,r=>r
 |_,_,_+1,.nil=>.nil
 |_,_,n+1,.cons _ t=>Vals.drop n t
def RelO:Option V->Option Value->Prop
 |some v,some u=>RelV v u
 |none,none=>True
 |_,_=>False
def KV{W:Type}:List (W×V)->List (W×Value)->Prop:=Paired λ(p:W×V) (q:W×Value)=>p.1=q.1/\RelV p.2 q.2
def kV:az->V
 |.inl i=>.int i
 |.inr x=>.str x
inductive HO where
 /-- a list -/
 |lst (xs:List V)
 /-- a tuple (never changes) -/
 |tup (xs:List V)
 /-- a dict whose keys are ints and texts;one whose keys are tuples of ints and texts (the empty one is both) -/
 |dK (kvs:List (az×V))|dT (kvs:List (List az×V))
 /-- a set of ints: its members,its size -/
 |set (S:Int->Bool) (n:Nat)
 /-- an instance of the class at C,its dict at dx,its attributes -/
 |ins (C dx:Addr) (fs:List (Str×V))
 /-- the dict of the instance at x -/
 |own (x:Addr)
 /-- the dict of an exception -/
 |xd (fs:List (Str×V))
 /-- a bound method,f of x -/
 |met (f x:Addr)
 /-- a range object lo,lo+1,.. below hi -/
 |rng (lo hi:Int)
 /-- a thing that is known to the object (the script;a dict while a loop walks it): read,never written while it is so -/
 |frz (o:Obj) (u:HO)
 /-- a code object's table: at each of these places nothing,or a code of that name -/
 |tbl (l:List (Pos×Str))
 /-- any other thing,by what is true of its one object (a def of one's own: SetO a S n:=HO.ext λh=> ..) -/
 |ext (φ:Heap->Prop)
abbrev Hp:=Addr->Option HO
def upd(H:Hp)(a:Addr)(o:HO):Hp:=λb=>if b=a then some o else H b
theorem ao{H:Hp}{a:Addr}{o:HO}:upd H a o a=some o:=by unfold upd;rw[if_pos rfl]
theorem am{H:Hp}{a b:Addr}{o:HO}(h:b≠a):upd H a o b=H b:=by unfold upd;rw[if_neg h]
theorem Dv{H:Hp}{a b:Addr}{o u:HO}(h:H a=some o)(h':H b=some u)(d:o≠u):a≠b:=by
 intro e;subst e;rw[h]at h';exact d (VQ h')
theorem aL{H:Hp}{a b:Addr}{o:HO}(h:H a=some o)(h':H b=none):a≠b:=by
 intro e;subst e;rw[h]at h';cases h'
section
variable(P:Program)(w:World)
def ObjOk(H:Hp)(h:Heap)(a:Addr):HO->Prop
 |.lst xs=>xs.length<=sizeLine/\∃(its:List Value) (n:Nat),Vals xs its/\h.get? a=some {cls:=.type "list",data:=.seq its.toArray n}
 |.tup xs=>xs.length<=sizeLine/\∃its:List Value,Vals xs its/\IsTup h a its.toArray
 |.dK kvs=>kvs.length<=sizeLine/\(a==sysModules)=false/\∃vs,KV kvs vs/\h.DictOf (aq P w) a vs
 | .dT kvs=>kvs.length<=sizeLine/\(a==sysModules)=false/\∃xs:List (List az×Addr×Value),
    Paired (λ(p:List az×V) (q:List az×Addr×Value)=>p.1=q.1/\H q.2.1=some (.tup (p.1.map kV))/\RelV p.2 q.2.2) kvs xs/\
    ∃o i ep,h.get? a=some o/\o.ExactDict/\o.data=.dict i ep/\i.toList=xs.map (entryOfKey (tupleKind (aq P w)))/\(xs.map (·.1)).Nodup
 |.set S n=>h.SetOf (intKind P w) a S n
 | .ins C dx fs=>H dx=some (.own a)/\fs.length<=1000/\dx≠a/\h.get? a=some (PySem.W.instObj C dx)/\
    ∃b,h.Ns1 dx b/\(∀f,RelO (fs.lookup f) (b f))/\PySem.Within b (fs.map (·.1))
 |.own _=>∃o,h.get? a=some o
 |.xd fs=>∃b,h.Ns1 a b/\∀f,RelO (fs.lookup f) (b f)
 |.rng lo hi=>∃t u v,h.get? a=some {cls:=.type "range",data:=.fields #[.int lo t,.int hi u,.int 1 v]}
 |.frz o u=>h.get? a=some o/\ObjOk H h a u
 |.tbl l=>(∀y∈l,∀z∈l,y.1.line=z.1.line->y.1.col=z.1.col->y.2=z.2)/\∃ps:Array Value,h.get? a=some {cls:=.none,data:=.fields ps}/\TriplesOk ps.toList/\∀x∈l,codeAmong x.1 ps.toList=none\/∃c,codeAmong x.1 ps.toList=some (.ref c)/\H c=some (.own a)/\h.CodeRec (.ref c) x.2
 |.met f x=>h.get? a=some (PySem.W.methodObj (.ref f) (.ref x))
 |.ext d=>d h/\(∃o,h.get? a=some o)/\∀g e:Heap,d g->(∀o,g.get? a=some o->e.get? a=some o)->d e
def HOk(H:Hp)(h:Heap):Prop:=∀a o,H a=some o->ObjOk P w H h a o
end
section
variable{P:Program}{w:World}{H H':Hp}{h h':Heap}{a:Addr}{o:HO}
theorem ObjOk.lt(x:ObjOk P w H h a o):a<h.objs.size:=by
 cases o with
 |lst xs=>obtain⟨_,_,_,_,e⟩:=x;exact VD e
 |tup xs=>obtain⟨_,_,_,p⟩:=x;exact p.lt
 |dK kvs=>obtain⟨_,_,_,_,o,_,_,e,_⟩:=x;exact VD e
 |dT kvs=>obtain⟨_,_,_,_,o,_,_,e,_⟩:=x;exact VD e
 |set S n=>obtain⟨o,_,_,_,e,_⟩:=x;exact VD e
 |ins C dx fs=>obtain⟨_,_,_,e,_⟩:=x;exact VD e
 |own y=>obtain⟨_,e⟩:=x;exact VD e
 |xd fs=>obtain⟨_,⟨_,_,_,e,_⟩,_⟩:=x;exact VD e
 |rng lo hi=>obtain⟨_,_,_,e⟩:=x;exact VD e
 |frz ob u=>obtain⟨e,_⟩:=x;exact VD e
 |tbl l=>obtain⟨_,_,e,_⟩:=x;exact VD e
 |met f y=>exact VD (show h.get? a=some _ from x)
 |ext b=>obtain⟨_,⟨_,e⟩,_⟩:=x;exact VD e
theorem Paired.mapP{W X:Type}{F G:W->X->Prop}:∀{d:List W} {c:List X},Paired F d c->(∀a b,F a b->G a b)->Paired G d c
 |_,_,.nil,_=>.nil
 |_,_,.cons r t,f=>.cons (f _ _ r) (Paired.mapP t f)
theorem ObjOk.stay(x:ObjOk P w H h a o)(k:∀b u,(b=a\/H b=some (.own a))->h.get? b=some u->h'.get? b=some u)
 (s:∀b,H b=some (.own a)->H' b=some (.own a)) (F:∀b xs,H b=some (.tup xs)->H' b=some (.tup xs)):ObjOk P w H' h' a o:=by
 induction o with
 |lst xs=>obtain⟨z,its,n,r,e⟩:=x;exact⟨z,its,n,r,k _ _ (.inl rfl) e⟩
 |tup xs=>obtain⟨z,its,r,ob,e,c⟩:=x;exact⟨z,its,r,ob,k _ _ (.inl rfl) e,c⟩
 |dK kvs=>obtain⟨z,y,vs,r,ob,i,ep,e,c⟩:=x;exact⟨z,y,vs,r,ob,i,ep,k _ _ (.inl rfl) e,c⟩
 |dT kvs=>
   obtain⟨z,y,xs,r,ob,i,ep,e,c⟩:=x;exact⟨z,y,xs,Paired.mapP r λp q z=>⟨z.1,F _ _ z.2.1,z.2.2⟩,ob,i,ep,k _ _ (.inl rfl) e,c⟩
 |set S n=>obtain⟨ob,i,ep,t,e,c⟩:=x;exact⟨ob,i,ep,t,k _ _ (.inl rfl) e,c⟩
 |ins C dx fs=>
   obtain⟨d,z,ne,e,m,⟨j,i,ep,I,c⟩,r⟩:=x;exact⟨s _ d,z,ne,k _ _ (.inl rfl) e,m,⟨j,i,ep,k _ _ (.inr d) I,c⟩,r⟩
 |own y=>obtain⟨ob,e⟩:=x;exact⟨ob,k _ _ (.inl rfl) e⟩
 |xd fs=>obtain⟨m,⟨j,i,ep,e,c⟩,r⟩:=x;exact⟨m,⟨j,i,ep,k _ _ (.inl rfl) e,c⟩,r⟩
 |rng lo hi=>obtain⟨t,u,v,e⟩:=x;exact⟨t,u,v,k _ _ (.inl rfl) e⟩
 |frz ob u D=>obtain⟨e,q⟩:=x;exact⟨k _ _ (.inl rfl) e,D q⟩
 |tbl l=>
   obtain⟨J,ps,e,t,q⟩:=x;refine⟨J,ps,k _ _ (.inl rfl) e,t,λy E=>?_⟩;rcases q y E with z|⟨c,z,A,⟨L,o,vs,B,G,g,r⟩⟩
   ·exact .inl z
   ·cases G;exact .inr ⟨c,z,s _ A,⟨c,o,vs,B,rfl,k _ _ (.inr A) g,r⟩⟩
 |met f y=>
   have e:h.get? a=some (PySem.W.methodObj (.ref f) (.ref y)):=x;show h'.get? a=some (PySem.W.methodObj (.ref f) (.ref y));exact k a _ (.inl rfl) e
 |ext K=>obtain⟨p,⟨o,e⟩,st⟩:=x;exact⟨st _ _ p λo q=>k _ _ (.inl rfl) q,⟨o,k _ _ (.inl rfl) e⟩,st⟩
theorem HOk.lt(x:HOk P w H h)(e:H a=some o):a<h.objs.size:=(x a o e).lt
theorem HOk.fresh(x:HOk P w H h)(e:h.objs.size<=a):H a=none:=by
 cases q:H a with
 |none=>rfl
 |some u=>exact absurd (VU (x.lt q) e) (Wo _)
theorem HOk.kept(x:HOk P w H h)(k:∀b u,h.get? b=some u->h'.get? b=some u):HOk P w H h':=λa o e=>
 (x a o e).stay (λb u _ q=>k b u q) (λ_ q=>q) λ_ _ q=>q
theorem HOk.laid(x:HOk P w H h)(k:∀b u,h.get? b=some u->h'.get? b=some u)(hp:h.objs.size<=a)(new:ObjOk P w (upd H a o) h' a o):HOk P w (upd H a o) h':=λb u e=>by
 have d:=x.fresh hp;by_cases f:b=a
 ·subst f;rw[ao]at e;cases e;exact new
 ·rw[am f]at e;exact(x b u e).stay (λc v _ q=>k c v q) (λc q=>by rw[am (aL q d)];exact q) λc xs q=>by rw[am (aL q d)];exact q
end
def Rd(H:Hp)(a:Addr)(u:HO):Prop:=H a=some u\/∃o,H a=some (.frz o u)
theorem Rd.ok{P:Program}{w:World}{H:Hp}{h:Heap}{a:Addr}{u:HO}(r:Rd H a u)(x:HOk P w H h):ObjOk P w H h a u:=by
 rcases r with r|⟨o,r⟩
 ·exact x a u r
 ·obtain⟨_,q⟩:=x a _ r;exact q
def TZ:Option HO->Prop
 |some (.lst _)=>True
 |some (.dK _)=>True
 |some (.dT _)=>True
 |some (.set _ _)=>True
 |some (.ins _ _ _)=>True
 |some (.ext _)=>True
 |_=>False
section
variable{P:Program}{w:World}{H:Hp}{h h':Heap}{x e:Addr}{o':HO}
theorem HOk.write(ok:HOk P w H h)(g:TZ (H x))(n:e=x\/H e=some (.own x))(k:∀b u,b≠e->h.get? b=some u->h'.get? b=some u)(l:∃u,h'.get? e=some u)
 (new:ObjOk P w (upd H x o') h' x o'):HOk P w (upd H x o') h':=λb u q=>by
 have d:∀c y,H c=some (.own y)->c≠x:=λc y r z=>by subst z;rw[r]at g;exact g
 have f:∀c xs,H c=some (.tup xs)->c≠x:=λc xs r z=>by subst z;rw[r]at g;exact g
 by_cases j:b=x
 ·subst j;rw[ao]at q;cases q;exact new
 · rw[am j]at q;by_cases a:b=e
   · have m:H b=some (.own x):=by
      rcases n with z|z
      ·exact absurd (a.trans z) j
      ·rw[a];exact z
     rw[q]at m;cases m;obtain⟨v,o⟩:=l;exact⟨v,by rw[a];exact o⟩
   · refine(ok b u q).stay (λc v i r=>k c v ?_ r) (λc r=>by rw[am (d c b r)];exact r) λc xs r=>by rw[am (f c xs r)];exact r
     rcases i with rfl|i
     ·exact a
     · rintro rfl;rcases n with z|z
       ·exact d c b i z
       ·rw[i]at z;cases z;exact j rfl
end
structure Un (fs ex:List Addr) (H H':Hp) (h h':Heap):Prop where
 keep:∀b o,h.get? b=some o->H b=none->b∉fs->b∉ex->h'.get? b=some o
 slot:∀b o,h.get? b=some o->H b=none->b∈fs->b∉ex->∃sl,h'.get? b=some {o with slots:=sl}
 free:∀b o,h.get? b=some o->H b=none->b∉ex->H' b=none
 there:∀b o,h.get? b=some o->b∉ex->∃o',h'.get? b=some o'
 tups:∀b xs,H b=some (.tup xs)->H' b=some (.tup xs)
 frzs:∀b o u,H b=some (.frz o u)->H' b=some (.frz o u)
 tbls:∀b l,H b=some (.tbl l)->H' b=some (.tbl l)/\∀c o,H c=some (.own b)->h.get? c=some o->H' c=some (.own b)/\h'.get? c=some o
section
variable{fs fs' ex ex':List Addr}{H H1 H2:Hp}{h h1 h2 h':Heap}{a x e:Addr}{o:HO}
theorem Un.any(u:Un fs ex H H1 h h1){b:Addr}{ob:Obj}(q:h.get? b=some ob)(n:H b=none)(a:b∉ex):∃d,h1.get? b=some {ob with slots:=d}:=by
 by_cases c:b∈fs
 ·exact u.slot b ob q n c a
 ·exact⟨ob.slots,u.keep b ob q n c a⟩
theorem Un.kept(k:∀b u,h.get? b=some u->h'.get? b=some u):Un fs ex H H h h':=
 ⟨λb ob q _ _ _=>k b ob q,λb ob q _ _ _=>⟨ob.slots,k b ob q⟩,λ_ _ _ n _=>n,λb ob q _=>⟨ob,k b ob q⟩,λ_ _ q=>q,λ_ _ _ q=>q,λ_ _ q=>⟨q,λc o e1 a=>⟨e1,k c o a⟩⟩⟩
theorem Un.refl:Un fs ex H H h h:=Un.kept λ_ _ q=>q
theorem Un.laid(k:∀b u,h.get? b=some u->h'.get? b=some u)(hp:h.objs.size<=a)(d:H a=none):Un fs ex H (upd H a o) h h' where
 keep:=λb u q _ _ _=>k b u q
 slot:=λb u q _ _ _=>⟨u.slots,k b u q⟩
 free:=λb u q n _=>by rw[am (VY (VU (VD q) hp))];exact n
 there:=λb u q _=>⟨u,k b u q⟩
 tups:=λb xs q=>by rw[am (aL q d)];exact q
 frzs:=λb u xs q=>by rw[am (aL q d)];exact q
 tbls:=λb xs q=>⟨by rw[am (aL q d)];exact q,λc o e1 e=>⟨by rw[am (aL e1 d)];exact e1,k c o e⟩⟩
theorem Un.write(a:TZ (H x))(j:e=x\/H e=some (.own x))(k:∀b u,b≠e->h.get? b=some u->h'.get? b=some u)(g:∃u,h'.get? e=some u):Un fs ex H (upd H x o) h h':=by
 have i:∀b,H b=none->b≠x:=λb n z=>by subst z;rw[n]at a;exact a
 have l:∀b,H b=none->b≠e:=λb n z=>by
  subst z;rcases j with r|r
  ·exact i b n r
  ·rw[n]at r;cases r
 have d:∀b u,H b=some u->¬ TZ (some u)->b≠x:=λb u q m z=>by subst z;rw[q]at a;exact m a
 refine⟨λb u q n _ _=>k b u (l b n) q,λb u q n _ _=>⟨u.slots,k b u (l b n) q⟩,λb u q n _=>by rw[am (i b n)];exact n,λb u q _=>?_,
  λb xs q=>by rw[am (d b _ q λz=>z)];exact q,λb u xs q=>by rw[am (d b _ q λz=>z)];exact q,λb ps q=>⟨by rw[am (d b _ q λz=>z)];exact q,λc o e1 p=>⟨by rw[am (d c _ e1 λz=>z)];exact e1,k c o (λz=>by
   rcases j with r|r
   ·exact d c _ e1 (λz=>z) (z.trans r)
   ·rw[<-z,e1]at r;cases r;rw[q]at a;exact a) p⟩⟩⟩
 by_cases f:b=e
 ·subst f;exact g
 ·exact⟨u,k b u f q⟩
end
def T6(h:Heap)(H:Hp):List Addr:=(List.range h.objs.size).filter λa=>(H a).isSome
def mP(h:Heap)(H:Hp):Heap:=PySem.W.hideAll h (T6 h H)
theorem AY(h:Heap)(H:Hp):(mP h H).objs.size=h.objs.size:=PySem.W.hideAll_size _ _
theorem E1{h:Heap}{H:Hp}{b:Addr}{o:Obj}(e:h.get? b=some o)(n:H b=none):(mP h H).get? b=some o:=
 PySem.W.hideAll_get _ e λa=>by
  have q:(H b).isSome=true:=(WF.mp a).2;rw[n]at q;simp at q
theorem Il{h:Heap}{H:Hp}{b:Addr}{o:Obj}(e:(mP h H).get? b=some o):h.get? b=some o/\H b=none:=by
 have a:h.get? b=some o:=PySem.W.of_hideAll (T6 h H) e;refine⟨a,?_⟩;cases q:H b with
 |none=>rfl
 |some x=>
   have c:b∈T6 h H:=WF.mpr ⟨YA.mpr (VD a),by simp[q]⟩;have z:(mP h H).get? b=none:=PySem.W.hideAll_none (T6 h H) c;rw[z]at e;cases e
def Jx(g h:Heap)(L:Addr):P4:=(List.range h.objs.size).filterMap λa=>if a=L\/(g.get? a).isSome=true then none else (h.get? a).map λo=>(a,o)
def aY(g h:Heap)(L d:Addr):P4:=(Jx g h L).filter λp=>decide (p.1≠d)
structure Mod (K:F0) (mg:Str->Option Value) (base:Heap):Prop where
 kin:K.In base
 glob:base.Ns mainGlobals mg
 blt:∃mb,base.Ns builtinsNs mb/\∀x:Str,x ≠ "__name__" -> mb x=bootBuiltins x
 nolimit:base.NoLimit
 bmod:∃bm o,mg "__builtins__" = some (.ref bm)/\bm≠builtinsNs/\base.get? bm=some o/\o.cls=.type "module" /\ o.dict=some builtinsNs/\o.data=.plain
structure Cx where
 prog:Program
 w:World
 K:F0
 mg:Str->Option Value
 base:Heap
 A:Around
 N:List Str
 s₀:Shared
 H₀:Hp
 env:Env
 outer:List Env
 stack:List Env
 ex:List Addr
 fn:Str->Bool
 calm:Bool
 pn:P4
 xe:Value->Shared->Prop
def wM(l:List Env):List Addr:=l.filterMap (·.frame)
abbrev Cx.fs(X:Cx):List Addr:=wM X.outer
def Vi(sc:Scope)(x:Str):Prop:=sc.names.lookup x=some .local\/sc.names.lookup x=some .cell\/sc.names.lookup x=some .free
def T3(sc:Scope)(x:Str):Prop:=sc.names.lookup x=some .local\/sc.names.lookup x=some .cell
def Vk(env:Env)(h:Heap)(m:Str->Option Value)(x:Str)(u:Value):Prop:=
 (env.kindOf x=some .local/\m x=some u)\/((env.kindOf x=some .cell\/env.kindOf x=some .free)/\∃c,env.cells.lookup x=some c/\h.IsCell c (some u))
structure Cx.Ok (X:Cx):Prop where
 mod:Mod X.K X.mg X.base
 kind:X.env.scope.kind=.function
 glob:X.env.globals=mainGlobals
 blt:X.env.builtins=builtinsNs
 above:X.s₀.heap.objs.size<=X.env.locals
 inj:∀x y c,X.env.cells.lookup x=some c->X.env.cells.lookup y=some c->x=y
 has:∀x,(X.env.kindOf x=some .cell\/X.env.kindOf x=some .free)->∃c,X.env.cells.lookup x=some c
 cab:∀x c,X.fn x=true->X.env.cells.lookup x=some c->X.s₀.heap.objs.size<=c
 hd:X.calm=true->X.A.handled=none
 frames:X.A.frames=some X.stack
 stk:X.stack=X.outer\/(X.stack=X.env::X.outer/\X.env.frame=some X.env.locals)
 exf:∀b∈X.ex,b≠X.env.locals/\∀x c,X.env.cells.lookup x=some c->c≠b
 bs:∀b o,X.base.get? b=some o->X.s₀.heap.get? b=some o/\X.H₀ b=none
 bsz:X.base.objs.size<=X.s₀.heap.objs.size
 noex:∀b o,X.base.get? b=some o->b∉X.ex
 exfs:∀b∈X.ex,b∉X.fs
 funs:X.s₀.heap.FunFrames X.base X.outer
 frf:∀b∈X.fs,X.H₀ b=none
structure Inv (X:Cx) (G:P4) (Z:List (Option V)) (H:Hp) (s:Shared):Prop where
 ok:X.Ok
 os:s.os=X.s₀.os
 bare:AllBare s.gens
 base:Un X.fs X.ex X.H₀ H X.s₀.heap s.heap
 loc:∃m,s.heap.Ns X.env.locals m/\∀(i:Nat) (x:Str) (v:V),X.N[i]?=some x->Z[i]?=some (some v)->Vi X.env.scope x->∃u,RelV v u/\Vk X.env s.heap m x u
 cell:∀x c,X.env.cells.lookup x=some c->∃v,s.heap.IsCell c v
 free:H X.env.locals=none
 freeC:∀x c,X.env.cells.lookup x=some c->H c=none
 pin:∀p∈X.pn++G,s.heap.get? p.1=some p.2/\H p.1=none/\p.1≠X.env.locals/\p.1∉X.fs/\∀v,p.2.data≠ .cell v
 hok:HOk X.prog X.w H s.heap
 len:Z.length=X.N.length
section
variable{X:Cx}{G:P4}{Z:List (Option V)}{H H':Hp}{s:Shared}{h':Heap}
theorem Cx.Ok.nofr(ok:X.Ok){b:Addr}{o:Obj}(e:X.base.get? b=some o):b∉X.fs:=λa=>by
 have:=(ok.funs.mem a).1
 rw[e]at this;cases this
theorem Inv.bs(I:Inv X G Z H s):∀b o,X.base.get? b=some o->s.heap.get? b=some o/\H b=none:=λb o e=>
 ⟨I.base.keep b o (I.ok.bs b o e).1 (I.ok.bs b o e).2 (I.ok.nofr e) (I.ok.noex b o e),I.base.free b o (I.ok.bs b o e).1 (I.ok.bs b o e).2 (I.ok.noex b o e)⟩
theorem Inv.bk(I:Inv X G Z H s):∀b o,X.base.get? b=some o->s.heap.get? b=some o:=λb o e=>(I.bs b o e).1
theorem Inv.mod(I:Inv X G Z H s):Mod X.K X.mg X.base:=I.ok.mod
theorem Inv.kIn(I:Inv X G Z H s):X.K.In s.heap:=I.ok.mod.kin.keeps I.bk
theorem Inv.lt(I:Inv X G Z H s):X.env.locals<s.heap.objs.size:=let ⟨_,a,_⟩:=I.loc;a.lt
theorem Inv.sz(I:Inv X G Z H s):X.s₀.heap.objs.size<=s.heap.objs.size:=VT I.ok.above (Wj I.lt)
theorem Inv.nofs(I:Inv X G Z H s){a:Addr}(h:s.heap.objs.size<=a):a∉X.fs:=λc=>by
 obtain⟨_,o,b,_⟩:=I.ok.funs.mem c;exact absurd (VU (VD b) (VT I.sz h)) (Wo _)
theorem Inv.cne(I:Inv X G Z H s):∀x c,X.env.cells.lookup x=some c->c≠X.env.locals:=λx c e z=>by
 obtain⟨v,o,d,hd⟩:=I.cell x c e;obtain⟨m,⟨o',f,ep,a,b,_⟩,_⟩:=I.loc;rw[z,a]at d;cases d;rw[b]at hd;cases hd
theorem Inv.funs(I:Inv X G Z H s):s.heap.FunFrames X.base X.outer:=by
 have all:∀(l:List Env),(∀b∈wM l,b∈X.fs)->X.s₀.heap.FunFrames X.base l->s.heap.FunFrames X.base l:=by
  intro l
  induction l with
  |nil=>intro _ _;trivial
  |cons env r g=>
    intro f k;obtain⟨m,⟨L,o,a,j,i,hd⟩,h⟩:=k;have d:L∈X.fs:=f L (by unfold wM;rw[List.filterMap_cons,a];exact List.mem_cons_self);obtain⟨n,e⟩:=I.base.slot L o i (I.ok.frf L d) d λz=>I.ok.exfs L z d;exact⟨m,⟨L,_,a,j,e,hd⟩,g (λb c=>f b (by unfold wM;rw[List.filterMap_cons,a];exact List.mem_cons_of_mem _ c)) h⟩
 exact all X.outer (λ_ c=>c) I.ok.funs
theorem Inv.stack(I:Inv X G Z H s):s.heap.FunFrames X.base X.stack:=by
 rcases I.ok.stk with e|⟨e,b⟩
 ·rw[e];exact I.funs
 ·rw[e];obtain⟨m,a,_⟩:=I.loc;refine .cons (by rw[I.ok.kind];decide) b a ?_ I.funs;exact Heap.get?_none_of_le (VT I.ok.bsz I.ok.above)
theorem Inv.stkSub(I:Inv X G Z H s):∀b∈wM X.stack,b∈X.env.locals::X.fs:=λb a=>by
 rcases I.ok.stk with e|⟨e,c⟩
 ·rw[e]at a;exact Vu _ a
 ·rw[e]at a;unfold wM at a;rw[List.filterMap_cons,c]at a;exact a
theorem Inv.stkFree(I:Inv X G Z H s):∀b∈wM X.stack,H b=none:=λb a=>by
 rcases VA.mp (I.stkSub b a) with e|a
 ·rw[e];exact I.free
 ·obtain⟨_,o,c,_⟩:=I.ok.funs.mem a;exact I.base.free b o c (I.ok.frf b a) λz=>I.ok.exfs b z a
theorem Inv.step{g':Array GenState}{t':Nat}{d':Drawn}{ch:List Addr}(I:Inv X G Z H s)
 (g:∀b∈ch,(b∈X.ex\/X.s₀.heap.objs.size<=b)/\b≠X.env.locals/\(∀x c,X.env.cells.lookup x=some c->c≠b)/\∀p∈X.pn++G,p.1≠b)
 (keep:∀b o,b≠X.env.locals->b∉X.fs->b∉ch->s.heap.get? b=some o->H b=none->h'.get? b=some o)
 (slot:∀b o,b≠X.env.locals->b∈X.fs->b∉ch->s.heap.get? b=some o->H b=none->∃D,h'.get? b=some {o with slots:=D}) (free:∀b o,b∉ch->s.heap.get? b=some o->H b=none->H' b=none)
 (there:∀b o,b∉ch->s.heap.get? b=some o->∃o',h'.get? b=some o')
 (tups:∀b xs,H b=some (.tup xs)->H' b=some (.tup xs)) (frzs:∀b o u,H b=some (.frz o u)->H' b=some (.frz o u)) (tbls:∀b l,H b=some (.tbl l)->H' b=some (.tbl l)/\∀c o,H c=some (.own b)->s.heap.get? c=some o->H' c=some (.own b)/\h'.get? c=some o)
 (ns:∀m,s.heap.Ns X.env.locals m->h'.Ns X.env.locals m) (hok:HOk X.prog X.w H' h') (L:AllBare g'):
 Inv X G Z H' {s with heap:=h',gens:=g',drawn:=d',toks:=t'}:=by
 have A:∀b o,X.s₀.heap.get? b=some o->b≠X.env.locals:=λb o e=>VY (VU (VD e) I.ok.above)
 have j:∀b o,X.s₀.heap.get? b=some o->b∉X.ex->b∉ch:=λb o e a t=>by
  rcases(g b t).1 with z|z
  ·exact a z
  ·exact absurd (VU (VD e) z) (Wo _)
 have h:∀x c,X.env.cells.lookup x=some c->∀v,s.heap.IsCell c v->h'.IsCell c v:=λx c e v ⟨o,y,hd⟩=>by
  have f:c∉ch:=λz=>(g c z).2.2.1 x c e rfl;by_cases F:c∈X.fs
  ·obtain⟨D,q⟩:=slot c o (I.cne x c e) F f y (I.freeC x c e);exact⟨_,q,hd⟩
  ·exact⟨o,keep c o (I.cne x c e) F f y (I.freeC x c e),hd⟩
 refine⟨I.ok,I.os,L,⟨λb o e n t a=>?_,λb o e n t a=>?_,λb o e n a=>?_,λb o e a=>?_,λb xs e=>tups b xs (I.base.tups b xs e),λb o xs e=>frzs b o xs (I.base.frzs b o xs e),λb ps e=>⟨(tbls b ps (I.base.tbls b ps e).1).1,λc o e1 B=>let ⟨N,M⟩:=(I.base.tbls b ps e).2 c o e1 B;(tbls b ps (I.base.tbls b ps e).1).2 c o N M⟩⟩,?_,λx c e=>?_,?_,λx c e=>?_,λp hp=>?_,hok,I.len⟩
 ·exact keep b o (A b o e) t (j b o e a) (I.base.keep b o e n t a) (I.base.free b o e n a)
 ·obtain⟨D,e1⟩:=I.base.slot b o e n t a;obtain⟨C,B⟩:=slot b _ (A b o e) t (j b o e a) e1 (I.base.free b o e n a);exact⟨C,B⟩
 ·obtain⟨o',e1⟩:=I.base.there b o e a;exact free b o' (j b o e a) e1 (I.base.free b o e n a)
 ·obtain⟨o',e1⟩:=I.base.there b o e a;exact there b o' (j b o e a) e1
 · obtain⟨m,J,K⟩:=I.loc;refine⟨m,ns m J,λi x v e1 B O=>?_⟩;obtain⟨u,r,l⟩:=K i x v e1 B O;refine⟨u,r,?_⟩;rcases l with l|⟨k,c,e,z⟩
   ·exact .inl l
   ·exact .inr ⟨k,c,e,h x c e _ z⟩
 ·obtain⟨v,z⟩:=I.cell x c e;exact⟨v,h x c e v z⟩
 ·obtain⟨m,⟨o,_,_,y,_⟩,_⟩:=I.loc;exact free _ o (λz=>(g _ z).2.1 rfl) y I.free
 ·obtain⟨v,o,y,hd⟩:=I.cell x c e;exact free c o (λz=>(g c z).2.2.1 x c e rfl) y (I.freeC x c e)
 ·obtain⟨e,n,ne,E,d⟩:=I.pin p hp;have f:p.1∉ch:=λz=>(g p.1 z).2.2.2 p hp rfl;exact⟨keep p.1 p.2 ne E f e n,free p.1 p.2 f e n,ne,E,d⟩
theorem Inv.un{t':Nat}(I:Inv X G Z H s)(u:Un X.fs [] H H' s.heap h')(hok:HOk X.prog X.w H' h'):Inv X G Z H' {s with heap:=h',toks:=t'}:=by
 obtain⟨m,⟨o,p,ep,g,r⟩,_⟩:=id I.loc;obtain⟨k,j⟩:=u.any g I.free (by simp)
 exact I.step (g':=s.gens) (d':=s.drawn) (ch:=[]) (λ_ z=>nomatch z) (λb o _ c _ e n=>u.keep b o e n c (by simp)) (λb o _ c _ e n=>u.slot b o e n c (by simp)) (λb o _ e n=>u.free b o e n (by simp)) (λb o _ e=>u.there b o e (by simp)) u.tups u.frzs u.tbls (λl i=>by
  obtain⟨o',d,f,a,h⟩:=i;rw[g]at a;cases a
  exact⟨_,d,f,j,h⟩) hok I.bare
theorem Inv.call{g':Array GenState}{t':Nat}{d':Drawn}{ch:List Addr}(I:Inv X G Z H s)(u:Un (wM X.stack) ch H H' s.heap h')(hok:HOk X.prog X.w H' h')(q:AllBare g')
 (f:∀b∈ch,(b∈X.ex\/X.s₀.heap.objs.size<=b)/\b≠X.env.locals/\(∀x c,X.env.cells.lookup x=some c->c≠b)/\∀p∈X.pn++G,p.1≠b):
 Inv X G Z H' {s with heap:=h',gens:=g',drawn:=d',toks:=t'}:=by
 obtain⟨m,⟨o,A,ep,j,r⟩,_⟩:=id I.loc;obtain⟨v,g⟩:=u.any j I.free λz=>(f _ z).2.1 rfl
 exact I.step (ch:=ch) f (λb o g t a e n=>u.keep b o e n (λz=>(VA.mp (I.stkSub b z)).elim g t) a) (λb o _ _ a e n=>u.any e n a) (λb o a e n=>u.free b o e n a) (λb o a e=>u.there b o e a) u.tups u.frzs u.tbls (λy l=>by
  obtain⟨o',h,i,d,k⟩:=l;rw[j]at d;cases d
  exact⟨_,h,i,g,k⟩) hok q
theorem Inv.turned{t':Nat}{a:Addr}(I:Inv X G Z H s)(k:∀b o,b≠a->s.heap.get? b=some o->h'.get? b=some o)(g:H a=none)(h:a≠X.env.locals)
 (y:a∈X.ex\/X.s₀.heap.objs.size<=a) (w:∀x c,X.env.cells.lookup x=some c->c≠a) (t:∀p∈X.pn++G,p.1≠a):Inv X G Z H {s with heap:=h',toks:=t'}:=by
 have f:∀b u,H b=some u->b≠a:=λb u e z=>by rw[z,g]at e;cases e
 refine I.step (g':=s.gens) (d':=s.drawn) (ch:=[a]) (λb l=>?_) (λb o _ _ d e _=>k b o (λz=>d (by simp[z])) e) (λb o _ _ d e _=>⟨o.slots,k b o (λz=>d (by simp[z])) e⟩) (λ_ _ _ _ n=>n)
  (λb o d e=>⟨o,k b o (λz=>d (by simp[z])) e⟩) (λ_ _ e=>e) (λ_ _ _ e=>e) (λ_ _ e=>⟨e,λc o e1 B=>⟨e1,k c o (aL e1 g) B⟩⟩) (λm j=>?_) (λb u e=>?_) I.bare
 · have e:b=a:=by simpa using l
   subst e;exact⟨y,h,w,t⟩
 ·obtain⟨o,A,ep,i,r⟩:=j;exact⟨o,A,ep,k _ o (WZ h) i,r⟩
 · refine(I.hok b u e).stay (λc v d q=>k c v ?_ q) (λ_ q=>q) λ_ _ q=>q;rcases d with z|z
   ·rw[z];exact f b u e
   ·exact f c _ z
theorem Inv.tok(I:Inv X G Z H s)(t:Nat):Inv X G Z H {s with toks:=t}:=I.un (h':=s.heap) (t':=t) Un.refl I.hok
theorem Inv.kept{t':Nat}(I:Inv X G Z H s)(k:∀b u,s.heap.get? b=some u->h'.get? b=some u):Inv X G Z H {s with heap:=h',toks:=t'}:=I.un (Un.kept k) (I.hok.kept k)
theorem Inv.laid{a:Addr}{o:HO}{t':Nat}(I:Inv X G Z H s)(k:∀b u,s.heap.get? b=some u->h'.get? b=some u)(hp:s.heap.objs.size<=a)(new:ObjOk X.prog X.w (upd H a o) h' a o):
 Inv X G Z (upd H a o) {s with heap:=h',toks:=t'}:=I.un (Un.laid k hp (I.hok.fresh hp)) (I.hok.laid k hp new)
theorem Inv.write{x e:Addr}{o:HO}{t':Nat}(I:Inv X G Z H s)(c:TZ (H x))(d:e=x\/H e=some (.own x))(k:∀b u,b≠e->s.heap.get? b=some u->h'.get? b=some u)(a:∃u,h'.get? e=some u)
 (new:ObjOk X.prog X.w (upd H x o) h' x o):Inv X G Z (upd H x o) {s with heap:=h',toks:=t'}:=I.un (Un.write c d k a) (I.hok.write c d k a new)
theorem Inv.pins_of{a:P4}(I:Inv X G Z H s)(h:∀p∈a,s.heap.get? p.1=some p.2/\H p.1=none/\p.1≠X.env.locals/\p.1∉X.fs/\∀v,p.2.data≠ .cell v):Inv X a Z H s:=
 ⟨I.ok,I.os,I.bare,I.base,I.loc,I.cell,I.free,I.freeC,λp hp=>(Vy.mp hp).elim (λz=>I.pin p (VB _ z)) (h p),I.hok,I.len⟩
theorem tT{N:List Str}(c:N.Nodup){i j:Nat}{x:Str}(a:N[i]?=some x)(b:N[j]?=some x):i=j:=by
 obtain⟨f,e1⟩:=VI.mp a;obtain⟨e,d⟩:=VI.mp b;exact(List.getElem_inj c).mp (e1.trans d.symm)
theorem Ac{M:Model}{A:Around}{E:T1}{i:Nat}{x:Str}{v:V}{u:Value}{Q:Unit->Shared->Prop}(I:Inv X G Z H s)(hN:X.N.Nodup)(hi:X.N[i]?=some x)(B:T3 X.env.scope x)(r:RelV v u)
 (h:∀s',Inv X G (Z.set i (some v)) H s'->(∃a,Heap.SameBut a s.heap s'.heap/\(a=X.env.locals\/X.env.cells.lookup x=some a))->Q () s') (hf:X.fn x=true\/X.env.scope.names.lookup x=some .local:=by first | exact .inl rfl | exact .inr rfl | assumption):wpAny M A (storeName X.env x u) Q E s:=by
 obtain⟨m,hn,hl⟩:=id I.loc;have T:(X.env.scope.kind == .class||(X.env.scope.kind == .module&&X.env.locals != X.env.globals))=false:=by rw[I.ok.kind];rfl
 have J:i<Z.length:=by rw[I.len];exact(VI.mp hi).1
 have cne:=I.cne
 have g:∀{a:Addr} {h':Heap},(∃o,s.heap.get? a=some o/\H a=none)->Heap.SameBut a s.heap h'->HOk X.prog X.w H h':=λ{a h'} ha f b ob e=>by
  obtain⟨_,_,D⟩:=ha;refine(I.hok b ob e).stay (λc w' t q=>(f.2 c ?_).trans q) (λ_ q=>q) λ_ _ q=>q;rintro rfl;rcases t with rfl|t
  ·rw[D]at e;cases e
  ·rw[D]at t;cases t
 rcases B with F|F
 · refine wpAny_storeName_local F hn (λh' hn' f=>?_) T;obtain⟨oL,_,_,hoL,_⟩:=id hn;refine h _ ⟨I.ok,I.os,I.bare,⟨λb o e n O B=>?_,λb o e n O B=>?_,I.base.free,λb o e B=>?_,I.base.tups,I.base.frzs,λb l q=>⟨(I.base.tbls b l q).1,λc o e1 C=>let ⟨Y,f2⟩:=(I.base.tbls b l q).2 c o e1 C;⟨Y,(f.2 c (aL Y I.free)).trans f2⟩⟩⟩,⟨_,hn',λj y v' e1 C e3=>?_⟩,λy c e=>?_,I.free,I.freeC,λp hp=>?_,g ⟨oL,hoL,I.free⟩ f,by simpa using I.len⟩ ⟨_,f,.inl rfl⟩
   ·exact(f.2 b (VY (VU (VD e) I.ok.above))).trans (I.base.keep b o e n O B)
   ·obtain⟨sl,e1⟩:=I.base.slot b o e n O B;exact⟨sl,(f.2 b (VY (VU (VD e) I.ok.above))).trans e1⟩
   ·obtain⟨o',e1⟩:=I.base.there b o e B;exact⟨o',(f.2 b (VY (VU (VD e) I.ok.above))).trans e1⟩
   · by_cases K:j=i
     ·subst K;rw[hi]at e1;cases e1;rw[Xm J]at C;cases C;exact⟨u,r,.inl ⟨F,by simp⟩⟩
     · rw[YB (WZ K)]at C;obtain⟨u',r',q⟩:=hl j y v' e1 C e3;refine⟨u',r',?_⟩;rcases q with ⟨k,e⟩|⟨k,c,e,z⟩
       · refine .inl ⟨k,?_⟩
         have:y≠x:=λe=>K (tT hN e1 (e▸hi))
         simp[this,e]
       ·exact .inr ⟨k,c,e,z.sameBut f (cne y c e)⟩
   ·obtain⟨w',z⟩:=I.cell y c e;exact⟨w',z.sameBut f (cne y c e)⟩
   ·obtain⟨e,n,ne,nf,d⟩:=I.pin p hp;exact⟨(f.2 p.1 ne).trans e,n,ne,nf,d⟩
 · have L:X.fn x=true:=by
    rcases hf with z|z
    ·exact z
    ·rw[z]at F;cases F
   obtain⟨c,t⟩:=I.ok.has x (.inl F);obtain⟨w',z⟩:=I.cell x c t;refine wpAny_storeName_cell I.ok.kind F t z (λh' W f=>?_);obtain⟨oc,S,R⟩:=id z;refine h {s with heap:=h'} ⟨I.ok,I.os,I.bare,⟨λb o e n O B=>?_,λb o e n O B=>?_,I.base.free,λb o e B=>?_,I.base.tups,I.base.frzs,λb l q=>⟨(I.base.tbls b l q).1,λP o e1 C=>let ⟨Y,f2⟩:=(I.base.tbls b l q).2 P o e1 C;⟨Y,(f.2 P (aL Y (I.freeC x c t))).trans f2⟩⟩⟩,⟨m,hn.sameBut f (WZ (cne x c t)),λj y v' e1 C e3=>?_⟩,λy P e=>?_,I.free,I.freeC,λp hp=>?_,g ⟨oc,S,I.freeC x c t⟩ f,by simpa using I.len⟩ ⟨c,f,.inr t⟩
   ·exact(f.2 b (VY (VU (VD e) (I.ok.cab x c L t)))).trans (I.base.keep b o e n O B)
   ·obtain⟨sl,e1⟩:=I.base.slot b o e n O B;exact⟨sl,(f.2 b (VY (VU (VD e) (I.ok.cab x c L t)))).trans e1⟩
   ·obtain⟨o',e1⟩:=I.base.there b o e B;exact⟨o',(f.2 b (VY (VU (VD e) (I.ok.cab x c L t)))).trans e1⟩
   · by_cases K:j=i
     ·subst K;rw[hi]at e1;cases e1;rw[Xm J]at C;cases C;exact⟨u,r,.inr ⟨.inl F,c,t,W⟩⟩
     · rw[YB (WZ K)]at C;obtain⟨u',r',q⟩:=hl j y v' e1 C e3;refine⟨u',r',?_⟩;rcases q with q|⟨k,P,e,z'⟩
       ·exact .inl q
       ·refine .inr ⟨k,P,e,z'.sameBut f ?_⟩;rintro rfl;exact K (tT hN e1 (I.ok.inj _ _ _ e t▸hi))
   · by_cases U:P=c
     ·subst U;exact⟨_,W⟩
     ·obtain⟨w2,z2⟩:=I.cell y P e;exact⟨w2,z2.sameBut f U⟩
   ·obtain⟨e,n,ne,nf,d⟩:=I.pin p hp;refine⟨(f.2 p.1 ?_).trans e,n,ne,nf,d⟩;intro q;rw[q,S]at e;have q':oc=p.2:=VQ e;exact d w' (by rw[<-q'];exact R)
theorem s8{M:Model}{A:Around}{E:T1}{i:Nat}{x:Str}{v:V}{u:Value}{Q:Unit->Shared->Prop}(I:Inv X G Z H s)(d:X.N.Nodup)(hi:X.N[i]?=some x)(b:T3 X.env.scope x)(r:RelV v u)
 (h:∀a,Inv X G (Z.set i (some v)) H a->Q () a) (c:X.fn x=true\/X.env.scope.names.lookup x=some .local:=by first | exact .inl rfl | exact .inr rfl | assumption):wpAny M A (storeName X.env x u) Q E s:=
 Ac I d hi b r (λa e _=>h a e) c
theorem Inv.call'{a:Shared}{ch:List Addr}(I:Inv X G Z H s)(f:a.os=s.os)(u:Un (wM X.stack) ch H H' s.heap a.heap)(hok:HOk X.prog X.w H' a.heap)(g:AllBare a.gens)
 (d:∀b∈ch,(b∈X.ex\/X.s₀.heap.objs.size<=b)/\b≠X.env.locals/\(∀x c,X.env.cells.lookup x=some c->c≠b)/\∀p∈X.pn++G,p.1≠b):Inv X G Z H' a:=by
 obtain⟨h',g',d',t',o'⟩:=a;have e:o'=s.os:=f;subst e;exact I.call (g':=g') (t':=t') (d':=d') u hok g d
end
abbrev XK:=Value->Option Addr->Hp->Prop
abbrev St:=List (Option V)
abbrev VK:=V->Hp->Prop
abbrev TE:=St->Hp->VK->Prop
abbrev TT:=St->Hp->(Bool->Hp->Prop)->Prop
abbrev TA:=St->Hp->(List V->Hp->Prop)->Prop
structure Ends where
 nx:St->Hp->Prop
 rt:VK
 bk:St->Hp->Prop:=λ_ _=>False
 ct:St->Hp->Prop:=λ_ _=>False
abbrev TS:=Ends->St->Hp->Prop
def EP(X:Cx)(G:P4)(Z:St)(Q:VK)(u:Value)(a:Shared):Prop:=∃v H',Inv X G Z H' a/\RelV v u/\Q v H'
def TP(X:Cx)(G:P4)(Z:St)(Q:Bool->Hp->Prop)(b:Bool)(a:Shared):Prop:=∃H',Inv X G Z H' a/\Q b H'
def AP(X:Cx)(G:P4)(Z:St)(Q:List V->Hp->Prop)(us:List Value)(a:Shared):Prop:=∃vs H',Inv X G Z H' a/\Vals vs us/\Q vs H'
def SP(X:Cx)(G:P4)(D:Ends)(f:Flow)(b:Shared):Prop:=
 match f with
 |.next=>∃a H',Inv X G a H' b/\D.nx a H'
 |.brk=>∃a H',Inv X G a H' b/\D.bk a H'
 |.cont=>∃a H',Inv X G a H' b/\D.ct a H'
 |.ret u=>∃v a H',Inv X G a H' b/\RelV v u/\D.rt v H'
def PE(X:Cx)(e:Expr)(t:TE):Prop:=
 ∀(G:P4) (s:Shared) (Z:St) (H:Hp) (Q:VK),Inv X G Z H s->t Z H Q->wpAny (model X.prog X.w) X.A (eval e X.env) (EP X G Z Q) X.xe s
def PT(X:Cx)(e:Expr)(t:TT):Prop:=
 ∀(G:P4) (s:Shared) (Z:St) (H:Hp) (Q:Bool->Hp->Prop),Inv X G Z H s->t Z H Q->wpAny (model X.prog X.w) X.A (isTrue e X.env (eval e X.env)) (TP X G Z Q) X.xe s
def PW(X:Cx)(e:Expr)(t:TT):Prop:=
 ∀(whole:Sem Value) (G:P4) (s:Shared) (Z:St) (H:Hp) (Q:Bool->Hp->Prop),Inv X G Z H s->t Z H Q->wpAny (model X.prog X.w) X.A (isTrue e X.env whole) (TP X G Z Q) X.xe s
theorem PW.pt{X:Cx}{e:Expr}{t:TT}(h:PW X e t):PT X e t:=h _
def PA(X:Cx)(a:List Expr)(t:TA):Prop:=
 ∀(pos:Pos) (G:P4) (s:Shared) (Z:St) (H:Hp) (Q:List V->Hp->Prop),Inv X G Z H s->t Z H Q->wpAny (model X.prog X.w) X.A (spliced (backTo pos (starEach a X.env))) (AP X G Z Q) X.xe s
def PS(X:Cx)(st:Stmt)(t:TS):Prop:=
 ∀(G:P4) (s:Shared) (Z:St) (H:Hp) (D:Ends),Inv X G Z H s->t D Z H->wpAny (model X.prog X.w) X.A (exec st X.env) (SP X G D) X.xe s
def PSs(X:Cx)(st:List Stmt)(t:TS):Prop:=
 ∀(G:P4) (s:Shared) (Z:St) (H:Hp) (D:Ends),Inv X G Z H s->t D Z H->wpAny (model X.prog X.w) X.A (execs st X.env) (SP X G D) X.xe s
theorem a7{W:Type}{t:Sem W}{Q b:W->Shared->Prop}{M:Model}{A:Around}{E:T1}{s:Shared}(h:wpAny M A t Q E s)(c:∀a s,Q a s->b a s):wpAny M A t b E s:=Xw h c λ_ _ x=>x
section
variable{X:Cx}
def bI(i:Nat):TE:=λZ H Q=>∃v,Z[i]?=some (some v)/\Q v H
def tC(v:V):TE:=λ_ H Q=>Q v H
theorem MA{i:Nat}{x:Str}{pos:Pos}(p:X.N[i]?=some x)(j:Vi X.env.scope x)(hd:(x==("__debug__" : Str))=false:=by decide)(f:(x==("__classdict__" : Str))=false:=by decide):PE X (.Name x pos) (bI i):=by
 intro G s Z H Q I h;obtain⟨v,e,h⟩:=h;obtain⟨m,k,o⟩:=I.loc;obtain⟨u,r,l⟩:=o i x v p e j;have d:EP X G Z Q u s:=⟨v,H,I,r,h⟩;rcases l with ⟨b,n⟩|⟨b,c,g,a⟩
 ·exact wpAny_Name (wpAny_loadName_local I.ok.kind b k n d) hd
 · rcases b with b|b
   ·exact wpAny_Name (wpAny_loadName_cell I.ok.kind b g a d) hd
   ·exact wpAny_Name (wpAny_loadName_free I.ok.kind b g a d f) hd
theorem MG{i j pos}:PE X (.Constant (.int i) j pos) (tC (.int i)):=λ_ _ _ H _ I h=>wpAny_Constant_int ⟨.int i,H,I.tok _,⟨_,rfl⟩,h⟩
theorem Rf{b j pos}:PE X (.Constant (.bool b) j pos) (tC (.bl b)):=λ_ _ _ H _ I h=>Constant_bool ⟨.bl b,H,I,rfl,h⟩
theorem ME{j pos}:PE X (.Constant .none j pos) (tC .non):=λ_ _ _ H _ I h=>Constant_none ⟨.non,H,I,rfl,h⟩
def Gl(X:Cx)(x:Str):Prop:=X.env.kindOf x=some .globalImplicit
theorem q8{E:T1}{G:P4}{s:Shared}{Z:St}{H:Hp}{x:Str}{u:Value}{pos:Pos}{Q:T1}(I:Inv X G Z H s)(b:Gl X x)(a:X.mg x=some u)(h:Q u s)
 (hd:(x==("__debug__" : Str))=false:=by decide):wpAny (model X.prog X.w) X.A (eval (.Name x pos) X.env) Q E s:=
 XH I.ok.kind b (Calls.loadGlobal_global (by rw[I.ok.glob];exact I.mod.glob.keeps I.bk) a h) hd
theorem kq{E:T1}{G:P4}{s:Shared}{Z:St}{H:Hp}{x:Str}{u:Value}{pos:Pos}{Q:T1}(I:Inv X G Z H s)(d:Gl X x)(c:X.mg x=none)(a:bootBuiltins x=some u)(h:Q u s)
 (b:x ≠ "__name__" := by decide) (hd:(x==("__debug__" : Str))=false:=by decide):wpAny (model X.prog X.w) X.A (eval (.Name x pos) X.env) Q E s:=by
 obtain⟨g,f,e⟩:=I.mod.blt;exact XH I.ok.kind d (Calls.loadGlobal_builtin (by rw[I.ok.glob];exact I.mod.glob.keeps I.bk) c (by rw[I.ok.blt];exact f.keeps I.bk) ((e x b).trans a) h) hd
theorem HM{x:Str}{v:V}{u:Value}{pos:Pos}(b:Gl X x)(a:X.mg x=some u)(r:RelV v u)(hd:(x==("__debug__" : Str))=false:=by decide):PE X (.Name x pos) (tC v):=
 λ_ _ _ H _ I h=>q8 I b a ⟨v,H,I,r,h⟩ hd
variable{a b:Expr}{ta tb:TE}{pos:Pos}
def PC(X:Cx)(op:CmpOp)(a b:Expr)(t:TE):Prop:=
 ∀(G:P4) (s:Shared) (Z:St) (H:Hp) (Q:VK),Inv X G Z H s->t Z H Q->
  wpAny (model X.prog X.w) X.A (eval a X.env) (λv d=>wpAny (model X.prog X.w) X.A (eval b X.env) (λu c=>wpAny (model X.prog X.w) X.A (compareOp op v u) (EP X G Z Q) X.xe c) X.xe d) X.xe s
theorem tV(b:Expr){op:CmpOp}(h:op≠ .In)(a:op≠ .NotIn):behindInMarks op b=false:=by
 have e1:(op == CmpOp.In)=false:=by cases op <;> first | rfl | exact absurd rfl h
 have c:(op == CmpOp.NotIn)=false:=by cases op <;> first | rfl | exact absurd rfl a
 cases b<;>simp[behindInMarks,e1,c]
def tB(t:TE):TT:=λZ H Q=>t Z H λx H1=>∃c,x=.bl c/\Q c H1
theorem MI{op:CmpOp}{t:TE}(h:PC X op a b t)(d:behindInMarks op b=false:=by first | exact tV _ (by decide) (by decide) | rfl):PE X (.Compare a [op] [b] pos) t:=λG s Z H Q I c=>wpAny_Compare1 (h G s Z H Q I c) d
theorem Mf{op:CmpOp}{t:TE}(h:PC X op a b t)(e:behindInMarks op b=false:=by first | exact tV _ (by decide) (by decide) | rfl):PT X (.Compare a [op] [b] pos) (tB t):=by
 intro G s Z H Q I i;refine wpAny_isTrue_Compare1 (a7 (h G s Z H _ I i) λv n e=>a7 e λu m j=>a7 j λc l ⟨x,H1,k,f,g⟩=>?_) e;obtain⟨d,rfl,q⟩:=g;cases f;exact WT ⟨H1,k,q⟩
theorem Me{e:Expr}{t:TE}(h:PE X e t)(f:∀whole,isTrue e X.env whole=(do let v <-whole;standAt e.pos;holding [v] (truthy v)):=by intro _;rfl):PT X e (tB t):=by
 intro G s Z H Q I c;refine isTrue_plain (a7 (h G s Z H _ I c) λv i ⟨x,H1,g,a,b⟩=>?_) (f _);obtain⟨d,rfl,q⟩:=b;cases a;exact WT ⟨H1,g,q⟩
variable{tA tB':TT}{aY:List Expr}
def LM(t u:TT):TT:=λZ H Q=>t Z H λc H1=>if c=true then u Z H1 Q else Q false H1
def Uz(t u:TT):TT:=λZ H Q=>t Z H λc H1=>if c=true then Q true H1 else u Z H1 Q
theorem Hn(b:PT X a tA):PW X (.BoolOp .And [a] pos) tA:=by
 intro d G s Z H Q I h;refine isTrue_and (a7 (b G s Z H Q I h) λc f e=>?_);cases c with
 |true=>exact isTrue_and_nil e
 |false=>exact e
theorem Ma(b:PT X a tA):PW X (.BoolOp .Or [a] pos) tA:=by
 intro d G s Z H Q I h;refine isTrue_or (a7 (b G s Z H Q I h) λc f e=>?_);cases c with
 |false=>exact isTrue_or_nil e
 |true=>exact e
theorem Mb(j:PT X a tA)(i:PW X (.BoolOp .And (b::aY) pos) tB'):PW X (.BoolOp .And (a::b::aY) pos) (LM tA tB'):=by
 intro f G s Z H Q I h;refine isTrue_and (a7 (j G s Z H _ I h) λc g ⟨H1,e,d⟩=>?_);cases c with
 |true=>exact i f G g Z H1 Q e d
 |false=>exact⟨H1,e,d⟩
theorem Q4(j:PT X a tA)(i:PW X (.BoolOp .Or (b::aY) pos) tB'):PW X (.BoolOp .Or (a::b::aY) pos) (Uz tA tB'):=by
 intro f G s Z H Q I h;refine isTrue_or (a7 (j G s Z H _ I h) λc g ⟨H1,e,d⟩=>?_);cases c with
 |true=>exact⟨H1,e,d⟩
 |false=>exact i f G g Z H1 Q e d
def BJ(ta:TE):TE:=λZ H Q=>ta Z H λx H1=>∃c,x=.bl c/\Q (.bl (!c)) H1
theorem MC(e:PE X a ta):PE X (.UnaryOp .Not a pos) (BJ ta):=by
 intro G s Z H Q I h;refine UnaryOp_ (a7 (e G s Z H _ I h) λv g ⟨x,H1,f,d,b⟩=>?_);obtain⟨c,rfl,b⟩:=b;cases d;exact not_of (WT ⟨.bl (!c),H1,f,rfl,b⟩)
end
def SqL(K:F0)(H:Hp)(a:Addr)(xs:List V):Prop:=
 Rd H a (.lst xs)\/
  ∃(o:Obj) (its:Array Value) (n:Nat),K.lookup a=some o/\o.cls=.type "list" /\ o.dict=none/\o.data=.seq its n/\its.size<=sizeLine/\Vals xs its.toList
def SqT(K:F0)(H:Hp)(a:Addr)(xs:List V):Prop:=
 Rd H a (.tup xs)\/
  ∃(o:Obj) (its:Array Value) (n:Nat),K.lookup a=some o/\o.cls=.type "tuple" /\ o.data=.seq its n/\its.size<=sizeLine/\Vals xs its.toList
def Vh:Value->Option V
 |.none=>some .non
 |.bool b=>some (.bl b)
 |.int i _=>some (.int i)
 |.str x _=>some (.str x)
 |.bytes b _=>some (.byt b)
 |.float b _=>some (.flt b)
 |.ref a=>some (.ref a)
 |.type n=>some (.ty n)
 |_=>none
theorem RelV.abs{x:V}{u:Value}(r:RelV x u):Vh u=some x:=by
 cases x with
 |non=>cases r;rfl
 |bl _=>cases r;rfl
 |int _=>obtain⟨t,rfl⟩:=r;rfl
 |str _=>obtain⟨t,rfl⟩:=r;rfl
 |byt _=>obtain⟨t,rfl⟩:=r;rfl
 |flt _=>obtain⟨t,rfl⟩:=r;rfl
 |ref _=>cases r;rfl
 |ty _=>cases r;rfl
theorem RelV.inj{x y:V}{u:Value}(r:RelV x u)(q:RelV y u):x=y:=VQ (r.abs.symm.trans q.abs)
theorem Vals.inj:∀{xs ys:List V} {us:List Value},Vals xs us->Vals ys us->xs=ys
 |_,_,_,.nil,.nil=>rfl
 |_,_,_,.cons r t,.cons a t'=>by rw[r.inj a,Vals.inj t t']
section
variable{X:Cx}{G:P4}{Z:St}{H:Hp}{s:Shared}{a:Addr}{xs ys:List V}
theorem SqL.of{K:F0}(h:H a=some (.lst xs)):SqL K H a xs:=.inl (.inl h)
theorem SqT.of{K:F0}(h:H a=some (.tup xs)):SqT K H a xs:=.inl (.inl h)
theorem Inv.list(I:Inv X G Z H s)(h:SqL X.K H a xs):∃its:List Value,Vals xs its/\PlainL s.heap a its.toArray/\xs.length<=sizeLine:=by
 rcases h with h|⟨o,its,n,c,d,hd,b,hz,r⟩
 ·obtain⟨z,its,n,r,e⟩:=h.ok I.hok;exact⟨its,r,⟨_,n,e,rfl,rfl,rfl⟩,z⟩
 ·refine⟨its.toList,r,⟨o,n,I.kIn a o c,d,hd,by simpa using b⟩,?_⟩;have e:=r.length;simp only[Wi]at e;omega
theorem Inv.tuple(I:Inv X G Z H s)(h:SqT X.K H a xs):∃its:List Value,Vals xs its/\IsTup s.heap a its.toArray/\xs.length<=sizeLine:=by
 rcases h with h|⟨o,its,n,c,d,b,hz,r⟩
 ·obtain⟨z,its,r,p⟩:=h.ok I.hok;exact⟨its,r,p,z⟩
 ·refine⟨its.toList,r,⟨o,I.kIn a o c,d,n,by simpa using b⟩,?_⟩;have e:=r.length;simp only[Wi]at e;omega
theorem Inv.list_inj(I:Inv X G Z H s)(h:SqL X.K H a xs)(h':SqL X.K H a ys):xs=ys:=by
 obtain⟨its,r,⟨o,n,e,_,_,d⟩,_⟩:=I.list h;obtain⟨its',c,⟨o',f,b,_,_,d'⟩,_⟩:=I.list h';rw[e]at b;cases b;rw[d]at d';injection d' with J _
 have:its=its':=by simpa using congrArg Array.toList J
 subst this;exact r.inj c
end
abbrev Cx.wish(X:Cx)(E:T1):Cx:={X with xe:=E}
abbrev Cx.nox(X:Cx):Cx:=X.wish λ_ _=>False
theorem Cx.Ok.wish{X:Cx}(ok:X.Ok)(E:T1):(X.wish E).Ok:=
 ⟨ok.mod,ok.kind,ok.glob,ok.blt,ok.above,ok.inj,ok.has,ok.cab,ok.hd,ok.frames,ok.stk,ok.exf,ok.bs,ok.bsz,ok.noex,ok.exfs,ok.funs,ok.frf⟩
theorem Cx.Ok.unwish{X:Cx}{E:T1}(ok:(X.wish E).Ok):X.Ok:=
 ⟨ok.mod,ok.kind,ok.glob,ok.blt,ok.above,ok.inj,ok.has,ok.cab,ok.hd,ok.frames,ok.stk,ok.exf,ok.bs,ok.bsz,ok.noex,ok.exfs,ok.funs,ok.frf⟩
section
variable{X:Cx}{G:P4}{Z:St}{H:Hp}{s:Shared}{E:T1}
theorem Inv.wish(I:Inv X G Z H s)(E:T1):Inv (X.wish E) G Z H s:=⟨I.ok.wish E,I.os,I.bare,I.base,I.loc,I.cell,I.free,I.freeC,I.pin,I.hok,I.len⟩
theorem Inv.unwish(I:Inv (X.wish E) G Z H s):Inv X G Z H s:=⟨I.ok.unwish,I.os,I.bare,I.base,I.loc,I.cell,I.free,I.freeC,I.pin,I.hok,I.len⟩
theorem SP.unwish{D:Ends}{f:Flow}{b:Shared}(h:SP (X.wish E) G D f b):SP X G D f b:=by
 cases f with
 |next=>obtain⟨a,H',I,q⟩:=h;exact⟨a,H',I.unwish,q⟩
 |brk=>obtain⟨a,H',I,q⟩:=h;exact⟨a,H',I.unwish,q⟩
 |cont=>obtain⟨a,H',I,q⟩:=h;exact⟨a,H',I.unwish,q⟩
 |ret u=>obtain⟨v,a,H',I,r,q⟩:=h;exact⟨v,a,H',I.unwish,r,q⟩
theorem PSs.nox{st:List Stmt}{t:TS}(h:PSs X.nox st t):PSs X st t:=λG s Z H D I a=>
 Xw (h G s Z H D (I.wish _) a) (λ_ _ q=>q.unwish) λ_ _ z=>False.elim z
end
section
variable{X:Cx}{st:Stmt}{aY:List Stmt}{t u:TS}{e:Expr}{te:TE}{pos:Pos}
def kZ:TS:=λD Z H=>D.nx Z H
def lN(t u:TS):TS:=λD Z H=>t {D with nx:=u D} Z H
theorem Hv:PSs X [] kZ:=λ_ _ Z H _ I h=>XA ⟨Z,H,I,h⟩
theorem CF(d:PS X st t)(c:PSs X aY u):PSs X (st::aY) (lN t u):=by
 intro G s Z H D I h;refine wpAny_execs_cons (a7 (d G s Z H {D with nx:=u D} I h) λf b q=>?_);cases f with
 |next=>
   obtain⟨a,H',e,q⟩:=q;exact c G b a H' D e q
 |ret v=>exact q
 |brk=>exact q
 |cont=>exact q
theorem Hu(a:PS X st t):PSs X [st] t:=by
 intro G s Z H D I h;refine wpAny_execs_cons (a7 (a G s Z H D I h) λf b q=>?_);cases f with
 |next=>exact XA q
 |ret v=>exact q
 |brk=>exact q
 |cont=>exact q
theorem Inv.quiet{G:P4}{Z:St}{H:Hp}{s:Shared}(I:Inv X G Z H s):interactive X.env=false:=by simp[interactive,I.ok.kind]
def iT(te:TE):TS:=λD Z H=>te Z H λ_ H1=>D.nx Z H1
theorem Hy(c:PE X e te)(b:swapsWith e none pos.line X.env=pure false:=by rfl):PS X (.Expr e pos) (iT te):=by
 intro G s Z H D I h;exact wpAny_Expr_any (a7 (c G s Z H _ I h) λv f ⟨x,H1,d,g,a⟩=>⟨Z,H1,d,a⟩) I.quiet b
def LK(te:TE):TS:=λD Z H=>te Z H D.rt
theorem Mj(c:PE X e te):PS X (.Return (some e) pos) (LK te):=by
 intro G s Z H D I h;exact wpAny_Return_some (a7 (c G s Z H _ I h) λv f ⟨x,H1,d,a,b⟩=>⟨x,Z,H1,d,a,b⟩)
def BI:TS:=λD _ H=>D.rt .non H
theorem Hw:PS X (.Return none pos) BI:=λ_ _ Z H _ I h=>wpAny_Return_none ⟨.non,Z,H,I,rfl,h⟩
def sY(c:TT)(t u:TS):TS:=λD Z H=>c Z H λb H1=>if b=true then t D Z H1 else u D Z H1
theorem Q6{c:Expr}{a b:List Stmt}{tc:TT}(i:PT X c tc)(k:PSs X a t)(j:PSs X b u):PS X (.If c a b pos) (sY tc t u):=by
 intro G s Z H D I h;refine wpAny_If (a7 (i G s Z H _ I h) λd e ⟨H1,g,f⟩=>?_);cases d with
 |true=>exact k G e Z H1 D g f
 |false=>exact j G e Z H1 D g f
def vP:TS:=λ_ _ _=>False
theorem CH:PS X st vP:=λ_ _ _ _ _ _ h=>h.elim
end
abbrev TG:=V->St->Hp->(St->Hp->Prop)->Prop
abbrev P5:=List V->St->Hp->(St->Hp->Prop)->Prop
def PG(X:Cx)(a:Expr)(t:TG):Prop:=
 ∀(G:P4) (s:Shared) (Z:St) (H:Hp) (v:V) (u:Value) (Q:St->Hp->Prop),Inv X G Z H s->RelV v u->t v Z H Q->
  wpAny (model X.prog X.w) X.A (assign a X.env u) (λ_ c=>∃b H',Inv X G b H' c/\Q b H') X.xe s
def TX(X:Cx)(b:List Expr)(t:P5):Prop:=
 ∀(G:P4) (s:Shared) (Z:St) (H:Hp) (vs:List V) (us:List Value) (Q:St->Hp->Prop),Inv X G Z H s->Vals vs us->t vs Z H Q->
  wpAny (model X.prog X.w) X.A (assignInOrder ((assignEach b X.env).map (·.2)) us) (λ_ c=>∃a H',Inv X G a H' c/\Q a H') X.xe s
abbrev PZ:=V->V->V->Hp->(Hp->Prop)->Prop
def TW(X:Cx)(t:PZ):Prop:=
 ∀(G:P4) (s:Shared) (Z:St) (H:Hp) (o i v:V) (ov a u:Value) (Q:Hp->Prop),Inv X G Z H s->RelV o ov->RelV i a->RelV v u->t o i v H Q->
  wpAny (model X.prog X.w) X.A (setItem ov a u) (λ_ b=>∃H',Inv X G Z H' b/\Q H') X.xe s
section
variable{X:Cx}{pos:Pos}
def b7(i:Nat):TG:=λv Z H Q=>Q (Z.set i (some v)) H
theorem qI{i:Nat}{x:Str}(c:X.N.Nodup)(hi:X.N[i]?=some x)(a:T3 X.env.scope x)(b:X.fn x=true\/X.env.scope.names.lookup x=some .local:=by first | exact .inl rfl | exact .inr rfl | assumption):PG X (.Name x pos) (b7 i):=by
 intro G s Z H v u Q I r h;exact wpAny_assign_Name (s8 I c hi a r (λe d=>⟨_,H,d,h⟩) b)
def OL:P5:=λvs Z H Q=>vs=[]/\Q Z H
def yZ(t:TG)(u:P5):P5:=λvs Z H Q=>∃v r,vs=v::r/\t v Z H λa H'=>u r a H' Q
theorem HI:TX X [] OL:=by
 intro G s Z H vs us Q I r h;obtain⟨e,h⟩:=h;subst e;cases r;exact assignInOrder_nil ⟨Z,H,I,h⟩
theorem CM{e:Expr}{a:List Expr}{t:TG}{u:P5}(j:PG X e t)(i:TX X a u)
 (g:(assignEach (e::a) X.env).map (·.2)=assign e X.env::(assignEach a X.env).map (·.2):=by rfl):TX X (e::a) (yZ t u):=by
 intro G s Z H vs us Q I r h;obtain⟨v,vr,e1,h⟩:=h;subst e1;cases r with
 |cons r d=>
   rw[g];refine assignInOrder_cons (a7 (j G s Z H _ _ _ I r h) λ_ c ⟨b,H1,k,f⟩=>?_);exact i G c b H1 _ _ Q k d f
def OJ(K:F0)(n:Nat)(t:P5):TG:=λv Z H Q=>∃a xs,v=.ref a/\SqT K H a xs/\xs.length=n/\t xs Z H Q
theorem My{c:List Expr}{k:Nat}{t:P5}{n:Nat}(q:X.calm=true)(h:TX X c t)
 (m:(assignEach c X.env).length=n:=by rfl) (f:(assignEach c X.env).findIdx? (·.1)=none:=by rfl):PG X (.Tuple c k pos) (OJ X.K n t):=by
 intro G s Z H v u Q I r d;obtain⟨a,xs,e1,l,p,d⟩:=d;subst e1;cases r;obtain⟨its,g,j,hz⟩:=I.tuple l;refine assign_Tuple_tuple (I.ok.hd q) j (by simp[m,<-p,g.length]) f λh' i=>?_;have w:Inv X G Z H {s with heap:=h'}:=I.kept (t':=s.toks) λb o e=>i b o (VY (VD e)) e;exact h G _ Z H xs _ Q w (by simpa using g) d
def OK(to a:TE)(t:PZ):TG:=λv Z H Q=>to Z H λo H1=>a Z H1 λi c=>t o i v c λb=>Q Z b
theorem Mz{o i:Expr}{to b:TE}{t:PZ}(m:PE X o to)(hi:PE X i b)(l:TW X t)
 (n:∀v,assign (.Subscript o i pos) X.env v=(do
   let ov <-holding [v] (eval o X.env)
   let a <-holding [v,ov] (eval i X.env)
   standAt pos
   holding [v,ov,a] (setItem ov a v)
   release [v,ov,a] []):=by intro _;rfl):PG X (.Subscript o i pos) (OK to b t):=by
 intro G s Z H v u Q I r h;rw[n];refine Vp (WW (a7 (m G s Z H _ I h) λov d ⟨x,H1,w,f,k⟩=>?_));refine Vp (WW (a7 (hi G d Z H1 _ w k) λa c ⟨y,A,q,e,j⟩=>?_));refine Vp (X5 (Vp (WW (a7 (l G c Z A x y v ov a u _ q f e r j) λ_ B ⟨z,p,g⟩=>?_))));exact wpAny_release ⟨Z,z,p,g⟩
def l7(te:TE)(g:TG):TS:=λD Z H=>te Z H λx H1=>g x Z H1 D.nx
theorem Mn{a e:Expr}{te:TE}{g:TG}(k:PE X e te)(j:PG X a g)(i:swapsWithSole [a] e pos.line X.env=pure false:=by rfl)(f:swappedStores [a] e X.env=pure none:=by rfl)
 (l:(assignEach [a] X.env).map (·.2)=[assign a X.env]:=by rfl):PS X (.Assign [a] e pos) (l7 te g):=by
 intro G s Z H D I h;refine wpAny_Assign_stores (a7 (k G s Z H _ I h) λv b ⟨x,H1,m,c,d⟩=>?_) i f;rw[l];exact a7 (j G b Z H1 x v _ m c d) λ_ n q=>q
theorem Mh{i:Nat}{x:Str}{e:Expr}{te:TE}{a:Pos}(k:X.N.Nodup)(hi:X.N[i]?=some x)(d:T3 X.env.scope x)(j:PE X e te)(f:swapsWith e (some (.Name x a)) pos.line X.env=pure false:=by rfl)(g:X.fn x=true\/X.env.scope.names.lookup x=some .local:=by first | exact .inl rfl | exact .inr rfl | assumption):
 PS X (.Assign [.Name x a] e pos) (l7 te (b7 i)):=by
 intro G s Z H D I h;refine wpAny_Assign_Name (a7 (j G s Z H _ I h) λv o ⟨y,H1,m,b,c⟩=>?_) f;exact s8 m k hi d b (λn l=>⟨_,H1,l,c⟩) g
end
section
variable{X:Cx}{pos:Pos}
def vO(c:TT)(tb:TS):TS:=λD Z H=>∃W:Nat->St->Hp->Prop,(∃m,W m Z H)/\∀m Z H,W m Z H->
 c Z H λb H1=>if b=true then ∃N:St->Hp->Prop,(∀a H',N a H'->∃d,d<m/\W d a H')/\tb {D with nx:=N,ct:=N,bk:=D.nx} Z H1 else D.nx Z H1
theorem CG{c:Expr}{e:List Stmt}{tc:TT}{tb:TS}(hp:PassesOwn (model X.prog X.w) X.A X.env X.xe)(J:PT X c tc)(K:PSs X e tb):PS X (.While c e [] pos) (vO tc tb):=by
 intro G s Z H D I h;obtain⟨W,⟨F,z⟩,i⟩:=h;refine wpAny_While (codeAny_whileLoop (λn E=>∃g H',Inv X G g H' E/\W n g H') ?_ F ⟨Z,H,I,z⟩);rintro n C ⟨d,H1,L,y⟩;refine WR hp (a7 (J G C d H1 _ L (i n d H1 y)) λb B ⟨x,u,l⟩=>?_);cases b with
 |true=>
   obtain⟨N,t,l⟩:=l;rw[Vo rfl];refine WR hp (a7 (K G B d x _ u l) λf M k=>?_);cases f with
   |next=>
     obtain⟨a,j,r,o⟩:=k;obtain⟨p,q,m⟩:=t a j o;exact⟨p,q,a,j,r,m⟩
   |cont=>
     obtain⟨a,j,r,o⟩:=k;obtain⟨p,q,m⟩:=t a j o;exact⟨p,q,a,j,r,m⟩
   |brk=>exact k
   |ret v=>exact k
 |false=>
   rw[on VC];exact XA ⟨d,x,u,l⟩
end
structure It where
 go:Nat->Hp->Prop
 yld:Nat->Hp->V->Hp->Prop
 stop:Nat->Hp->Prop
def oM(X:Cx)(G:P4)(H:Hp)(b:Addr):Prop:=
 H b=none/\b≠X.env.locals/\b∉X.fs/\(b∈X.ex\/X.s₀.heap.objs.size<=b)/\(∀x c,X.env.cells.lookup x=some c->c≠b)/\∀p∈X.pn++G,p.1≠b
theorem Inv.fpOk{X:Cx}{G:P4}{Z:St}{H H':Hp}{s:Shared}{b:Addr}(I:Inv X G Z H s)(a:s.heap.objs.size<=b)(d:H' b=none):oM X G H' b:=by
 refine⟨d,Nat.ne_of_gt (VU I.lt a),I.nofs a,.inr (VT I.sz a),λx c e z=>?_,λp hp z=>?_⟩
 ·obtain⟨v,q⟩:=I.cell x c e;exact absurd (VU q.lt (by rw[z];exact a)) (Wo _)
 ·exact absurd (VU (VD (I.pin p hp).1) (by rw[z];exact a)) (Wo _)
structure Turn (P:Program) (w:World) (K:F0) (tg:Expr) (J:It) (fp:List Addr) (it:Addr) (tn:Nat->Heap->Prop):Prop where
 mem:it∈fp
 obj:∀i h,tn i h->∀b∈fp,∃o,h.get? b=some o/\∀v,o.data≠ .cell v
 keep:∀i h h',tn i h->(∀b∈fp,∀o,h.get? b=some o->h'.get? b=some o)->tn i h'
 item:∀(X:Cx),X.prog=P->X.w=w->X.K=K->X.calm=true->∀(i:Nat) (G:P4) (s:Shared) (Z:St) (H:Hp) (E:T1),Inv X G Z H s->(∀b∈fp,oM X G H b)->tn i s.heap->J.go i H->
  wpAny (model P w) X.A (pyNext (.ref it)) (λr s1=>∃u,r=some u/\
   wpAny (model P w) X.A (letOwnedTupleGo tg (.ref it) u) (λ_ s2=>∃x H',Inv X G Z H' s2/\RelV x u/\J.yld i H x H'/\tn (i+1) s2.heap/\∀b∈fp,H' b=none) E s1) E s
 done:∀(X:Cx),X.prog=P->X.w=w->X.K=K->X.calm=true->∀(i:Nat) (G:P4) (s:Shared) (Z:St) (H:Hp) (E:T1),Inv X G Z H s->(∀b∈fp,oM X G H b)->tn i s.heap->J.stop i H->
  wpAny (model P w) X.A (pyNext (.ref it)) (λr s1=>r=none/\Inv X G Z H s1) E s
 self:∀(A:Around) (i:Nat) (s:Shared) (Q:T1) (E:T1),tn i s.heap->Q (.ref it) s->wpAny (model P w) A (pyIter (.ref it)) Q E s
abbrev TI:=St->Hp->(It->Hp->Prop)->Prop
def PIE(X:Cx)(G:P4)(Z:St)(f:Expr)(R:It->Hp->Prop)(a:Value)(c:Shared):Prop:=
 ∃(d:Addr) (e:List Addr) (tn:Nat->Heap->Prop) (J:It) (H':Hp),a=.ref d/\Inv X G Z H' c/\Turn X.prog X.w X.K f J e d tn/\tn 0 c.heap/\(∀b∈e,oM X G H' b)/\R J H'
def PI(X:Cx)(b iter:Expr)(a:TI):Prop:=
 ∀(G:P4) (s:Shared) (Z:St) (H:Hp) (R:It->Hp->Prop),Inv X G Z H s->a Z H R->
  wpAny (model X.prog X.w) X.A (eval iter X.env) (λv c=>wpAny (model X.prog X.w) X.A (pyIter v) (PIE X G Z b R) X.xe c) X.xe s
theorem E3{M:Model}{A:Around}{E:T1}{s:Shared}{b:Expr}{c:Addr}{u:Value}{o:Obj}{n:String}{vs:Array Value}{Q:Unit->Shared->Prop}(d:s.heap.get? c=some o)(f:o.cls=.type n)(hd:o.data=.fields vs)
 (e:["enumerate","zip","dict_itemiterator","dict_reverseitemiterator","odict_iterator","itertools.zip_longest","itertools.pairwise"].contains n=false) (a:Q () s):wpAny M A (letOwnedTupleGo b (.ref c) u) Q E s:=by
 unfold letOwnedTupleGo
 cases b <;> first
  |exact Vz a
  | (cases u <;> first
      |exact Vz a
      | (refine Vp (wpAny_load d ?_)
         rw[f,hd];show wpAny M A (if (["enumerate","zip","dict_itemiterator","dict_reverseitemiterator","odict_iterator","itertools.zip_longest","itertools.pairwise"].contains n&&vs[0]?==some (rawInt _))=true then _ else _) Q E s;rw[on (by intro h;rw[e,Bool.false_and]at h;cases h)]
         exact Vz a))
def Qq(K:F0)(a:Addr):It:=
 ⟨λi H=>∃xs x,SqL K H a xs/\xs[i]?=some x,λi H x H'=>H'=H/\∀xs,SqL K H a xs->xs[i]?=some x,λi H=>∃xs,SqL K H a xs/\xs.length<=i⟩
def T4(lo:Int)(n:Nat):It:=⟨λi _=>i<n,λi H x H'=>H'=H/\x=.int (lo+i),λi _=>n<=i⟩
theorem z7{P:Program}{w:World}{K:F0}{M:Expr}(a f:Addr):Turn P w K M (Qq K a) [f] f (λi h=>h.IsListIter f a i) where
 mem:=by simp
 obj:=λi h st b g=>by
  have e:b=f:=by simpa using g
  subst e;obtain⟨o,e,c,d⟩:=st;exact⟨o,e,λv z=>by rw[d]at z;cases z⟩
 keep:=λi h h' st k=>st.at λo e=>k f (by simp) o e
 item:=by
  intro X y r A L i G s Z H E I m st t;subst y r A;obtain⟨xs,x,l,q⟩:=t;obtain⟨its,n,p,hz⟩:=I.list l;obtain⟨u,R,O⟩:=n.get q;obtain⟨J,F,S,D,C,B⟩:=m f (by simp);refine wpAny_pyNext_list_item st p.isList (x:=u) (by simpa using R) λh' j N=>?_;have U:Inv X G Z H {s with heap:=h'}:=I.turned (t':=s.toks) (λb o g e=>(N.2 b g).trans e) J F D C B;obtain⟨o,e,c,d⟩:=id j;exact⟨u,rfl,E3 (s:={s with heap:=h'}) e c d (by decide) ⟨x,H,U,O,⟨rfl,λys Q=>by rw[I.list_inj Q l];exact q⟩,j,λb g=>(m b g).1⟩⟩
 done:=by
  intro X y r A L i G s Z H E I m st t;subst y r A;obtain⟨xs,l,q⟩:=t;obtain⟨its,n,p,hz⟩:=I.list l;obtain⟨J,F,S,D,C,B⟩:=m f (by simp);have V:=n.length;exact wpAny_pyNext_list_end (I.ok.hd L) st p.isList (by simp;omega) λh' T=>⟨rfl,I.turned (t':=s.toks) (λb o g e=>T b o g e) J F D C B⟩
 self:=λ_ _ _ _ _ st h=>wpAny_pyIter_listiter st h
theorem vM{P:Program}{w:World}{K:F0}{C:Expr}(a:Addr)(lo:Int)(n:Nat):Turn P w K C (T4 lo n) [a] a (λi h=>IsRangeIter h a (lo+(i:Nat)*1) ((n:Int)-(i:Nat)) 1) where
 mem:=by simp
 obj:=λi h st b c=>by
  have e:b=a:=by simpa using c
  subst e
  exact⟨_,st,λv z=>by
   have B:Data.fields _=Data.cell v:=z
   cases B⟩
 keep:=λi h h' st k=>k a (by simp) _ st
 item:=by
  intro X m g p l i G s Z H E I f st j;subst m g p;obtain⟨y,x,J,u,r,q⟩:=f a (by simp);have W:=Walks.range (prog:=X.prog) (w:=X.w) (I.ok.hd l) a lo 1 n;refine W.item i s _ _ j st λv h' A F d D=>?_;obtain⟨t,rfl⟩:=F;have M:Inv X G Z H {s with heap:=h',toks:=A}:=I.turned (λb o c e=>D b o (by simpa using c) e) y x u r q;refine⟨_,rfl,E3 (s:={s with heap:=h',toks:=A}) (n := "range_iterator") d rfl rfl (by decide) ⟨.int (lo+i),H,M,⟨t,?_⟩,⟨rfl,rfl⟩,d,λb c=>(f b c).1⟩⟩;rw[Int.mul_one]
 done:=by
  intro X m g p l i G s Z H E I f st j;subst m g p;obtain⟨y,x,J,u,r,q⟩:=f a (by simp);exact wpAny_pyNext_range_end (I.ok.hd l) st (by have:n<=i:=j;omega) λh' L=>⟨rfl,I.turned (t':=s.toks) (λb o c e=>L b o c e) y x u r q⟩
 self:=λ_ _ _ _ _ st h=>wpAny_pyIter_rangeiter st h
section
variable{X:Cx}{tg:Expr}
def iY(K:F0)(b:TE):TI:=λZ H R=>b Z H λx H1=>∃a,x=.ref a/\(∃xs,SqL K H1 a xs)/\R (Qq K a) H1
theorem HH{l:Expr}{f:TE}(k:PE X l f):PI X tg l (iY X.K f):=by
 intro G s Z H R I h;refine a7 (k G s Z H _ I h) λv c ⟨x,H1,d,g,i⟩=>?_;obtain⟨a,e,⟨xs,j⟩,q⟩:=i;subst e;cases g;obtain⟨its,n,p,hz⟩:=d.list j;refine Xn p.isList ?_;refine⟨c.heap.objs.size,[c.heap.objs.size],_,_,H1,rfl,d.kept (t':=c.toks) λb o e=>Vv _ e,z7 a _,⟨_,VO _ rfl,rfl,rfl⟩,λb m=>?_,q⟩;have e:b=c.heap.objs.size:=by simpa using m
 subst e;exact d.fpOk (VG _) (d.hok.fresh (VG _))
theorem tJ{G:P4}{Z:St}{H:Hp}{s:Shared}{R:It->Hp->Prop}{E:T1}{lo hi:Int}{t u v:Tok}{a:Nat}(I:Inv X G Z H s)(i:-(2 ^ 62)<=lo)(h:lo<2 ^ 62)(g:-(2 ^ 62)<=hi)(f:hi<2 ^ 62)
 (q:R (T4 lo (hi-lo).toNat) H):wpAny (model X.prog X.w) X.A (pyIter (.ref s.heap.objs.size)) (PIE X G Z tg R) E {s with heap:=s.heap.push {cls:=.type "range",data:=.fields #[.int lo t,.int hi u,.int 1 v]},toks:=a}:=by
 refine wpAny_pyIter_range (IsRange.new ..) (small_one i h g f) ?_;have c:Inv X G Z H {s with heap:=s.heap.push {cls:=.type "range",data:=.fields #[.int lo t,.int hi u,.int 1 v]},toks:=a}:=I.kept λb o e=>Vv _ e
 refine⟨(s.heap.push {cls:=.type "range",data:=.fields #[.int lo t,.int hi u,.int 1 v]}).objs.size,[(s.heap.push {cls:=.type "range",data:=.fields #[.int lo t,.int hi u,.int 1 v]}).objs.size],_,_,H,rfl,
  c.kept (t':=a) λb o e=>Vv _ e,vM _ lo (hi-lo).toNat,?_,λb d=>?_,q⟩
 · have e1:lo+((0:Nat):Int)*1=lo:=by simp
   have j:(((hi-lo).toNat:Nat):Int)-((0:Nat):Int)=Builtin.Range.rangeSize lo hi 1:=by rw[rangeSize_one];split<;>omega
   show IsRangeIter _ _ (lo+((0:Nat):Int)*1) ((((hi-lo).toNat:Nat):Int)-((0:Nat):Int)) 1;rw[e1,j];exact VO _ rfl
 · have e:b=(s.heap.push {cls:=.type "range",data:=.fields #[.int lo t,.int hi u,.int 1 v]}).objs.size:=by simpa using d
   subst e;exact c.fpOk (VG _) (c.hok.fresh (VG _))
def EY(ta:TA):TI:=λZ H R=>ta Z H λvs H1=>∃j:Int,vs=[.int j]/\-(2 ^ 62)<=j/\j<2 ^ 62/\R (T4 0 j.toNat) H1
def EX(ta:TA):TI:=λZ H R=>ta Z H λvs H1=>∃i j:Int,vs=[.int i,.int j]/\(-(2 ^ 62)<=i/\i<2 ^ 62/\-(2 ^ 62)<=j/\j<2 ^ 62)/\R (T4 i (j-i).toNat) H1
theorem Ar{a:Expr}{ta:TA}{p pos:Pos}(k:Gl X "range")(i:X.mg "range" = none)(l:PA X [a] ta)(g:starEach [a] X.env=[(false,eval a X.env)]:=by rfl):PI X tg (.Call (.Name "range" p) [a] [] pos) (EY ta):=by
 intro G s Z H R I h;refine Call_ (kq I k i boot_range (WK (a7 (l pos G s Z H _ I h) λus n ⟨vs,H1,m,d,b⟩=>?_) g rfl));obtain⟨j,e,b,f,q⟩:=b;subst e;cases d with
 |cons r c=>
   cases c;obtain⟨t,rfl⟩:=r;exact call_range_1 (tJ m (by omega) (by omega) b f (by simpa using q))
theorem Aq{a b:Expr}{ta:TA}{p pos:Pos}(v:Gl X "range")(u:X.mg "range" = none)(w:PA X [a,b] ta)(o:starEach [a,b] X.env=[(false,eval a X.env),(false,eval b X.env)]:=by rfl)(c:starEach [b] X.env=[(false,eval b X.env)]:=by rfl):
 PI X tg (.Call (.Name "range" p) [a,b] [] pos) (EX ta):=by
 intro G s Z H R I h;refine Call_ (kq I v u boot_range (WK (a7 (w pos G s Z H _ I h) λus y ⟨vs,H1,x,g,f⟩=>?_) (by rw[o,c]) (by rw[c];rfl)));obtain⟨i,j,e,⟨f,n,m,l⟩,q⟩:=f;subst e;cases g with
 |cons r d=>
   cases d with
   |cons k d=>
     cases d;obtain⟨t,rfl⟩:=r;obtain⟨t',rfl⟩:=k;exact call_range_2 (tJ x f n m l q)
def vQ(d:TI)(g:TG)(tb:TS):TS:=λD Z H=>d Z H λJ H1=>∃W:Nat->Nat->St->Hp->Prop,(∃m,W 0 m Z H1)/\∀i m Z H,W i m Z H->
 (J.stop i H/\D.nx Z H)\/(J.go i H/\∃N:St->Hp->Prop,(∀a H',N a H'->∃c,c<m/\W (i+1) c a H')/\∀x H',J.yld i H x H'->g x Z H' λb e=>tb {D with nx:=N,ct:=N,bk:=D.nx} b e)
def mj(a:List Addr)(h:Heap):P4:=a.filterMap λb=>(h.get? b).map λo=>(b,o)
theorem gj{a:List Addr}{h:Heap}{b:Addr}{o:Obj}(c:b∈a)(e:h.get? b=some o):(b,o)∈mj a h:=List.mem_filterMap.mpr ⟨b,c,by rw[e];rfl⟩
theorem AA{a:List Addr}{h:Heap}{p:Addr×Obj}(hp:p∈mj a h):p.1∈a/\h.get? p.1=some p.2:=by
 obtain⟨b,c,e⟩:=List.mem_filterMap.mp hp;cases q:h.get? b with
 |none=>rw[q]at e;cases e
 |some o=>
   rw[q]at e;have d:(b,o)=p:=VQ e;subst d;exact⟨c,q⟩
theorem Inv.pinned{G:P4}{Z:St}{H:Hp}{s:Shared}{a:List Addr}(I:Inv X G Z H s)(h:∀b∈a,oM X G H b)(g:∀b∈a,∃o,s.heap.get? b=some o/\∀v,o.data≠ .cell v):Inv X (G++mj a s.heap) Z H s:=
 I.pins_of λp hp=>(Vy.mp hp).elim (λz=>I.pin p (Vs _ z)) λz=>by
  obtain⟨c,e⟩:=AA z;obtain⟨k,j,i,_⟩:=h p.1 c;obtain⟨o,f,d⟩:=g p.1 c;rw[e]at f;cases f;exact⟨e,k,j,i,d⟩
theorem Inv.unpinned{G pl:P4}{Z:St}{H:Hp}{s:Shared}(I:Inv X (G++pl) Z H s):Inv X G Z H s:=I.pins_of λp hp=>I.pin p (Vs _ (VB _ hp))
theorem Ml{iter:Expr}{z:List Stmt}{wi:TI}{g:TG}{tb:TS}{pos:Pos}(hp:PassesOwn (model X.prog X.w) X.A X.env X.xe)(hc:X.calm=true)(hi:PI X tg iter wi)(hg:PG X tg g)(l:PSs X z tb)
 (hs:∀x,foldedSetIterable iter X.env x=pure x:=by intro _;rfl):PS X (.For tg iter z [] pos) (vQ wi g tb):=by
 intro G s Z H D I h;refine wpAny_For (a7 (hi G s Z H _ I h) λv s1 h1=>a7 h1 λitv s2 h2=>?_) hs;obtain⟨it,M,tn,J,H2,e,I2,T,R,f2,W,⟨m0,w0⟩,C⟩:=h2;subst e
 -- what Q true of the y F through the loop
 have k:∀{H':Hp},(∀b∈M,H' b=none)->∀b∈M,oM X G H' b:=λhn b l=>⟨hn b l,(f2 b l).2⟩;refine codeAny_forLoop_any (λn s'=>∃i j H',Inv X G j H' s'/\tn i s'.heap/\(∀b∈M,H' b=none)/\W i n j H') ?_ m0 ⟨0,Z,H2,I2,R,λb l=>(f2 b l).1,w0⟩;rintro n s3 ⟨i,c,O,I3,E,L,w3⟩;rcases C i n c O w3 with ⟨stop,qn⟩|⟨go,N,hN,step⟩
 ·refine WR hp (a7 (T.done X rfl rfl rfl hc i G s3 c O X.xe I3 (k L) E stop) λr s4 ⟨U,I4⟩=>?_);subst U;exact XA ⟨c,O,I4,qn⟩
 · refine WR hp (a7 (T.item X rfl rfl rfl hc i G s3 c O X.xe I3 (k L) E go) λr s4 ⟨u,U,h4⟩=>?_);subst U;refine WR hp (a7 h4 λ_ s5 ⟨x,H5,I5,r5,y5,B,V⟩=>?_);have Y:=I5.pinned (k V) (T.obj _ _ B);refine WR hp (a7 (hg _ s5 c H5 x u _ Y r5 (step x H5 y5)) λ_ s6 ⟨P,H6,I6,q6⟩=>?_);refine WR hp (a7 (l _ s6 P H6 _ I6 q6) λf S t=>?_)
   have again:∀{a:St} {q:Hp},Inv X (G++mj M s5.heap) a q S->N a q->∃m,m<n/\∃i j H',Inv X G j H' S/\tn i S.heap/\(∀b∈M,H' b=none)/\W i m j H':=λ{a q} p K=>by
    obtain⟨m',hm,w7⟩:=hN a q K;refine⟨m',hm,i+1,a,q,p.unpinned,T.keep _ _ _ B λb l o e=>(p.pin (b,o) (Vs _ (Vs _ (gj l e)))).1,λb l=>?_,w7⟩;obtain⟨o,e,d⟩:=T.obj _ _ B b l;exact(p.pin (b,o) (Vs _ (Vs _ (gj l e)))).2.1
   cases f with
   |next=>obtain⟨a,q,p,K⟩:=t;exact again p K
   |cont=>obtain⟨a,q,p,K⟩:=t;exact again p K
   |brk=>obtain⟨a,q,p,t⟩:=t;exact⟨a,q,p.unpinned,t⟩
   |ret v=>obtain⟨x7,a,q,p,r7,t⟩:=t;exact⟨x7,a,q,p.unpinned,r7,t⟩
end
abbrev R2:=V->V->Hp->VK->Prop
def jv(X:Cx)(f:Value->Value->Sem Value)(r:R2):Prop:=
 ∀(G:P4) (s:Shared) (Z:St) (H:Hp) (x y:V) (v u:Value) (Q:VK),Inv X G Z H s->RelV x v->RelV y u->r x y H Q->
  wpAny (model X.prog X.w) X.A (f v u) (EP X G Z Q) X.xe s
def Uq(X:Cx)(f:Value->Sem Value)(r:V->Hp->VK->Prop):Prop:=
 ∀(G:P4) (s:Shared) (Z:St) (H:Hp) (x:V) (v:Value) (Q:VK),Inv X G Z H s->RelV x v->r x H Q->
  wpAny (model X.prog X.w) X.A (f v) (EP X G Z Q) X.xe s
def dD(X:Cx)(f:Value)(r:List V->Hp->VK->Prop):Prop:=
 ∀(G:P4) (s:Shared) (Z:St) (H:Hp) (xs:List V) (us:List Value) (Q:VK),Inv X G Z H s->Vals xs us->r xs H Q->
  wpAny (model X.prog X.w) X.A (call f us) (EP X G Z Q) X.xe s
def sQ(r:R2)(ta tb:TE):TE:=λZ H Q=>ta Z H λx H1=>tb Z H1 λy a=>r x y a Q
def Ux(r:V->Hp->VK->Prop)(ta:TE):TE:=λZ H Q=>ta Z H λx H1=>r x H1 Q
def rI(C:Int->Int->Prop)(g:Int->Int->V):R2:=λx y H Q=>∃i j,x=.int i/\y=.int j/\C i j/\Q (g i j) H
def yw(g:Int->Int->V):R2:=λx y H Q=>∃i j,x=.int i/\y=.int j/\Q (g i j) H
def rU(g:Int->V):V->Hp->VK->Prop:=λx H Q=>∃i,x=.int i/\Q (g i) H
section
variable{X:Cx}{a b c:Expr}{ta tb tc:TE}{pos:Pos}
theorem PD(p:PE X a ta)(o:PE X b tb){G:P4}{s:Shared}{Z:St}{H:Hp}{R:V->V->Hp->Prop}(I:Inv X G Z H s)
 (h:ta Z H λx H1=>tb Z H1 λy c=>R x y c) {Q:T1} {f:Value->Value->Sem Value}
 (n:∀v u g x y c,Inv X G Z c g->RelV x v->RelV y u->R x y c->wpAny (model X.prog X.w) X.A (f v u) Q X.xe g):
 wpAny (model X.prog X.w) X.A (eval a X.env) (λv e=>wpAny (model X.prog X.w) X.A (eval b X.env) (λu d=>wpAny (model X.prog X.w) X.A (f v u) Q X.xe d) X.xe e) X.xe s:=by
 refine a7 (p G s Z H _ I h) λv i ⟨x,H1,r,k,m⟩=>?_;refine a7 (o G i Z H1 _ r m) λu g ⟨y,c,q,j,l⟩=>?_;exact n v u g x y c q k j l
theorem Ra{op:Operator}{r:R2}(f:jv X (binaryOp op) r)(i:PE X a ta)(g:PE X b tb):PE X (.BinOp a op b pos) (sQ r ta tb):=by
 intro G s Z H Q I h;exact wpAny_BinOp (PD i g I h λv u c x y k j e d q=>f G c Z k x y v u Q j e d q)
theorem Q9{op:UnaryOp}{r:V->Hp->VK->Prop}(e:Uq X (unaryOp op) r)(f:PE X a ta):PE X (.UnaryOp op a pos) (Ux r ta):=by
 intro G s Z H Q I h;exact UnaryOp_ (a7 (f G s Z H _ I h) λv b ⟨x,H1,g,c,d⟩=>e G b Z H1 x v Q g c d)
theorem Ue{f:Value->Value->Sem Value}{C:Int->Int->Prop}{g:Int->Int->Int}
 (rule:∀(i j:Int) (t u:Tok) (s:Shared) (Q:T1) (E:T1),C i j->Q (.int (g i j) s.toks) {s with toks:=s.toks+1}->wpAny (model X.prog X.w) X.A (f (.int i t) (.int j u)) Q E s):
 jv X f (rI C λi j=>.int (g i j)):=by
 intro G s Z H x y v u Q I b a h;obtain⟨i,j,rfl,rfl,c,q⟩:=h;obtain⟨t,rfl⟩:=b;obtain⟨t',rfl⟩:=a;exact rule i j t t' s _ _ c ⟨.int (g i j),H,I.tok _,⟨_,rfl⟩,q⟩
theorem RD{f:Value->Value->Sem Value}{g:Int->Int->Int}
 (rule:∀(i j:Int) (t u:Tok) (s:Shared) (Q:T1) (E:T1),Q (.int (g i j) s.toks) {s with toks:=s.toks+1}->wpAny (model X.prog X.w) X.A (f (.int i t) (.int j u)) Q E s):
 jv X f (yw λi j=>.int (g i j)):=by
 intro G s Z H x y v u Q I b a h;obtain⟨i,j,rfl,rfl,q⟩:=h;obtain⟨t,rfl⟩:=b;obtain⟨t',rfl⟩:=a;exact rule i j t t' s _ _ ⟨.int (g i j),H,I.tok _,⟨_,rfl⟩,q⟩
theorem Nj{f:Value->Value->Sem Value}{g:Int->Int->Bool}
 (rule:∀(i j:Int) (t u:Tok) (s:Shared) (Q:T1) (E:T1),Q (.bool (g i j)) s->wpAny (model X.prog X.w) X.A (f (.int i t) (.int j u)) Q E s):
 jv X f (yw λi j=>.bl (g i j)):=by
 intro G s Z H x y v u Q I b a h;obtain⟨i,j,rfl,rfl,q⟩:=h;obtain⟨t,rfl⟩:=b;obtain⟨t',rfl⟩:=a;exact rule i j t t' s _ _ ⟨.bl (g i j),H,I,rfl,q⟩
def P8(i j:Int):Prop:=0<j/\j<1073741824
def CMul(i j:Int):Prop:=(-(2 ^ 64)<i/\i<2 ^ 64)\/(-(2 ^ 64)<j/\j<2 ^ 64)
theorem CMul.ok{i j:Int}(h:CMul i j):IntMulOk i j:=by
 rcases h with ⟨b,a⟩|⟨b,a⟩
 ·exact .of_left (intBits_le_64 b a)
 ·exact .of_right (intBits_le_64 b a)
theorem vL(k:Nat):(0:Int)<=2 ^ k:=by
 rw[two_pow_cast];exact Int.natCast_nonneg _
theorem Ni:jv X (binaryOp .Add) (yw λi j=>.int (i+j)):=RD λ_ _ _ _ _ _ _ q=>add_int q
theorem M7:jv X (binaryOp .Sub) (yw λi j=>.int (i-j)):=RD λ_ _ _ _ _ _ _ q=>sub_int q
theorem Nb:jv X (binaryOp .Mult) (rI CMul λi j=>.int (i*j)):=Ue λ_ _ _ _ _ _ _ a q=>mul_int q a.ok
theorem Ii:jv X (binaryOp .FloorDiv) (rI P8 λi j=>.int (i / j)):=Ue λi j _ _ _ _ _ a q=>by
 have c:(0:Int)<j:=a.1;have b:j<1073741824:=a.2;exact floordiv_int (by omega) (by rw[XI i (by omega)];exact q) (.inl (PyProof.noPylong_small (by omega)))
theorem Nc:jv X (binaryOp .Mod) (rI (λ_ j=>0<j) λi j=>.int (i%j)):=Ue λi j _ _ _ _ _ a q=>by
 have b:(0:Int)<j:=a;exact mod_int' (by omega) (by rw[Int.fmod_eq_emod_of_nonneg i (by omega)];exact q)
theorem M8:jv X (binaryOp .RShift) (rI (λ_ j=>0<=j) λi j=>.int (i / 2 ^ j.toNat)):=Ue λi j _ _ _ _ _ a q=>
 rshift_int a (by rw[XI i (vL _)];exact q)
theorem unI{f:Value->Sem Value}{g:Int->Int}
 (rule:∀(i:Int) (t:Tok) (s:Shared) (Q:T1) (E:T1),Q (.int (g i) s.toks) {s with toks:=s.toks+1}->wpAny (model X.prog X.w) X.A (f (.int i t)) Q E s):
 Uq X f (rU λi=>.int (g i)):=by
 intro G s Z H x v Q I a h;obtain⟨i,rfl,q⟩:=h;obtain⟨t,rfl⟩:=a;exact rule i t s _ _ ⟨.int (g i),H,I.tok _,⟨_,rfl⟩,q⟩
theorem LG:Uq X (unaryOp .USub) (rU λi=>.int (-i)):=unI λ_ _ _ _ _ q=>neg_int q
end
def LU:V->V->Bool
 |.non,.non=>true | .non,.int _=>true | .int _,.non=>true | .non,.bl _=>true | .bl _,.non=>true | .non,.str _=>true | .str _,.non=>true
 |.int _,.int _=>true | .bl _,.bl _=>true | .str _,.str _=>true | .byt _,.byt _=>true
 |.int _,.str _=>true | .str _,.int _=>true | .bl _,.str _=>true | .str _,.bl _=>true
 |_,_=>false
def rEq:R2:=λx y H Q=>LU x y=true/\Q (.bl (decide (x=y))) H
def rNe:R2:=λx y H Q=>LU x y=true/\Q (.bl (!decide (x=y))) H
theorem y8{i j:Int}:decide (V.int i=V.int j)=(i==j):=by
 rw[XB];simp
theorem Fn{i j:Bool}:decide (V.bl i=V.bl j)=(i==j):=by
 rw[XB];simp
theorem y7{i j:Str}:decide (V.str i=V.str j)=(i==j):=by
 rw[XB];simp
theorem y9{i j:Array UInt8}:decide (V.byt i=V.byt j)=(i.toList==j.toList):=by
 rw[XB];cases i;cases j;simp
section
variable{X:Cx}{a b c:Expr}{ta tb tc:TE}{pos:Pos}
theorem aP{G:P4}{Z:St}{H:Hp}{s:Shared}{Q:VK}{k a:Bool}(I:Inv X G Z H s)(q:Q (.bl k) H)(e:k=a):EP X G Z Q (.bool a) s:=by
 subst e;exact⟨.bl k,H,I,rfl,q⟩
theorem RC:jv X (compareOp .Eq) rEq:=by
 intro G s Z H x y v u Q I c a h;obtain⟨b,q⟩:=h;cases x with
 |non=>
   cases c;cases y with
   |non=>cases a;exact PySem.EqNone.eq_none_none (aP I q (by simp))
   |bl j=>cases a;exact PySem.EqNone.eq_none_bool (aP I q (by simp))
   |int j=>obtain⟨t',rfl⟩:=a;exact PySem.EqNone.eq_none_int (aP I q (by simp))
   |str j=>obtain⟨t',rfl⟩:=a;exact PySem.EqNone.eq_none_str (aP I q (by simp))
   |_=>exact absurd (show false=true from b) VC
 |bl i=>
   cases c;cases y with
   |non=>cases a;exact PySem.EqNone.eq_bool_none (aP I q (by simp))
   |bl j=>cases a;exact eq_bool (aP I q Fn)
   |str j=>obtain⟨t',rfl⟩:=a;exact PySem.EqMixed.eq_bool_str (aP I q (by simp))
   |_=>exact absurd (show false=true from b) VC
 |int i=>
   obtain⟨t,rfl⟩:=c;cases y with
   |non=>cases a;exact PySem.EqNone.eq_int_none (aP I q (by simp))
   |int j=>obtain⟨t',rfl⟩:=a;exact eq_int (aP I q y8)
   |str j=>obtain⟨t',rfl⟩:=a;exact PySem.EqMixed.eq_int_str (aP I q (by simp))
   |_=>exact absurd (show false=true from b) VC
 |str i=>
   obtain⟨t,rfl⟩:=c;cases y with
   |non=>cases a;exact PySem.EqNone.eq_str_none (aP I q (by simp))
   |bl j=>cases a;exact PySem.EqMixed.eq_str_bool (aP I q (by simp))
   |int j=>obtain⟨t',rfl⟩:=a;exact PySem.EqMixed.eq_str_int (aP I q (by simp))
   |str j=>obtain⟨t',rfl⟩:=a;exact eq_str (aP I q y7)
   |_=>exact absurd (show false=true from b) VC
 |byt i=>
   obtain⟨t,rfl⟩:=c;cases y with
   |byt j=>obtain⟨t',rfl⟩:=a;exact PySem.W.eq_bytes (aP I q y9)
   |_=>exact absurd (show false=true from b) VC
 |_=>cases y<;>exact absurd (show false=true from b) VC
theorem Ry:jv X (compareOp .NotEq) rNe:=by
 intro G s Z H x y v u Q I c a h;obtain⟨b,q⟩:=h;cases x with
 |non=>
   cases c;cases y with
   |non=>cases a;exact PySem.EqNone.ne_none_none (aP I q (by simp))
   |bl j=>cases a;exact PySem.EqNone.ne_none_bool (aP I q (by simp))
   |int j=>obtain⟨t',rfl⟩:=a;exact PySem.EqNone.ne_none_int (aP I q (by simp))
   |str j=>obtain⟨t',rfl⟩:=a;exact PySem.EqNone.ne_none_str (aP I q (by simp))
   |_=>exact absurd (show false=true from b) VC
 |bl i=>
   cases c;cases y with
   |non=>cases a;exact PySem.EqNone.ne_bool_none (aP I q (by simp))
   |bl j=>cases a;exact ne_bool (aP I q (congrArg not Fn))
   |str j=>obtain⟨t',rfl⟩:=a;exact PySem.EqMixed.ne_bool_str (aP I q (by simp))
   |_=>exact absurd (show false=true from b) VC
 |int i=>
   obtain⟨t,rfl⟩:=c;cases y with
   |non=>cases a;exact PySem.EqNone.ne_int_none (aP I q (by simp))
   |int j=>obtain⟨t',rfl⟩:=a;exact ne_int (aP I q (congrArg not y8))
   |str j=>obtain⟨t',rfl⟩:=a;exact PySem.EqMixed.ne_int_str (aP I q (by simp))
   |_=>exact absurd (show false=true from b) VC
 |str i=>
   obtain⟨t,rfl⟩:=c;cases y with
   |non=>cases a;exact PySem.EqNone.ne_str_none (aP I q (by simp))
   |bl j=>cases a;exact PySem.EqMixed.ne_str_bool (aP I q (by simp))
   |int j=>obtain⟨t',rfl⟩:=a;exact PySem.EqMixed.ne_str_int (aP I q (by simp))
   |str j=>obtain⟨t',rfl⟩:=a;exact ne_str (aP I q (congrArg not y7))
   |_=>exact absurd (show false=true from b) VC
 |byt i=>
   obtain⟨t,rfl⟩:=c;cases y with
   |byt j=>obtain⟨t',rfl⟩:=a;exact PySem.W.ne_bytes (aP I q (congrArg not y9))
   |_=>exact absurd (show false=true from b) VC
 |_=>cases y<;>exact absurd (show false=true from b) VC
theorem Rz:jv X (compareOp .Lt) (yw λi j=>.bl (decide (i<j))):=Nj λ_ _ _ _ _ _ _ q=>lt_int q
theorem RA:jv X (compareOp .Gt) (yw λi j=>.bl (decide (j<i))):=Nj λ_ _ _ _ _ _ _ q=>gt_int q
theorem RB:jv X (compareOp .GtE) (yw λi j=>.bl (decide (j<=i))):=Nj λ_ _ _ _ _ _ _ q=>ge_int q
theorem Nd:jv X (compareOp .Is) (λx y H Q=>y=.non/\Q (.bl (decide (x=.non))) H):=by
 intro G s Z H x y v u Q I a b h;obtain⟨rfl,q⟩:=h;cases b;refine is_none_gen (aP I q ?_)
 cases x <;> first
  |(cases a;rfl)
  |(obtain⟨t,rfl⟩:=a;rfl)
theorem Ie:jv X (compareOp .IsNot) (λx y H Q=>y=.non/\Q (.bl (!decide (x=.non))) H):=by
 intro G s Z H x y v u Q I a b h;obtain⟨rfl,q⟩:=h;cases b;refine isnot_none_gen (aP I q ?_)
 cases x <;> first
  |(cases a;rfl)
  |(obtain⟨t,rfl⟩:=a;rfl)
theorem HU{op:CmpOp}{r:R2}(f:jv X (compareOp op) r)(j:PE X a ta)(i:PE X b tb)(g:behindInMarks op b=false):PE X (.Compare a [op] [b] pos) (sQ r ta tb):=by
 intro G s Z H Q I h;exact wpAny_Compare1 (PD j i I h λv u c x y l k e d q=>f G c Z l x y v u Q k e d q) g
def kY(t:TE):TT:=λZ H Q=>t Z H λx H'=>∃k,x=.bl k/\Q k H'
theorem Ht{op:CmpOp}{r:R2}(o:jv X (compareOp op) r)(t:PE X a ta)(q:PE X b tb)(p:behindInMarks op b=false):PT X (.Compare a [op] [b] pos) (kY (sQ r ta tb)):=by
 intro G s Z H Q I h
 refine wpAny_isTrue_Compare1 (a7 (t G s Z H _ I h) λv f ⟨x,H1,B,j,n⟩=>a7 (q G f Z H1 _ B n) λu d ⟨y,D,A,i,m⟩=>
  a7 (o G d Z D x y v u _ A j i m) λc E ⟨z,C,w,g,k,e,l⟩=>?_) p
 subst e;cases g;exact WT ⟨C,w,l⟩
theorem qY:(sizeLine:Nat)<2 ^ 63:=by rw[sizeLine_eq];decide
theorem BA{x:V}{us:List Value}(r:Vals [x] us):∃u,us=[u]/\RelV x u:=by
 cases r with
 |cons b a=>cases a;exact⟨_,rfl,b⟩
theorem JK{x y:V}{us:List Value}(r:Vals [x,y] us):∃u a,us=[u,a]/\RelV x u/\RelV y a:=by
 cases r with
 |cons e d=>
   cases d with
   |cons c b=>cases b;exact⟨_,_,rfl,e,c⟩
theorem Bh(b:X.calm=true):dD X (.builtin "max") (λxs H Q=>∃i j,xs=[.int i,.int j]/\Q (.int (if j>i then j else i)) H):=by
 intro G s Z H xs us Q I r h;obtain⟨i,j,rfl,q⟩:=h;obtain⟨u,c,rfl,⟨t,rfl⟩,⟨t',rfl⟩⟩:=JK r;refine max_two_ints (I.ok.hd b) λh' d k=>⟨_,H,I.kept k,?_,q⟩;by_cases a:j>i
 ·rw[Vo a,Vo a];exact⟨_,rfl⟩
 ·rw[on a,on a];exact⟨_,rfl⟩
theorem Bg(b:X.calm=true):dD X (.builtin "min") (λxs H Q=>∃i j,xs=[.int i,.int j]/\Q (.int (if j<i then j else i)) H):=by
 intro G s Z H xs us Q I r h;obtain⟨i,j,rfl,q⟩:=h;obtain⟨u,c,rfl,⟨t,rfl⟩,⟨t',rfl⟩⟩:=JK r;refine min_two_ints (I.ok.hd b) λh' d k=>⟨_,H,I.kept k,?_,q⟩;by_cases a:j<i
 ·rw[Vo a,Vo a];exact⟨_,rfl⟩
 ·rw[on a,on a];exact⟨_,rfl⟩
end
structure ObjM (h:Heap) (x dx C:Addr) (mA:Str->Option Value):Prop where
 obj:h.get? x=some (PySem.W.instObj C dx)
 ns:h.Ns1 dx mA
 ne:dx≠x
theorem AM{h:Heap}{dx:Addr}{d:Str->Option Value}(n:h.Ns1 dx d):∃c,h.get? dx=some c/\∀name,PySem.W.lookIn name c=some (d name):=by
 obtain⟨o,f,ep,i,hd,k,_,j⟩:=n;refine⟨o,i,λname=>?_⟩;have e:=j name;unfold nsFind findBy at e;rw[<-Array.find?_toList]at e;unfold PySem.W.lookIn;rw[hd];dsimp only;split
 ·rename_i y q;rw[q]at e;exact congrArg some e
 · rename_i q;rw[q]at e
   have a:f.toList.any (·.refKey)=false:=by
    rw[List.any_eq_false];intro y g;obtain⟨z,t,b⟩:=k y (Xy.mp g);simp[DictEntry.refKey,b]
   have l:¬ f.toList.any (·.refKey)=true:=by rw[a];exact VC
   rw[on l];exact congrArg some e
theorem ObjM.look{h:Heap}{x dx C:Addr}{b:Str->Option Value}(I:ObjM h x dx C b):∃a,PySem.W.InstAt h x (PySem.W.instObj C dx) C (some a)/\∀name,PySem.W.lookIn name a=some (b name):=
 let ⟨a,c,d⟩:=AM I.ns
 ⟨a,⟨I.obj,rfl,rfl,c⟩,d⟩
section
variable{prog:Program}{w:World}{A:Around}{E:T1}{s:Shared}{K:F0}{x dx C f:Addr}{mA:Str->Option Value}{name:Str}{v:Value}
theorem Ja{a:Bool}{Q:T1}(X:K.In s.heap)(I:ObjM s.heap x dx C mA)(f:PySem.W.plainGet K C name=true)(e:PySem.W.hasDictIn K C=true)
 (g:PySem.W.findIn K (.ref C) name=some none) (c:mA name=some v) (b:PySem.W.handedIn v=true) (h:Q v {s with toks:=s.toks+1}):
 wpAny (model prog w) A (getAttr (.ref x) name a) Q E s:=by
 obtain⟨i,J,d⟩:=I.look;exact PySem.W.get_value X J (XC f).1 (PySem.W.findObj_own e g rfl (by rw[d,c])) b h
theorem E4{pl:Sem Bool}{Q:Value×List Value->Shared->Prop}(X:K.In s.heap)(I:ObjM s.heap x dx C mA)(a:PySem.W.plainGet K C name=true)
 (g:PySem.W.findIn K (.ref C) name=some (some (.ref f))) (d:PySem.W.isFn K (.ref f)=true) (c:mA name=none) (h:Q (.ref f,[.ref x]) s):
 wpAny (model prog w) A (getMethod (.ref x) name pl) Q E s:=by
 obtain⟨b,J,e⟩:=I.look;exact PySem.W.method_fn X J (XC a).1 (XC a).2 g (XJ.mp d) (by show(PySem.W.lookIn name b).map (·.isSome)=some false;rw[e,c];rfl) h
theorem Hd{ns:List Str}{Q:Unit->Shared->Prop}(X:K.In s.heap)(I:ObjM s.heap x dx C mA)
 (m:PySem.W.findIn K (.ref C) "__setattr__" = some (some (.builtin "object.__setattr__"))) (hp:PySem.W.plainOver K C=true) (l:PySem.W.takerIn K C name=some none) (n:PySem.W.hasDictIn K C=true)
 (k:PySem.Within mA ns) (hsz:ns.length<=sizeLine)
 (h:∀h',ObjM h' x dx C (λy=>if y=name then some v else mA y)->Heap.SameBut dx s.heap h'->Q () {s with heap:=h',toks:=s.toks+2}):
 wpAny (model prog w) A (setAttr (.ref x) name v) Q E s:=by
 obtain⟨t,J,z⟩:=I.look;refine PySem.W.set_plain X J m (PySem.W.osa_open (s:={s with toks:=s.toks+1}) (r:=none) X J hp l λb=>?_);obtain⟨B,o,g⟩:=PySem.W.any_some n;have j:s.heap.get? x=some ⟨.ref C,some dx,.plain,#[]⟩:=I.obj;refine Vp (Vz (Vp (Vp (wpAny_loadPart j (Vp (PySem.W.Looks.here (s:={s with toks:=s.toks+1}) (PySem.W.looks_clsIn X o) ?_))))));rw[g];refine Vz (a:=some dx) (Vp (Vz (Vp ?_)));refine wpAny_nsSet1 (s:={s with toks:=s.toks+1}) I.ns λh' d c=>?_;obtain⟨u,p,q,e,f,i⟩:=d.count (PySem.Within.cons name v k);refine Vp (wpAny_lookBehind e (by rw[f];exact pastItsLine_dict (VT i (by rw[Vx];omega))) ?_);exact Vz (h _ ⟨(c.2 _ (WZ I.ne)).trans I.obj,d,I.ne⟩ c)
theorem D7{R:Result->Shared->Prop}{vs:List Value}{a:List (Str×Value)}(X:K.In s.heap)(b:PySem.W.makesIn K C=true)
 (hi:PySem.W.findIn K (.ref C) "__init__" = some (some (.ref f))) (c:PySem.W.typeIn K (.ref f)=some (.type "function"))
 (h:codeAny (model prog w) (A.under (.builtin "type.__call__" ⟨.ref C::vs,a⟩)) (.call (.ref f) ⟨.ref (s.heap.objs.size+1)::vs,a⟩) (PySem.W.InitBack (s.heap.objs.size+1) R)
   {s with heap:=(s.heap.push PySem.W.emptyDict).push (PySem.W.instObj C s.heap.objs.size)}):
 codeAny (model prog w) A (.call (.ref C) ⟨vs,a⟩) R s:=by
 obtain⟨e,g,d,t,os⟩:=s;exact PySem.W.make_core (PySem.W.makes_of X b) (PySem.W.looks_findIn X hi) (λself=>PySem.W.bind_fn X self c) (.inl rfl) h
end
def eG(f:Str)(v:V):List (Str×V)->List (Str×V)
 |[]=>[(f,v)]
 |(g,x)::r=>if g=f then (g,v)::r else (g,x)::eG f v r
theorem lh(f g:Str)(v:V):∀fs:List (Str×V),(eG f v fs).lookup g=if g=f then some v else fs.lookup g
 | []=>by
   show List.lookup g [(f,v)]=_;by_cases h:g=f
   ·have a:(g==f)=true:=XJ.mpr h;simp only[List.lookup,a,Vo h]
   ·have a:(g==f)=false:=V5.mpr h;simp only[List.lookup,a,on h]
 | (k,x)::r=>by
   have c:=lh f g v r;rw[show eG f v ((k,x)::r)=(if k=f then (k,v)::r else (k,x)::eG f v r) from rfl];by_cases b:k=f
   · rw[Vo b];by_cases h:g=k
     ·have a:(g==k)=true:=XJ.mpr h;simp only[List.lookup,a,Vo (h.trans b)]
     ·have a:(g==k)=false:=V5.mpr h;simp only[List.lookup,a,on (λe:g=f=>h (e.trans b.symm))]
   · rw[on b];by_cases h:g=k
     ·have a:(g==k)=true:=XJ.mpr h;simp only[List.lookup,a,on (λe:g=f=>b (h.symm.trans e))]
     ·have a:(g==k)=false:=V5.mpr h;simp only[List.lookup,a];exact c
theorem ku(f:Str)(v:V):∀fs:List (Str×V),f∈(eG f v fs).map (·.1)/\∀g,g∈fs.map (·.1)->g∈(eG f v fs).map (·.1)
 |[]=>⟨by simp[eG],λg h=>by simp at h⟩
 | (k,x)::r=>by
   obtain⟨c,b⟩:=ku f v r;rw[show eG f v ((k,x)::r)=(if k=f then (k,v)::r else (k,x)::eG f v r) from rfl];by_cases a:k=f
   ·rw[Vo a];subst a;exact⟨by simp,λg h=>by simpa using h⟩
   · rw[on a];refine⟨?_,λg h=>?_⟩
     ·rw[Vq];exact Vu _ c
     · rw[Vq]at h ⊢;rcases VA.mp h with e|e
       ·exact VA.mpr (.inl e)
       ·exact Vu _ (b g e)
theorem lp(f:Str)(v:V):∀fs:List (Str×V),(eG f v fs).length<=fs.length+1
 |[]=>by simp[eG]
 | (k,x)::r=>by
   have b:=lp f v r;rw[show eG f v ((k,x)::r)=(if k=f then (k,v)::r else (k,x)::eG f v r) from rfl];by_cases a:k=f
   ·rw[Vo a,Vx,Vx];omega
   ·rw[on a,Vx,Vx];omega
theorem RelO.some_of{v:V}{o:Option Value}(r:RelO (some v) o):∃u,o=some u/\RelV v u:=by
 cases o with
 |none=>exact(show False from r).elim
 |some u=>exact⟨u,rfl,r⟩
theorem RelO.none_of{o:Option Value}(r:RelO none o):o=none:=by
 cases o with
 |none=>rfl
 |some u=>exact(show False from r).elim
theorem A0{v:V}{u:Value}(r:RelV v u):PySem.W.handedIn u=true:=by
 cases v with
 |non=>cases(show u=Value.none from r);rfl
 |bl b=>cases(show u=Value.bool b from r);rfl
 |int i=>obtain⟨t,e⟩:=(show ∃t,u=Value.int i t from r);cases e;rfl
 |str x=>obtain⟨t,e⟩:=(show ∃t,u=Value.str x t from r);cases e;rfl
 |byt b=>obtain⟨t,e⟩:=(show ∃t,u=Value.bytes b t from r);cases e;rfl
 |flt b=>obtain⟨t,e⟩:=(show ∃t,u=Value.float b t from r);cases e;rfl
 |ref a=>cases(show u=Value.ref a from r);rfl
 |ty n=>cases(show u=Value.type n from r);rfl
section
variable{P:Program}{w:World}{H H':Hp}{h h':Heap}{a C dx:Addr}{fs fs':List (Str×V)}
theorem rj(hok:HOk P w H h)(e:H a=some (.ins C dx fs)):∃b,ObjM h a dx C b/\(∀f,RelO (fs.lookup f) (b f))/\PySem.Within b (fs.map (·.1))/\fs.length<=1000/\H dx=some (.own a):=by
 obtain⟨d,z,ne,ob,b,n,r,q⟩:=(show ObjOk P w H h a (.ins C dx fs) from hok a _ e);exact⟨b,⟨ob,n,ne⟩,r,q,z,d⟩
end
structure Cls (K:F0) (C:Addr):Prop where
 pg:PySem.W.plainGet K C Str.empty=true
 hd:PySem.W.hasDictIn K C=true
 po:PySem.W.plainOver K C=true
 sa:PySem.W.findIn K (.ref C) "__setattr__" = some (some (.builtin "object.__setattr__"))
theorem Cls.get{K:F0}{C:Addr}(c:Cls K C)(f:Str):PySem.W.plainGet K C f=true:=c.pg
def NoAttr(K:F0)(C:Addr)(f:Str):Prop:=PySem.W.findIn K (.ref C) f=some none
theorem NoAttr.taker{K:F0}{C:Addr}{f:Str}(n:NoAttr K C f):PySem.W.takerIn K C f=some none:=by
 unfold PySem.W.takerIn;rw[show PySem.W.findIn K (.ref C) f=some none from n];rfl
structure Meth (K:F0) (C:Addr) (m:Str) (f:Addr):Prop where
 at_:PySem.W.findIn K (.ref C) m=some (some (.ref f))
 fn:PySem.W.isFn K (.ref f)=true
 kp:PySem.W.keepIn K (.ref f)=true
section
variable{X:Cx}{G:P4}{Z:St}{H:Hp}{s:Shared}{a C dx:Addr}{fs:List (Str×V)}{f:Str}{v:V}{A:Around}{E:T1}
theorem wL{b:Bool}{Q:T1}(I:Inv X G Z H s)(e:H a=some (.ins C dx fs))(c:Cls X.K C)(n:NoAttr X.K C f)(l:fs.lookup f=some v)
 (h:∀u d,Inv X G Z H d->RelV v u->Q u d):wpAny (model X.prog X.w) A (getAttr (.ref a) f b) Q E s:=by
 obtain⟨i,O,r,_,_,_⟩:=rj I.hok e;obtain⟨u,j,g⟩:=RelO.some_of (v:=v) (o:=i f) (by rw[<-l];exact r f);exact Ja I.kIn O (c.get f) c.hd n j (A0 g) (h u _ (I.tok _) g)
theorem mQ{m:Str}{g:Addr}{pl:Sem Bool}{Q:Value×List Value->Shared->Prop}(I:Inv X G Z H s)(e:H a=some (.ins C dx fs))(c:Cls X.K C)(k:Meth X.K C m g)(l:fs.lookup m=none)
 (h:Q (.ref g,[.ref a]) s):wpAny (model X.prog X.w) A (getMethod (.ref a) m pl) Q E s:=by
 obtain⟨b,O,r,_,_,_⟩:=rj I.hok e;have d:b m=none:=RelO.none_of (by rw[<-l];exact r m);exact E4 I.kIn O (c.get m) k.at_ k.fn d h
theorem v7{y:V}{u:Value}{Q:Unit->Shared->Prop}(I:Inv X G Z H s)(e:H a=some (.ins C dx fs))(c:Cls X.K C)(n:NoAttr X.K C f)(D:fs.length<1000)(p:RelV y u)
 (h:∀j,Inv X G Z (upd H a (.ins C dx (eG f y fs))) j->Q () j):wpAny (model X.prog X.w) A (setAttr (.ref a) f u) Q E s:=by
 obtain⟨k,O,r,i,_,l⟩:=rj I.hok e;have hz:(fs.map (·.1)).length<=sizeLine:=by rw[Vr,sizeLine_eq];omega
 refine Hd I.kIn O c.sa c.po n.taker c.hd i hz λh' d m=>h _ ?_;have hd:∃o,h'.get? dx=some o:=let ⟨o,_,_,B,_⟩:=d.ns;⟨o,B⟩
 refine I.write (x:=a) (e:=dx) (by rw[e];exact True.intro) (.inr l) (λb q v z=>(m.2 b v).trans z) hd ?_;refine⟨by rw[am O.ne];exact l,?_,O.ne,d.obj,_,d.ns,λg=>?_,λg t=>?_⟩
 ·have:=lp f y fs;omega
 · show RelO ((eG f y fs).lookup g) (if g=f then some u else k g);rw[lh];by_cases q:g=f
   ·rw[Vo q,Vo q];exact p
   ·rw[on q,on q];exact r g
 · by_cases q:g=f
   ·rw[q];exact(ku f y fs).1
   ·refine(ku f y fs).2 g (i g λz=>t ?_);show(if g=f then some u else k g)=none;rw[on q];exact z
theorem Inv.made(I:Inv X G Z H s):Inv X G Z (upd (upd H s.heap.objs.size (.own (s.heap.objs.size+1))) (s.heap.objs.size+1) (.ins C s.heap.objs.size []))
 {s with heap:=(s.heap.push PySem.W.emptyDict).push (PySem.W.instObj C s.heap.objs.size)}:=by
 have e1:(s.heap.push PySem.W.emptyDict).get? s.heap.objs.size=some PySem.W.emptyDict:=VO s.heap rfl
 have g:((s.heap.push PySem.W.emptyDict).push (PySem.W.instObj C s.heap.objs.size)).get? (s.heap.objs.size+1)=some (PySem.W.instObj C s.heap.objs.size):=by
  have:=VO (s.heap.push PySem.W.emptyDict) (o:=PySem.W.instObj C s.heap.objs.size) rfl
  rwa [Xa]at this
 have f:(s.heap.push PySem.W.emptyDict).Ns s.heap.objs.size (λ_=>none):=⟨PySem.W.emptyDict,#[],_,e1,rfl,(λe d=>absurd d (by simp)),λ_=>rfl⟩;have h:=I.laid (a:=s.heap.objs.size) (o:=.own (s.heap.objs.size+1)) (h':=s.heap.push PySem.W.emptyDict) (t':=s.toks) (λb u q=>Vv _ q) (VG _) ⟨_,e1⟩;refine h.laid (a:=s.heap.objs.size+1) (o:=.ins C s.heap.objs.size []) (t':=s.toks) (λb u q=>Vv _ q) (Nat.le_of_eq (Xa _ _)) ?_;have ne:s.heap.objs.size≠s.heap.objs.size+1:=VY (Xb _);refine⟨by rw[am ne,ao],Wr _,ne,g,λ_=>none,(Heap.Ns1.of_empty f).at λo q=>Vv _ q,λ_=>True.intro,λy c=>absurd rfl c⟩
theorem Jt{prog:Program}{w:World}{env:Env}{e:Expr}{f:Str}{pos:Pos}{s:Shared}{Q:T1}(b:attributeBase e f env (eval e env)=eval e env)
 (h:wpAny (model prog w) A (eval e env) (λo a=>wpAny (model prog w) A (getAttr o f true) Q E a) E s):wpAny (model prog w) A (eval (.Attribute e f pos) env) Q E s:=
 Attribute_any_ h (by rw[arm_eval_Attribute,b])
end
def l6(K:F0)(ta:TE)(f:Str):TE:=λZ H Q=>ta Z H λx H1=>∃a C dx fs v,x=.ref a/\H1 a=some (.ins C dx fs)/\Cls K C/\NoAttr K C f/\fs.lookup f=some v/\Q v H1
def BX(K:F0)(ta c:TE)(f:Str):TS:=λD Z H=>c Z H λy H1=>ta Z H1 λx b=>∃a C dx fs,x=.ref a/\b a=some (.ins C dx fs)/\Cls K C/\NoAttr K C f/\fs.length<1000/\
 D.nx Z (upd b a (.ins C dx (eG f y fs)))
section
variable{X:Cx}{o e value:Expr}{f:Str}{pos pos' tpos:Pos}{ta tv:TE}
theorem MH(g:PE X e ta)(i:attributeBase e f X.env (eval e X.env)=eval e X.env):PE X (.Attribute e f pos) (l6 X.K ta f):=by
 intro G s Z H Q I h;refine Jt i (a7 (g G s Z H _ I h) λu r ⟨x,H1,m,b,a,C,dx,fs,v,ex,j,c,n,l,q⟩=>?_);subst ex;obtain rfl:u=Value.ref a:=b;exact wL m j c n l λo p k d=>⟨v,H1,k,d,q⟩
theorem Mm(k:PE X o ta)(i:PE X value tv)(j:swapsWith value (some (.Attribute o f pos')) pos.line X.env=pure false):PS X (.Assign [.Attribute o f pos'] value pos) (BX X.K ta tv f):=by
 intro G s Z H D I h;refine plainObj_wpAny_Assign_Attribute (a7 (i G s Z H _ I h) λu b ⟨y,H1,t,d,q⟩=>a7 (k G b Z H1 _ t q) λov w ⟨x,z,r,e,a,C,dx,fs,ex,m,c,n,l,g⟩=>?_) j;subst ex;obtain rfl:ov=Value.ref a:=e;exact v7 r m c n l d λv p=>⟨Z,_,p,g⟩
end
structure Room (k:Nat) (A:Around):Prop where
 hd:A.handled=none
 dp:A.depth+3*k+5<recursionLimit
 un:A.units+16*k+200<cLine
theorem Room.mono{j k:Nat}{A:Around}(r:Room k A)(h:j<=k):Room j A:=⟨r.hd,by have:=r.dp;omega,by have:=r.un;omega⟩
theorem Room.deeper{k:Nat}{A:Around}(r:Room (k+1) A)(env:Env):Room k (A.deeper env):=
 ⟨r.hd,by have:=r.dp;show A.depth+1+3*k+5<_;omega,by have:=r.un;show A.units+3+16*k+200<_;omega⟩
theorem wF{A:Around}{C:Addr}{us:List Value}{a:List (Str×Value)}:(A.under (.builtin "type.__call__" ⟨.ref C::us,a⟩)).depth=A.depth+1:=by
 first | rfl | simp[Around.under,Code.weight,Code.isCreation,Code.isGuard,Code.isCaller,Code.frames,Code.isFrame,guardIds]
theorem wE{A:Around}{C:Addr}{us:List Value}{a:List (Str×Value)}:(A.under (.builtin "type.__call__" ⟨.ref C::us,a⟩)).units=A.units+1:=by
 first | rfl | simp[Around.under,Code.cUnits,Code.frames,Code.isFrame]
theorem Room.make{k:Nat}{A:Around}(r:Room (k+1) A)(C:Addr)(us:List Value)(a:List (Str×Value)):Room k (A.under (.builtin "type.__call__" ⟨.ref C::us,a⟩)):=
 ⟨r.hd,by have:=r.dp;rw[wF];omega,by have:=r.un;rw[wE];omega⟩
theorem Room.depth{k:Nat}{A:Around}(r:Room k A):A.depth<recursionLimit:=by have:=r.dp;omega
theorem Room.units{k:Nat}{A:Around}(r:Room k A):A.units+64<cLine:=by have:=r.un;omega
def bx:TA:=λ_ H Q=>Q [] H
def aA(ta:TE)(a:TA):TA:=λZ H Q=>ta Z H λx H1=>a Z H1 λxs b=>Q (x::xs) b
section
variable{X:Cx}{e:Expr}{es:List Expr}{te:TE}{t:TA}{pos:Pos}
theorem MQ:PA X [] bx:=λ_ _ _ _ H Q I h=>WE ⟨[],H,I,.nil,h⟩
theorem HZ(j:PE X e te)(i:PA X es t)(g:starEach (e::es) X.env=(false,eval e X.env)::starEach es X.env:=by rfl):PA X (e::es) (aA te t):=by
 intro pos G s Z H Q I h;rw[g];show wpAny _ _ (spliced ((false,eval e X.env)::backTo pos (starEach es X.env))) _ _ s;refine Wd (a7 (j G s Z H _ I h) λu a ⟨x,H1,l,c,f⟩=>?_);exact a7 (i pos G a Z H1 _ l f) λus n ⟨xs,m,k,b,d⟩=>⟨x::xs,m,k,.cons c b,d⟩
def BH(t:TA):TE:=λZ H Q=>t Z H λxs H1=>xs.length<=sizeLine/\∀p,H1 p=none->Q (.ref p) (upd H1 p (.tup xs))
def GU(t:TA):TE:=λZ H Q=>t Z H λxs H1=>xs.length<=sizeLine/\∀p,H1 p=none->Q (.ref p) (upd H1 p (.lst xs))
theorem MB{d}(h:PA X es t):PE X (.Tuple es d pos) (BH t):=by
 intro G s Z H Q I f;refine wpAny_Tuple_spliced (a7 (h pos G s Z H _ I f) λus a ⟨xs,H1,c,r,z,q⟩=>⟨by rw[<-r.length];exact z,?_⟩);have g:H1 a.heap.objs.size=none:=c.hok.fresh (VG _);refine⟨.ref a.heap.objs.size,upd H1 a.heap.objs.size (.tup xs),c.laid (t':=a.toks) (λb u e=>Vv _ e) (VG _) ?_,rfl,q _ g⟩;exact⟨z,us,r,⟨_,VO _ rfl,rfl,_,rfl⟩⟩
theorem MF(h:PA X es t):PE X (.List es pos) (GU t):=by
 intro G s Z H Q I d;refine wpAny_List_spliced (a7 (h pos G s Z H _ I d) λus a ⟨xs,H1,c,r,z,q⟩=>⟨by rw[<-r.length];exact z,?_⟩);have f:H1 a.heap.objs.size=none:=c.hok.fresh (VG _);refine⟨.ref a.heap.objs.size,upd H1 a.heap.objs.size (.lst xs),c.laid (t':=a.toks) (λb u e=>Vv _ e) (VG _) ?_,rfl,q _ f⟩;exact⟨z,us,0,r,VO _ rfl⟩
end
abbrev Sp:=List V->Hp->VK->XK->Prop
abbrev Bx:=List Env->Hp->Shared->XK->Value->Shared->Prop
structure Env0 (P:Program) (w:World) (K:F0) (mg:Str->Option Value) (base:Heap) (A:Around) (outer:List Env) (s:Shared) (H:Hp):Prop where
 frames:A.frames=some outer
 mod:Mod K mg base
 bs:∀b o,base.get? b=some o->s.heap.get? b=some o/\H b=none
 bsz:base.objs.size<=s.heap.objs.size
 funs:s.heap.FunFrames base outer
 frf:∀b∈wM outer,H b=none
 hok:HOk P w H s.heap
 bare:AllBare s.gens
def CE(outer:List Env)(P:Program)(w:World)(H:Hp)(s:Shared)(Q:VK)(u:Value)(a:Shared):Prop:=
 ∃v H',a.os=s.os/\AllBare a.gens/\Un (wM outer) [] H H' s.heap a.heap/\HOk P w H' a.heap/\RelV v u/\Q v H'
def CR(CX:Bx)(outer:List Env)(P:Program)(w:World)(H:Hp)(s:Shared)(Q:VK)(E:XK)(r:Result)(a:Shared):Prop:=
 match r with
 |.ok (.ret u)=>CE outer P w H s Q u a
 |.ok _=>False
 |.error e=>CX outer H s E e a
structure FnOk (P:Program) (w:World) (K:F0) (mg:Str->Option Value) (base:Heap) (CX:Bx) (k:Nat) (f:Addr) (fd:FuncData) (ps:List Str) (sp:Sp):Prop where
 len:∀vs H Q E,sp vs H Q E->vs.length=ps.length
 run:∀(A:Around) (outer:List Env) (s:Shared) (H:Hp) (args:Args) (us:List Value) (vs:List V) (Q:VK) (E:XK),Room k A->Env0 P w K mg base A outer s H->BindsTo s fd args (ps.zip us)->Vals vs us->sp vs H Q E->
  codeAny (model P w) A (.call (.ref f) args) (CR CX outer P w H s Q E) s
theorem FnOk.imp{P:Program}{w:World}{K:F0}{mg:Str->Option Value}{base:Heap}{CX:Bx}{k:Nat}{f:Addr}{fd:FuncData}{ps:List Str}{sp a:Sp}(F:FnOk P w K mg base CX k f fd ps sp)
 (h:∀vs H Q E,a vs H Q E->sp vs H Q E):FnOk P w K mg base CX k f fd ps a:=
 ⟨λvs H Q E q=>F.len vs H Q E (h _ _ _ _ q),λA outer s H args us vs Q E d e g b c=>F.run A outer s H args us vs Q E d e g b (h _ _ _ _ c)⟩
theorem Env0.make{P:Program}{w:World}{K:F0}{mg:Str->Option Value}{base:Heap}{A:Around}{outer:List Env}{s:Shared}{H:Hp}(e:Env0 P w K mg base A outer s H)(C:Addr)(us:List Value)(a:List (Str×Value)):
 Env0 P w K mg base (A.under (.builtin "type.__call__" ⟨.ref C::us,a⟩)) outer s H:=⟨by first | exact e.frames | (simpa [Around.under,Code.envs,Code.isFrame,pushEnvs] using e.frames),e.mod,e.bs,e.bsz,e.funs,e.frf,e.hok,e.bare⟩
section
variable{X:Cx}{G:P4}{Z:St}{H:Hp}{s s':Shared}
theorem Inv.env0(I:Inv X G Z H s):Env0 X.prog X.w X.K X.mg X.base X.A X.stack s H:=
 ⟨I.ok.frames,I.ok.mod,I.bs,VT I.ok.bsz I.sz,I.stack,I.stkFree,I.hok,I.bare⟩
theorem Inv.after{Q:VK}{u:Value}(I:Inv X G Z H s)(h:CE X.stack X.prog X.w H s Q u s'):EP X G Z Q u s':=by
 obtain⟨v,H',os,bare,un,hok,r,q⟩:=h;obtain⟨c,g,d,t,a⟩:=s';obtain rfl:a=s.os:=os;exact⟨v,H',I.call (h':=c) (g':=g) (d':=d) (t':=t) (ch:=[]) un hok bare (λb z=>absurd z (by simp)),r,q⟩
end
def fH(sp:Sp)(a:List V)(E:XK)(t:TA):TE:=λZ H Q=>t Z H λvs H1=>sp (vs++a) H1 Q E
def cg(C:Addr)(m:Str)(sp:Sp)(b:List V)(E:XK)(ta:TE)(t:TA):TE:=λZ H Q=>ta Z H λx H1=>∃a dx fs,x=.ref a/\H1 a=some (.ins C dx fs)/\fs.lookup m=none/\
 t Z H1 λvs c=>sp (x::(vs++b)) c Q E
def pe(C:Addr)(sp:Sp)(a:List V)(E:XK)(t:TA):TE:=λZ H Q=>t Z H λvs H1=>∀x dx,H1 x=none->H1 dx=none->dx≠x->
 sp (.ref x::(vs++a)) (upd (upd H1 dx (.own x)) x (.ins C dx [])) (λv b=>v=.non/\Q (.ref x) b) E
def Binds(K:F0)(fd:FuncData)(ps:List Str)(ds:List Value):Prop:=
 ∀(s:Shared) (us:List Value),K.In s.heap->(us++ds).length=ps.length->BindsTo s fd ⟨us,[]⟩ (ps.zip (us++ds))
theorem Binds.all{K:F0}{fd:FuncData}{ps:List Str}(h:∀us:List Value,us.length=ps.length->bindArgs fd ⟨us,[]⟩=pure (ps.zip us)):Binds K fd ps []:=λs us _ a=>by
 rw[V3]at a ⊢;exact .of_eq (h us a)
def ju(CX:Bx)(X:Cx)(E:XK):Prop:=∀(G:P4) (Z:St) (H:Hp) (s:Shared) (e:Value) (a:Shared),Inv X G Z H s->CX X.stack H s E e a->X.xe e a
section
variable{X:Cx}{CX:Bx}{k:Nat}{f C:Addr}{fd:FuncData}{ps:List Str}{sp:Sp}{dvs:List V}{ds:List Value}{E:XK}{x m:Str}{p pos apos:Pos}{e o:Expr}{es:List Expr}{ta:TE}{t:TA}
theorem v8{G:P4}{Z:St}{H:Hp}{s:Shared}{Q:VK}{us:List Value}{vs:List V}(F:FnOk X.prog X.w X.K X.mg X.base CX k f fd ps sp)(g:Room k X.A)(j:Binds X.K fd ps ds)(hd:Vals dvs ds)(d:ju CX X E)
 (I:Inv X G Z H s) (r:Vals vs us) (h:sp (vs++dvs) H Q E):wpAny (model X.prog X.w) X.A (call (.ref f) us) (EP X G Z Q) X.xe s:=by
 have b:Vals (vs++dvs) (us++ds):=r.append hd;have i:(us++ds).length=ps.length:=by rw[<-b.length];exact F.len _ _ _ _ h
 refine wpAny_call (Yj (F.run X.A X.stack s H ⟨us,[]⟩ (us++ds) (vs++dvs) Q E g I.env0 (j s us I.kIn i) b h) λr c a=>?_);cases r with
 |error e=>exact d G Z H s e c I a
 |ok l=>
   cases l with
   |ret u=>exact I.after a
   |next=>exact False.elim a
   |brk=>exact False.elim a
   |cont=>exact False.elim a
theorem HV(F:FnOk X.prog X.w X.K X.mg X.base CX k f fd ps sp)(g:Room k X.A)(l:Gl X x)(i:X.mg x=some (.ref f))(j:PySem.W.keepIn X.K (.ref f)=true)(n:Binds X.K fd ps ds)(hd:Vals dvs ds)(d:ju CX X E)
 (o:PA X (e::es) t) (b:(x==("__debug__" : Str))=false:=by decide) (m:starEach (e::es) X.env=(false,eval e X.env)::starEach es X.env:=by rfl) (a:(backTo pos (starEach es X.env)).any (·.1)=false:=by rfl):
 PE X (.Call (.Name x p) (e::es) [] pos) (fH sp dvs E t):=by
 intro G s Z H Q I h;refine WM (q8 I l i ?_ b);refine XM (h₀:=X.base) I.ok.mod.kin j (a7 (o pos G s Z H _ I h) λus u ⟨vs,H1,c,r,q⟩=>⟨c.kIn,?_⟩) m a;exact v8 F g n hd d c r q
theorem HK{pl:Sem Bool}(D:PE X o ta)(c:Cls X.K C)(g:Meth X.K C m f)(F:FnOk X.prog X.w X.K X.mg X.base CX k f fd ps sp)(B:Room k X.A)(J:Binds X.K fd ps ds)(hd:Vals dvs ds)(y:ju CX X E)(L:PA X (e::es) t)
 (b:starEach (e::es) X.env=(false,eval e X.env)::starEach es X.env:=by rfl) (d:(backTo pos (starEach es X.env)).any (·.1)=false:=by rfl)
 (z:eval (.Call (.Attribute o m apos) (e::es) [] pos) X.env=(do
   let ov <-eval o X.env
   standAt apos.atName
   let (f,first) <-holding [ov] (getMethod ov m pl)
   callWith pos f first (backTo pos (starEach (e::es) X.env)) (backToKw pos (keywordEach [] X.env))):=by rfl):
 PE X (.Call (.Attribute o m apos) (e::es) [] pos) (cg C m sp dvs E ta t):=by
 intro G s Z H Q I h;refine Yu (pl:=pl) (a7 (D G s Z H _ I h) λu n ⟨x,H1,j,p,a,dx,fs,ex,M,l,q⟩=>?_) z;subst ex;obtain rfl:u=Value.ref a:=p;refine mQ j M c g l ?_;refine XM (first:=[.ref a]) (h₀:=X.base) I.ok.mod.kin g.kp (a7 (L pos G n Z H1 _ j q) λus N ⟨vs,O,i,r,v⟩=>⟨i.kIn,?_⟩) b d;exact v8 (us:=.ref a::us) (vs:=.ref a::vs) F B J hd y i (.cons rfl r) v
theorem CP{pl:Sem Bool}(n:PE X o ta)(c:Cls X.K C)(d:Meth X.K C m f)(F:FnOk X.prog X.w X.K X.mg X.base CX k f fd ps sp)(j:Room k X.A)(p:Binds X.K fd ps ds)(hd:Vals dvs ds)(g:ju CX X E)
 (i:eval (.Call (.Attribute o m apos) [] [] pos) X.env=(do
   let ov <-eval o X.env
   standAt apos.atName
   let (f,first) <-holding [ov] (getMethod ov m pl)
   callWith pos f first (backTo pos (starEach [] X.env)) (backToKw pos (keywordEach [] X.env))):=by rfl):
 PE X (.Call (.Attribute o m apos) [] [] pos) (cg C m sp dvs E ta bx):=by
 intro G s Z H Q I h;refine Yu (pl:=pl) (a7 (n G s Z H _ I h) λu t ⟨x,H1,b,e,a,dx,fs,ex,r,l,q⟩=>?_) i;subst ex;obtain rfl:u=Value.ref a:=e;refine mQ b r c d l ?_;exact PySem.W.callWith_K0 (first:=[.ref a]) b.kIn d.kp (v8 (us:=[.ref a]) (vs:=[.ref a]) F j p hd g b (.cons rfl .nil) q)
structure Mk (K:F0) (C f:Addr):Prop where
 makes:PySem.W.makesIn K C=true
 init:PySem.W.findIn K (.ref C) "__init__" = some (some (.ref f))
 fn:PySem.W.isFn K (.ref f)=true
 kp:PySem.W.keepIn K (.ref C)=true
theorem BZ{G:P4}{Z:St}{H:Hp}{s:Shared}{Q:VK}{us:List Value}{vs:List V}(M:Mk X.K C f)(F:FnOk X.prog X.w X.K X.mg X.base CX k f fd ps sp)(m:Room (k+1) X.A)(o:Binds X.K fd ps ds)(hd:Vals dvs ds)
 (l:ju CX X E) (I:Inv X G Z H s) (r:Vals vs us)
 (h:∀x dx,H x=none->H dx=none->dx≠x->sp (.ref x::(vs++dvs)) (upd (upd H dx (.own x)) x (.ins C dx [])) (λv y=>v=.non/\Q (.ref x) y) E):
 wpAny (model X.prog X.w) X.A (call (.ref C) us) (EP X G Z Q) X.xe s:=by
 have d:=h (s.heap.objs.size+1) s.heap.objs.size (I.hok.fresh (Nat.le_succ _)) (I.hok.fresh (VG _)) (VY (Xb _));have b:=Inv.made (C:=C) I;have c:Vals (V.ref (s.heap.objs.size+1)::(vs++dvs)) (Value.ref (s.heap.objs.size+1)::(us++ds)):=.cons rfl (r.append hd)
 have n:(Value.ref (s.heap.objs.size+1)::us++ds).length=ps.length:=by
  have e:=c.length;rw[F.len _ _ _ _ d]at e;exact e.symm
 refine wpAny_call (D7 (f:=f) I.kIn M.makes M.init (XJ.mp M.fn) (Yj (F.run _ X.stack _ _ ⟨Value.ref (s.heap.objs.size+1)::us,[]⟩ (Value.ref (s.heap.objs.size+1)::(us++ds)) _ _ E (m.make C us [])
  (b.env0.make C us []) (o _ (Value.ref (s.heap.objs.size+1)::us) b.kIn n) c d) λr g a=>?_))
 cases r with
 |error e=>exact l G Z _ _ e g b a
 |ok p=>
   cases p with
   |ret u=>
     obtain⟨v,H',t,i,q,j⟩:=b.after a;subst q;exact⟨i,⟨V.ref (s.heap.objs.size+1),H',t,rfl,j⟩⟩
   |next=>exact False.elim a
   |brk=>exact False.elim a
   |cont=>exact False.elim a
theorem HL(M:Mk X.K C f)(F:FnOk X.prog X.w X.K X.mg X.base CX k f fd ps sp)(g:Room (k+1) X.A)(j:Gl X x)(i:X.mg x=some (.ref C))(m:Binds X.K fd ps ds)(hd:Vals dvs ds)(d:ju CX X E)
 (n:PA X (e::es) t) (b:(x==("__debug__" : Str))=false:=by decide) (l:starEach (e::es) X.env=(false,eval e X.env)::starEach es X.env:=by rfl) (a:(backTo pos (starEach es X.env)).any (·.1)=false:=by rfl):
 PE X (.Call (.Name x p) (e::es) [] pos) (pe C sp dvs E t):=by
 intro G s Z H Q I h;refine WM (q8 I j i ?_ b);refine XM (h₀:=X.base) I.ok.mod.kin M.kp (a7 (n pos G s Z H _ I h) λus o ⟨vs,H1,c,r,q⟩=>⟨c.kIn,?_⟩) l a;exact BZ M F g m hd d c r q
end
def PK(X:Cx)(a:List Keyword)(t:TA):Prop:=
 ∀(pos:Pos) (G:P4) (s:Shared) (Z:St) (H:Hp) (Q:List V->Hp->Prop),Inv X G Z H s->t Z H Q->wpAny (model X.prog X.w) X.A (evalAll ((backToKw pos (keywordEach a X.env)).map (·.2))) (AP X G Z Q) X.xe s
section
variable{X:Cx}{CX:Bx}{k:Nat}{f C:Addr}{fd:FuncData}{ps ks:List Str}{sp:Sp}{E:XK}{x m:Str}{p pos apos kpos:Pos}{e o:Expr}{es:List Expr}{kws:List Keyword}{te ta:TE}{t tk:TA}{nm:Option Str}
theorem Mv:PK X [] bx:=λ_ _ _ _ H Q I h=>wpAny_evalAll_nil ⟨[],H,I,.nil,h⟩
theorem HG(i:PE X e te)(g:PK X kws t):PK X (⟨nm,e,kpos⟩::kws) (aA te t):=by
 intro pos G s Z H Q I h;show wpAny _ _ (evalAll ((do let v <-eval e X.env;standAt pos;pure v)::(backToKw pos (keywordEach kws X.env)).map (·.2))) _ _ s;refine wpAny_evalAll_cons (Vp (a7 (i G s Z H _ I h) λu a ⟨x,H1,k,c,f⟩=>Vp (X5 (Vz ?_))));exact a7 (g pos G a Z H1 _ k f) λus m ⟨xs,l,j,b,d⟩=>⟨x::xs,l,j,.cons c b,d⟩
variable{g:List Value->List Value->List Value}{gV:List V->List V->List V}
end
structure FnScope (N P:List Str) (sc:Scope):Prop where
 kind:sc.kind=.function
 co:sc.isCoroutine=false
 gen:sc.isGenerator=false
 nd:N.Nodup
 pre:N.take P.length=P
 par:∀x∈P,sc.names.lookup x=some .local\/sc.names.lookup x=some .cell
 nofree:∀y∈sc.names,y.2≠ .free
theorem qh{kindOf:Str->Option NameKind}{x:Str}:∀{binds:List (Str×Value)} {m:Str->Option Value},(∀v,(x,v)∉binds)->bindL kindOf binds m x=m x
 |[],_,_=>rfl
 | (n,v)::r,m,h=>by
   unfold bindL;rw[qh λw a=>h w (List.mem_cons_of_mem _ a)];split
   · have:x≠n:=by rintro rfl;exact h v Vt
     simp[this]
   ·rfl
theorem qj{kindOf:Str->Option NameKind}{x:Str}:∀{binds:List (Str×Value)} {m:Str->Option Value},(∀v,(x,v)∉binds)->bindC kindOf binds m x=m x
 |[],_,_=>rfl
 | (n,v)::r,m,h=>by
   unfold bindC;rw[qj λw a=>h w (List.mem_cons_of_mem _ a)];split
   ·rfl
   · have:x≠n:=by rintro rfl;exact h v Vt
     simp[this]
theorem qi{kindOf:Str->Option NameKind}{x:Str}{v:Value}:∀{P:List Str} {vs:List Value} {i:Nat} {m:Str->Option Value},P.Nodup->P[i]?=some x->vs[i]?=some v->kindOf x=some .local->
 bindL kindOf (P.zip vs) m x=some v
 |[],_,_,_,_,h,_,_=>by simp at h
 |_::_,[],_,_,_,_,h,_=>by simp at h
 | p::P,w::vs,0,m,nd,b,a,c=>by
   simp at b a;subst b;subst a;show bindL kindOf ((p,w)::P.zip vs) m p=_;unfold bindL;rw[qh λv d=>(List.nodup_cons.mp nd).1 (List.of_mem_zip d).1,if_pos c];simp
 | p::P,w::vs,i+1,m,nd,b,a,c=>by
   show bindL kindOf ((p,w)::P.zip vs) m x=_;unfold bindL;exact qi (i:=i) (List.nodup_cons.mp nd).2 (by simpa using b) (by simpa using a) c
theorem qk{kindOf:Str->Option NameKind}{x:Str}{v:Value}:∀{P:List Str} {vs:List Value} {i:Nat} {m:Str->Option Value},P.Nodup->P[i]?=some x->vs[i]?=some v->kindOf x≠some .local->
 bindC kindOf (P.zip vs) m x=some v
 |[],_,_,_,_,h,_,_=>by simp at h
 |_::_,[],_,_,_,_,h,_=>by simp at h
 | p::P,w::vs,0,m,nd,b,a,c=>by
   simp at b a;subst b;subst a;show bindC kindOf ((p,w)::P.zip vs) m p=_;unfold bindC;rw[qj λv d=>(List.nodup_cons.mp nd).1 (List.of_mem_zip d).1,if_neg c];simp
 | p::P,w::vs,i+1,m,nd,b,a,c=>by
   show bindC kindOf ((p,w)::P.zip vs) m x=_;unfold bindC;exact qk (i:=i) (List.nodup_cons.mp nd).2 (by simpa using b) (by simpa using a) c
def gK(N:List Str)(vs:List V):St:=vs.map some++List.replicate (N.length-vs.length) none
def uA(CX:Bx)(P:Program)(w:World)(K:F0)(mg:Str->Option Value)(base:Heap)(N:List Str)(qual:Str)(scope:Scope)(f:Addr)(b:Value)(A:Around)(outer:List Env)(s:Shared)(H:Hp)(E:XK):Cx where
 prog:=P
 w:=w
 K:=K
 mg:=mg
 base:=base
 A:=A.deeper (envOfC qual scope s.heap.objs.size f b)
 N:=N
 s₀:=s
 H₀:=H
 env:=envOfC qual scope s.heap.objs.size f b
 outer:=outer
 stack:=envOfC qual scope s.heap.objs.size f b::outer
 ex:=[]
 calm:=true
 fn:=λ_=>true
 pn:=[]
 xe:=λe c=>wpAny (model P w) (A.deeper (envOfC qual scope s.heap.objs.size f b)) («leaving» (envOfC qual scope s.heap.objs.size f b) e) (λ_ a=>CX outer H s E e a) (λd a=>CX outer H s E d a) c
theorem vm{sc:Scope}{n:Nat}{x:Str}(h:sc.names.lookup x=some .cell):∃c,(cellsFrom n sc.names []).lookup x=some c:=by
 have q:=Yk sc.names n [] (.inl h);exact WB.mp q
theorem AW{CX:Bx}{P:Program}{w:World}{K:F0}{mg:Str->Option Value}{base:Heap}{N ps:List Str}{qual:Str}{scope:Scope}{f:Addr}{o:Value}{A:Around}{outer:List Env}{s t:Shared}{H:Hp}{E:XK}{us:List Value}{vs:List V}
 (S:FnScope N ps scope) (hd:A.handled=none) (e0:Env0 P w K mg base A outer s H) (J:vs.length=ps.length) (r:Vals vs us)
 (x:InCallC s s.heap.objs.size (bindL (envOfC qual scope s.heap.objs.size f o).kindOf (ps.zip us) λ_=>none) (cellsFrom (s.heap.objs.size+1) scope.names []) (bindC (envOfC qual scope s.heap.objs.size f o).kindOf (ps.zip us) λ_=>none) t):
 Inv (uA CX P w K mg base N qual scope f o A outer s H E) [] (gK N vs) H t:=by
 have F:ps.length<=N.length:=by have:=congrArg List.length S.pre;rw[Yb]at this;omega
 obtain⟨m,I,rfl,C⟩:=x.done;have g:∀b:Addr,b∉(uA CX P w K mg base N qual scope f o A outer s H E).ex:=λb z=>absurd (show b∈([]:List Addr) from z) (by simp)
 refine⟨⟨e0.mod,S.kind,rfl,rfl,VG _,λy z c m d=>?_,λy j=>?_,λy c _ h=>?_,λ_=>hd,Around.frames_deeper e0.frames,.inr ⟨rfl,rfl⟩,λb z=>absurd z (g b),e0.bs,e0.bsz,λb _ _=>g b,λb z=>absurd z (g b),e0.funs,e0.frf⟩,
  rfl,e0.bare,Un.kept C,⟨_,x.toInCall.ns,λi y v m d L=>?_⟩,λy c h=>⟨_,x.cell y c h⟩,e0.hok.fresh (VG _),λy c h=>?_,λp hp=>absurd (show p∈([]:P4) from hp) (by simp),e0.hok.kept C,?_⟩
 ·exact name_of_addr x.apart (WG m) (WG d)
 · have j:scope.names.lookup y=some .cell\/scope.names.lookup y=some .free:=j;rcases j with j|j
   ·exact vm j
   ·exact absurd rfl (S.nofree _ (WG j))
 ·exact Wj (x.above y c (WG h))
 · have hi:i<vs.length:=by
    unfold gK at d;by_cases hi:i<vs.length
    ·exact hi
    ·rw[V9 (by simpa using hi)]at d;rw[Xk]at d;split at d<;>cases d
   have G:vs[i]?=some v:=by
    unfold gK at d;rw[List.getElem?_append_left (by simpa using hi),List.getElem?_map]at d;cases e:vs[i]? with
    |none=>rw[e]at d;cases d
    |some a=>rw[e]at d;cases d;rfl
   obtain⟨u,B,D⟩:=r.get G
   have hp:ps[i]?=some y:=by
    rw[<-S.pre,List.getElem?_take_of_lt (by omega)];exact m
   have l:ps.Nodup:=by rw[<-S.pre];exact S.nd.sublist (List.take_sublist _ _)
   refine⟨u,D,?_⟩;rcases S.par y (Wn hp) with k|k
   ·exact .inl ⟨k,qi l hp B k⟩
   ·obtain⟨c,e⟩:=vm (n:=s.heap.objs.size+1) k;refine .inr ⟨.inl k,c,e,?_⟩;have q:=x.cell y c e;rw[qk l hp B (by show scope.names.lookup y≠_;rw[k];decide)]at q;exact q
 ·exact e0.hok.fresh (Wj (x.above y c (WG h)))
 ·unfold gK;show _=N.length;rw[List.length_append,List.length_map,List.length_replicate];omega
theorem fn_of{CX:Bx}{P:Program}{w:World}{K:F0}{mg:Str->Option Value}{base:Heap}{k:Nat}{f:Addr}{name qual:Str}{c:Arguments}{d:List Stmt}{scope:Scope}{M kV p pm a ct oc:Value}{an R:Option Addr}
 {C:Array (Option Value)} {N ps:List Str} {sp:Sp} (lk:K.lookup f=some ⟨oc,R,.func (PySem.W.fnOf name qual c d scope M kV p pm an a ct),C⟩) (G:PySem.W.codeIn K a qual=true) (S:FnScope N ps scope)
 (len:∀vs H Q E,sp vs H Q E->vs.length=ps.length)
 (i:∀(A:Around) (outer:List Env) (s:Shared) (H:Hp) (vs:List V) (Q:VK) (E:XK),Room k (A.deeper (envOfC qual scope s.heap.objs.size f a))->sp vs H Q E->
   ∃t,PSs (uA CX P w K mg base N qual scope f a A outer s H E) d t/\t {nx:=λ_ H'=>Q .non H',rt:=Q} (gK N vs) H):
 FnOk P w K mg base CX (k+1) f (PySem.W.fnOf name qual c d scope M kV p pm an a ct) ps sp:=by
 refine⟨len,λA outer s H args us vs Q E F e0 hb r l=>?_⟩;have Y:=len _ _ _ _ l;have O:K.In s.heap:=e0.mod.kin.keeps λb o e=>(e0.bs b o e).1;have D:s.heap.NoLimit:=e0.mod.nolimit.keeps λb o e=>(e0.bs b o e).1
 have h:∀y∈ps.zip us,scope.names.lookup y.1=some .local\/(scope.names.lookup y.1=some .cell/\((cellsFrom (s.heap.objs.size+1) scope.names []).lookup y.1).isSome=true):=λ⟨n,v⟩ T=>by
  rcases S.par n (List.of_mem_zip T).1 with q|q
  ·exact .inl q
  ·exact .inr ⟨q,Yk _ _ _ (.inl q)⟩
 refine codeAny_call_function F.depth (O _ _ lk) rfl S.co S.gen rfl (PySem.W.codeRec_of O G) (hb _ _ _ _ ?_);refine wpAny_newFunctionEnv_cells S.kind h λenv Z L x=>?_;subst Z;refine⟨D.keeps x.toInCall.keep,codeAny_func ?_⟩;obtain⟨t,U,X⟩:=i A outer s H vs Q E (F.deeper _) l;have I:Inv (uA CX P w K mg base N qual scope f a A outer s H E) [] (gK N vs) H L:=AW S F.hd e0 Y r x;refine Xw (U [] L (gK N vs) H _ I X) (λfl z j=>?_) λe z j=>j
 have m:∀{g:St} {H':Hp} {v:V} {u:Value},Inv (uA CX P w K mg base N qual scope f a A outer s H E) [] g H' z->RelV v u->Q v H'->CE outer P w H s Q u z:=
  λ{g H' v u} J B q=>⟨v,H',J.os,J.bare,J.base,J.hok,B,q⟩
 cases fl with
 |ret u=>
   obtain⟨v,g,H',J,B,q⟩:=j;exact m J B q
 |next=>
   obtain⟨g,H',J,q⟩:=j;exact m (v:=V.non) (u:=Value.none) J rfl q
 |brk=>
   obtain⟨_,_,_,q⟩:=j;exact False.elim q
 |cont=>
   obtain⟨_,_,_,q⟩:=j;exact False.elim q
section
variable{X:Cx}{x:Str}{p pos:Pos}{e:Expr}{es:List Expr}{t:TA}{id T:String}{r:List V->Hp->VK->Prop}
def xL(r:List V->Hp->VK->Prop)(t:TA):TE:=λZ H Q=>t Z H λvs H1=>r vs H1 Q
theorem C0(m:dD X (.builtin id) r)(k:Gl X x)(j:X.mg x=none)(g:bootBuiltins x=some (.builtin id))(n:PA X (e::es) t)(i:x ≠ "__name__" := by decide)(b:(x==("__debug__" : Str))=false:=by decide)
 (l:starEach (e::es) X.env=(false,eval e X.env)::starEach es X.env:=by rfl) (a:(backTo pos (starEach es X.env)).any (·.1)=false:=by rfl):PE X (.Call (.Name x p) (e::es) [] pos) (xL r t):=by
 intro G s Z H Q I h;refine WM (kq I k j g ?_ i b);exact PyProof.Rows.callWith_builtin1 (a7 (n pos G s Z H _ I h) λus c ⟨vs,H1,o,d,f⟩=>m G c Z H1 vs us Q o d f) l a
theorem Av(m:dD X (.type T) r)(k:Gl X x)(j:X.mg x=none)(g:bootBuiltins x=some (.type T))(n:PA X (e::es) t)(i:x ≠ "__name__" := by decide)(b:(x==("__debug__" : Str))=false:=by decide)
 (l:starEach (e::es) X.env=(false,eval e X.env)::starEach es X.env:=by rfl) (a:(backTo pos (starEach es X.env)).any (·.1)=false:=by rfl):PE X (.Call (.Name x p) (e::es) [] pos) (xL r t):=by
 intro G s Z H Q I h;refine WM (kq I k j g ?_ i b);exact WK (a7 (n pos G s Z H _ I h) λus c ⟨vs,H1,o,d,f⟩=>m G c Z H1 vs us Q o d f) l a
end
section
variable{W:Type}[DecidableEq W]
def cJ(kvs:List (W×V))(k:W):Option V:=(kvs.find? λa=>decide (a.1=k)).map (·.2)
def eC(kvs:List (W×V))(k:W)(v:V):List (W×V):=
 if (kvs.any λa=>decide (a.1=k))=true then kvs.map (λa=>if a.1=k then (a.1,v) else a) else kvs++[(k,v)]
def dZ(kvs:List (W×V))(k:W):List (W×V):=kvs.filter λa=>decide (a.1≠k)
theorem BC{k:W}:cJ ([]:List (W×V)) k=none:=rfl
theorem jx{p:W×V}{r:List (W×V)}{k:W}(e:p.1=k):cJ (p::r) k=some p.2:=by simp[cJ,Wv,e]
theorem jy{p:W×V}{r:List (W×V)}{k:W}(e:¬ p.1=k):cJ (p::r) k=cJ r k:=by simp[cJ,Wv,e]
theorem sX(k:W):∀kvs:List (W×V),(kvs.any λa=>decide (a.1=k))=(cJ kvs k).isSome
 |[]=>rfl
 | p::r=>by
   rw[W6];by_cases e:p.1=k
   ·simp only[jx e,Wu e,Bool.true_or,XN]
   ·rw[jy e,V6 e,Bool.false_or];exact sX k r
theorem lj(kvs:List (W×V))(k:W)(v:V):(eC kvs k v).length<=kvs.length+1:=by
 unfold eC;split
 ·rw[Vr];omega
 ·rw[Vw,Vx,List.length_nil];omega
theorem RelO.isSome_eq{o:Option V}{u:Option Value}(r:RelO o u):o.isSome=u.isSome:=by
 cases o with
 | none=>cases u with
   |none=>rfl
   |some _=>exact(show False from r).elim
 | some _=>cases u with
   |none=>exact(show False from r).elim
   |some _=>rfl
theorem RelO.getD{o:Option V}{u:Option Value}{d:V}{d':Value}(r:RelO o u)(rd:RelV d d'):RelV (o.getD d) (u.getD d'):=by
 cases o with
 | none=>cases u with
   |none=>exact rd
   |some _=>exact(show False from r).elim
 | some _=>cases u with
   |none=>exact(show False from r).elim
   |some _=>exact r
theorem KV.val{kvs:List (W×V)}{vs:List (W×Value)}(r:KV kvs vs)(k:W):RelO (cJ kvs k) (valueAt vs k):=by
 unfold KV at r
 induction r with
 |nil=>exact True.intro
 |@cons p q ps a h t f=>
   obtain⟨d,g⟩:=h;by_cases e:p.1=k
   · have c:q.1=k:=d.symm.trans e;have b:valueAt (q::a) k=some q.2:=by simp[valueAt,Wv,c]
     rw[jx e,b];exact g
   · have c:¬ q.1=k:=λz=>e (d.trans z);have b:valueAt (q::a) k=valueAt a k:=by simp[valueAt,Wv,c]
     rw[jy e,b];exact f
theorem KV.any{kvs:List (W×V)}{vs:List (W×Value)}(r:KV kvs vs)(k:W):(kvs.any λa=>decide (a.1=k))=vs.any λa=>decide (a.1=k):=by
 unfold KV at r
 induction r with
 |nil=>rfl
 |cons h t b=>rw[W6,W6,b,h.1]
theorem KV.repl{kvs:List (W×V)}{vs:List (W×Value)}(r:KV kvs vs)(k:W){y:V}{u:Value}(c:RelV y u):
 KV (kvs.map λa=>if a.1=k then (a.1,y) else a) (vs.map λa=>if a.1=k then (a.1,u) else a):=by
 unfold KV at r ⊢
 induction r with
 |nil=>exact .nil
 |@cons p q ps g h t d=>
   rw[Vq,Vq];refine .cons ?_ d;obtain⟨b,f⟩:=h;by_cases e:p.1=k
   ·rw[Vo e,Vo (b.symm.trans e)];exact⟨b,c⟩
   ·rw[on e,on (λz=>e (b.trans z))];exact⟨b,f⟩
theorem KV.put{kvs:List (W×V)}{vs:List (W×Value)}(r:KV kvs vs)(k:W){y:V}{u:Value}(a:RelV y u):KV (eC kvs k y) (stored vs k u):=by
 unfold eC stored;rw[r.any k];by_cases e:(vs.any λb=>decide (b.1=k))=true
 ·rw[Vo e,Vo e];exact r.repl k a
 ·rw[on e,on e];exact Paired.snoc r ⟨rfl,a⟩
theorem KV.drop{kvs:List (W×V)}{vs:List (W×Value)}(r:KV kvs vs)(k:W):KV (dZ kvs k) (without vs k):=by
 unfold KV at r ⊢;unfold dZ without
 induction r with
 |nil=>exact .nil
 |@cons p q ps i h t d=>
   obtain⟨c,f⟩:=h;rw[Ws,Ws];by_cases e:p.1=k
   · have a:¬ decide (p.1≠k)=true:=by simp[e]
     have b:¬ decide (q.1≠k)=true:=by simp[c.symm.trans e]
     rw[on a,on b];exact d
   · have g:¬ q.1=k:=λz=>e (c.trans z);have a:decide (p.1≠k)=true:=by simp[e]
     have b:decide (q.1≠k)=true:=by simp[g]
     rw[Vo a,Vo b];exact .cons ⟨c,f⟩ d
theorem KV.length{kvs:List (W×V)}{vs:List (W×Value)}(r:KV kvs vs):kvs.length=vs.length:=WV r
theorem m7(kvs:List (W×V))(k:W):(dZ kvs k).length<=kvs.length:=Xs _ _
end
theorem jI{P:Program}{w:World}{k:az}{u:Value}(r:RelV (kV k) u):(aq P w).is k u=true:=by
 cases k with
 |inl i=>obtain⟨t,e⟩:=(show ∃t,u=Value.int i t from r);subst e;exact tZ P w i t
 |inr x=>obtain⟨t,e⟩:=(show ∃t,u=Value.str x t from r);subst e;exact tY P w x t
theorem pW{P:Program}{w:World}:∀{a:List az} {us:List Value},Vals (a.map kV) us->ItemsAre (aq P w) a us
 |[],_,r=>by rw[Wq]at r;cases r;exact .nil
 | k::a,_,r=>by
   rw[Vq]at r;cases r with
   |cons h t=>exact .cons (jI h) (pW t)
abbrev KT(H:Hp):List (List az×V)->List (List az×Addr×Value)->Prop:=Paired λp q=>p.1=q.1/\H q.2.1=some (.tup (p.1.map kV))/\RelV p.2 q.2.2
theorem KT.val{H:Hp}{kvs:List (List az×V)}{xs:List (List az×Addr×Value)}(r:KT H kvs xs)(k:List az):RelO (cJ kvs k) ((atKey xs k).map (·.2)):=by
 induction r with
 |nil=>exact True.intro
 |@cons p q ps a h t f=>
   obtain⟨d,_,g⟩:=h;by_cases e:p.1=k
   · have c:q.1=k:=d.symm.trans e;have b:atKey (q::a) k=some q.2:=by simp[atKey,Wv,c]
     rw[jx e,b];exact g
   · have c:¬ q.1=k:=λz=>e (d.trans z);have b:atKey (q::a) k=atKey a k:=by simp[atKey,Wv,c]
     rw[jy e,b];exact f
theorem KT.repl{H:Hp}{kvs:List (List az×V)}{xs:List (List az×Addr×Value)}(r:KT H kvs xs)(k:List az){y:V}{u:Value}(d:RelV y u):
 KT H (kvs.map λb=>if b.1=k then (b.1,y) else b) (xs.map (putAt k u)):=by
 induction r with
 |nil=>exact .nil
 |@cons p q ps i h t f=>
   rw[List.map_cons,List.map_cons];refine .cons ?_ f;obtain⟨a,c,g⟩:=h;unfold putAt;by_cases e:p.1=k
   ·rw[Vo e,Vo (a.symm.trans e)];exact⟨a,c,d⟩
   ·rw[on e,on (λz=>e (a.trans z))];exact⟨a,c,g⟩
theorem KT.put{H:Hp}{kvs:List (List az×V)}{xs:List (List az×Addr×Value)}(r:KT H kvs xs)(k:List az){b:Addr}{y:V}{u:Value}(d:H b=some (.tup (k.map kV)))(a:RelV y u):
 KT H (eC kvs k y) (storedH xs k b u):=by
 have e:(kvs.any λc=>decide (c.1=k))=(atKey xs k).isSome:=by
  rw[sX,(r.val k).isSome_eq,XV]
 unfold eC storedH;rw[e];by_cases q:(atKey xs k).isSome=true
 ·rw[Vo q,Vo q];exact r.repl k a
 ·rw[on q,on q];exact Paired.snoc r ⟨rfl,d,a⟩
theorem KT.keeps{H H':Hp}{kvs:List (List az×V)}{xs:List (List az×Addr×Value)}(r:KT H kvs xs)(a:∀b ys,H b=some (.tup ys)->H' b=some (.tup ys)):KT H' kvs xs:=
 Paired.mapP r λ_ _ z=>⟨z.1,a _ _ z.2.1,z.2.2⟩
section
variable{P:Program}{w:World}{H:Hp}{h:Heap}{a:Addr}
theorem JV{u:HO}(ok:HOk P w H h)(e:Rd H a u):ObjOk P w H h a u:=e.ok ok
theorem jP{kvs:List (az×V)}(ok:HOk P w H h)(e:Rd H a (.dK kvs)):kvs.length<=sizeLine/\(a==sysModules)=false/\∃vs,KV kvs vs/\h.DictOf (aq P w) a vs:=
 show ObjOk P w H h a (.dK kvs) from JV ok e
theorem Fh{kvs:List (az×V)}(ok:HOk P w H h)(e:H a=some (.dK kvs)):kvs.length<=sizeLine/\(a==sysModules)=false/\∃vs,KV kvs vs/\h.DictOf (aq P w) a vs:=jP ok (.inl e)
theorem eJ{b:List az}(ok:HOk P w H h)(e:H a=some (.tup (b.map kV))):(tupleKind (aq P w)).is h b a:=by
 obtain⟨_,its,r,o,f,d,n,c⟩:=(show ObjOk P w H h a (.tup (b.map kV)) from ok a _ e);exact⟨o,its.toArray,n,f,d,c,by simpa using pW r⟩
theorem lx{kvs:List (List az×V)}(ok:HOk P w H h)(e:Rd H a (.dT kvs)):kvs.length<=sizeLine/\(a==sysModules)=false/\
 ∃xs,KT H kvs xs/\h.DictOfH (tupleKind (aq P w)) a xs:=by
 obtain⟨z,y,xs,r,o,n,ep,k,j,i,g,f⟩:=(show ObjOk P w H h a (.dT kvs) from JV ok e);refine⟨z,y,xs,r,o,n,ep,k,j,i,g,λx b=>?_,f⟩
 have all:∀{l:List (List az×V)} {m:List (List az×Addr×Value)},KT H l m->∀x∈m,(tupleKind (aq P w)).is h x.1 x.2.1:=by
  intro l m q
  induction q with
  |nil=>intro x b;exact nomatch b
  |@cons p q ps s c t d=>
    intro x b;rcases VA.mp b with e|b
    ·subst e;exact eJ ok (by rw[<-c.1];exact c.2.1)
    ·exact d x b
 exact all r x b
theorem Fc{kvs:List (List az×V)}(ok:HOk P w H h)(e:H a=some (.dT kvs)):kvs.length<=sizeLine/\(a==sysModules)=false/\
 ∃xs,KT H kvs xs/\h.DictOfH (tupleKind (aq P w)) a xs:=lx ok (.inl e)
end
def DGet(H:Hp)(a:Addr)(y:V)(r:Option V):Prop:=
 (∃kvs k,Rd H a (.dK kvs)/\y=kV k/\r=cJ kvs k)\/∃kvs k b,Rd H a (.dT kvs)/\y=.ref b/\H b=some (.tup (k.map kV))/\r=cJ kvs k
def DPut(H:Hp)(a:Addr)(y v:V)(H':Hp):Prop:=
 (∃kvs k,H a=some (.dK kvs)/\y=kV k/\kvs.length<sizeLine/\H'=upd H a (.dK (eC kvs k v)))\/
 ∃kvs k b,H a=some (.dT kvs)/\y=.ref b/\H b=some (.tup (k.map kV))/\kvs.length<sizeLine/\H'=upd H a (.dT (eC kvs k v))
theorem DGet.k{H:Hp}{a:Addr}{kvs:List (az×V)}{k:az}(e:H a=some (.dK kvs)):DGet H a (kV k) (cJ kvs k):=.inl ⟨kvs,k,.inl e,rfl,rfl⟩
theorem DPut.k{H:Hp}{a:Addr}{kvs:List (az×V)}{k:az}{v:V}(e:H a=some (.dK kvs))(b:kvs.length<sizeLine):DPut H a (kV k) v (upd H a (.dK (eC kvs k v))):=.inl ⟨kvs,k,e,rfl,b,rfl⟩
theorem DPut.t{H:Hp}{a b:Addr}{kvs:List (List az×V)}{k:List az}{v:V}(e:H a=some (.dT kvs))(d:H b=some (.tup (k.map kV)))(c:kvs.length<sizeLine):
 DPut H a (.ref b) v (upd H a (.dT (eC kvs k v))):=.inr ⟨kvs,k,b,e,rfl,d,c,rfl⟩
section
variable{X:Cx}{G:P4}{Z:St}{H:Hp}{s:Shared}{a:Addr}{y v:V}{u r:Value}{o:Option V}{A:Around}{E:T1}
theorem Inv.big(I:Inv X G Z H s):sysModules<s.heap.objs.size:=by
 have h:mainGlobals<s.heap.objs.size:=(I.mod.glob.keeps I.bk).lt;exact Nat.lt_trans (by decide) h
theorem A9{Q:T1}(r:A.units+1<cLine)(I:Inv X G Z H s)(g:DGet H a y (some v))(q:RelV y u)(h:∀f n,Inv X G Z H n->RelV v f->Q f n):
 wpAny (model X.prog X.w) A (getItem (.ref a) u) Q E s:=by
 rcases g with ⟨kvs,k,e,m,l⟩|⟨kvs,k,b,e,m,t,l⟩
 ·subst m;obtain⟨z,hd,vs,d,dd⟩:=jP I.hok e;obtain⟨f,i,c⟩:=RelO.some_of (v:=v) (o:=valueAt vs k) (by rw[l];exact d.val k);exact wpAny_getItem_of (jI q) dd.mapOf i (h f _ (I.tok _) c)
 ·subst m;cases(show u=Value.ref b from q);obtain⟨z,hd,xs,d,dd⟩:=lx I.hok e;obtain⟨f,i,c⟩:=RelO.some_of (v:=v) (o:=(atKey xs k).map (·.2)) (by rw[l];exact d.val k);obtain⟨p,hp,j⟩:=VJ.mp i;refine wpAny_getItem_heap (WN r) (eJ I.hok t) dd hp ?_;rw[j];exact h f _ (I.tok _) c
theorem Vd{Q:T1}(j:A.units+1<cLine)(I:Inv X G Z H s)(g:DGet H a y o)(i:RelV y u)(h:∀f,Inv X G Z H f->Q (.bool o.isSome) f):
 wpAny (model X.prog X.w) A (compareOp .In u (.ref a)) Q E s:=by
 rcases g with ⟨kvs,k,e,d,l⟩|⟨kvs,k,b,e,d,m,l⟩
 ·subst d;obtain⟨z,hd,vs,c,dd⟩:=jP I.hok e;refine wpAny_in_of (jI i) hd dd.mapOf ?_;rw[<-(c.val k).isSome_eq,<-l];exact h _ (I.tok _)
 ·subst d;cases(show u=Value.ref b from i);obtain⟨z,hd,xs,c,dd⟩:=lx I.hok e;refine wpAny_in_heap (WN j) (eJ I.hok m) hd dd ?_;have q:=(c.val k).isSome_eq;rw[XV]at q;rw[<-q,<-l];exact h _ (I.tok _)
theorem Jl{Q:T1}(j:A.units+1<cLine)(I:Inv X G Z H s)(g:DGet H a y o)(i:RelV y u)(h:∀f,Inv X G Z H f->Q (.bool (!o.isSome)) f):
 wpAny (model X.prog X.w) A (compareOp .NotIn u (.ref a)) Q E s:=by
 rcases g with ⟨kvs,k,e,d,l⟩|⟨kvs,k,b,e,d,m,l⟩
 ·subst d;obtain⟨z,hd,vs,c,dd⟩:=jP I.hok e;refine wpAny_notIn_of (jI i) hd dd.mapOf ?_;rw[<-(c.val k).isSome_eq,<-l];exact h _ (I.tok _)
 ·subst d;cases(show u=Value.ref b from i);obtain⟨z,hd,xs,c,dd⟩:=lx I.hok e;refine wpAny_notIn_heap (WN j) (eJ I.hok m) hd dd ?_;have q:=(c.val k).isSome_eq;rw[XV]at q;rw[<-q,<-l];exact h _ (I.tok _)
theorem jR{h':Heap}{t':Nat}{ob:HO}(I:Inv X G Z H s)(c:TZ (H a))(d:Heap.SameBut a s.heap h')(f:∃q,h'.get? a=some q)(new:ObjOk X.prog X.w (upd H a ob) h' a ob):
 Inv X G Z (upd H a ob) {s with heap:=h',toks:=t'}:=
 I.write (x:=a) (e:=a) c (.inl rfl) (λb q g z=>(d.2 b g).trans z) f new
theorem Fi{P:Program}{w:World}{H':Hp}{h':Heap}{kvs:List (az×V)}{vs:List (az×Value)}(z:kvs.length<=sizeLine)(hd:(a==sysModules)=false)(b:KV kvs vs)(dd:h'.DictOf (aq P w) a vs):
 ObjOk P w H' h' a (.dK kvs):=⟨z,hd,vs,b,dd⟩
theorem A8{H':Hp}{Q:Unit->Shared->Prop}(D:A.units+1<cLine)(I:Inv X G Z H s)(g:DPut H a y v H')(t:RelV y u)(x:RelV v r)(h:∀p,Inv X G Z H' p->Q () p):
 wpAny (model X.prog X.w) A (setItem (.ref a) u r) Q E s:=by
 rcases g with ⟨kvs,k,e,n,l,o⟩|⟨kvs,k,b,e,n,C,l,o⟩
 · subst n o;obtain⟨z,hd,vs,d,dd⟩:=Fh I.hok e;have hz:vs.length<=sizeLine:=by rw[<-d.length];exact z
   have m:(eC kvs k v).length<=sizeLine:=by have:=lj kvs k v;omega
   refine wpAny_setItem_pairs (hsz:=hz) (jI t) dd λh' f j=>h _ ?_;have F:∃q,h'.get? a=some q:=let ⟨q,_,_,i,_⟩:=f;⟨q,i⟩
   exact jR I (by rw[e];exact True.intro) j F (Fi m hd (d.put k x) f)
 · subst n o;cases(show u=Value.ref b from t);obtain⟨z,hd,xs,d,dd⟩:=Fc I.hok e;have hz:xs.length<=sizeLine:=by rw[<-WV d];exact z
   have m:(eC kvs k v).length<=sizeLine:=by have:=lj kvs k v;omega
   refine wpAny_setItem_heap (hsz:=hz) (WN D) (eJ I.hok C) dd λh' f j=>h _ ?_;obtain⟨q,N,ep,i,M,L,K,_,J⟩:=f;refine jR I (by rw[e];exact True.intro) j ⟨q,i⟩ ⟨m,hd,_,(d.put k C x).keeps λc ys B=>?_,q,N,ep,i,M,L,K,J⟩;rw[am (Dv B e (λz=>nomatch z))];exact B
end
section
variable{X:Cx}{G:P4}{Z:St}{H:Hp}{s:Shared}{a:Addr}{kvs:List (az×V)}{k:az}{u:Value}{A:Around}{E:T1}
theorem SX{v:V}{more:List Value}{Q:T1}(I:Inv X G Z H s)(e:H a=some (.dK kvs))(f:RelV (kV k) u)(l:cJ kvs k=some v)(m:more=[]\/∃x,more=[x])
 (h:∀c j,Inv X G Z (upd H a (.dK (dZ kvs k))) j->RelV v c->Q c j):wpAny (model X.prog X.w) A (call (.builtin "dict.pop") (.ref a::u::more)) Q E s:=by
 obtain⟨z,hd,vs,b,dd⟩:=Fh I.hok e;obtain⟨c,n,g⟩:=RelO.some_of (v:=v) (o:=valueAt vs k) (by rw[<-l];exact b.val k)
 have hp:(keyPart u).isSome=true:=by
  cases k with
  |inl i=>obtain⟨t,q⟩:=(show ∃t,u=Value.int i t from f);subst q;rfl
  |inr x=>obtain⟨t,q⟩:=(show ∃t,u=Value.str x t from f);subst q;rfl
 have B:argsOk "dict.pop" ⟨.ref a::u::more,[]⟩:=by
  rcases m with q|⟨x,q⟩
  ·subst q;exact PySem.F.args_dict_pop_2 _ _
  ·subst q;exact Yc _ _ _
 refine Xc WO dd.typeIs Yl B (meets_dict_pop_there (aq X.prog X.w) a (jI f) more m hp)
  ⟨vs,c,dd,by rw[<-b.length];exact z,n,λh' d p=>h c _ ?_ g⟩
 have y:∃q,h'.get? a=some q:=let ⟨q,_,_,r,_⟩:=d;⟨q,r⟩
 exact jR I (by rw[e];exact True.intro) p y (Fi (VT (m7 kvs k) z) hd (b.drop k) d)
theorem OS{r:Value}{Q:T1}(I:Inv X G Z H s)(e:H a=some (.dK kvs))(b:RelV (kV k) u)(l:cJ kvs k=none)(h:∀d,Inv X G Z H d->Q r d):
 wpAny (model X.prog X.w) A (call (.builtin "dict.pop") [.ref a,u,r]) Q E s:=by
 obtain⟨z,hd,vs,c,dd⟩:=Fh I.hok e;have f:valueAt vs k=none:=RelO.none_of (by rw[<-l];exact c.val k)
 have hp:(keyPart u).isSome=true:=by
  cases k with
  |inl i=>obtain⟨t,q⟩:=(show ∃t,u=Value.int i t from b);subst q;rfl
  |inr x=>obtain⟨t,q⟩:=(show ∃t,u=Value.str x t from b);subst q;rfl
 exact Xc WO dd.typeIs Yl (Yc _ _ _) (meets_dict_pop_default (aq X.prog X.w) a (jI b) hd hp r) ⟨vs,dd,f,h _ (I.tok _)⟩
end
def TY(i:Expr):Prop:=∀ov a,subscripted i false ov a=operate [ov,a] (getItem ov a)
theorem GV{prog:Program}{w:World}{A:Around}{E:T1}{s:Shared}{env:Env}{b a:Expr}{pos:Pos}{T id:String}{Q:T1}
 (n:typeLookup (.type T) "__getitem__" = pure (some (.builtin id))) (m:TY a)
 (h:wpAny (model prog w) A (eval b env) (λo f=>wpAny (model prog w) A (eval a env) (λi c=>c.TypeIs o T/\wpAny (model prog w) A (getItem o i) Q E c) E f) E s):
 wpAny (model prog w) A (eval (.Subscript b a pos) env) Q E s:=by
 refine Subscript_ (wpAny_mono h (λo f k=>wpAny_mono k (λi c d=>?_) λ_ _ x=>x) λ_ _ x=>x);obtain⟨l,d⟩:=d;unfold subscriptTail;refine wpAny_bind ?_;rw[getitemInPython_of_ne l.not_modules];refine wpAny_bind (wpAny_specialOf l n ?_)
 have g:wpAny (model prog w) A (subscripted a false o i) (λr e=>wpAny (model prog w) A (letTemporaryGo b o r >>= λ_=>pure r) Q E e) E c:=by
  rw[m o i];exact wpAny_operating (Xw d (λr e j=>Vp (wpAny_letTemporaryGo (Vz j))) λ_ _ x=>x)
 first
  |exact Vz (Vp g)
  |exact Vp (Vz (Vp g))
  |exact Vp g
theorem uv{X:Cx}{G:P4}{Z:St}{H:Hp}{s:Shared}{a:Addr}{y:V}{o:Option V}(I:Inv X G Z H s)(g:DGet H a y o):s.TypeIs (.ref a) "dict" := by
 rcases g with ⟨kvs,k,e,_,_⟩|⟨kvs,k,b,e,_,_,_⟩
 ·obtain⟨_,_,vs,_,dd⟩:=jP I.hok e;exact dd.typeIs
 ·obtain⟨_,_,xs,_,dd⟩:=lx I.hok e;exact dd.typeIs
def BK(c ty:TE):TE:=λZ H Q=>c Z H λx H1=>ty Z H1 λy b=>∃a v,x=.ref a/\DGet b a y (some v)/\Q v b
def LL(ty c:TE):TE:=λZ H Q=>ty Z H λy H1=>c Z H1 λx b=>∃a o,x=.ref a/\DGet b a y o/\Q (.bl o.isSome) b
def qy(ty c:TE):TE:=λZ H Q=>ty Z H λy H1=>c Z H1 λx b=>∃a o,x=.ref a/\DGet b a y o/\Q (.bl (!o.isSome)) b
def BY(d ty c:TE):TS:=λD Z H=>c Z H λv H1=>d Z H1 λx f=>ty Z f λy e=>∃a b,x=.ref a/\DPut e a y v b/\D.nx Z b
section
variable{X:Cx}{o i e value:Expr}{pos pos' tpos:Pos}{td ty tv:TE}
theorem HP(l:X.A.units+1<cLine)(n:PE X o td)(hi:PE X i ty)(m:TY i):PE X (.Subscript o i pos) (BK td ty):=by
 intro G s Z H Q I h;refine GV PySem.F.slot_dict_getitem.lookup m (a7 (n G s Z H _ I h) λu d ⟨x,H1,q,f,k⟩=>a7 (hi G d Z H1 _ q k) λB z ⟨y,r,c,e,a,v,ex,g,j⟩=>?_);subst ex;obtain rfl:u=Value.ref a:=f;exact⟨uv c g,A9 l c g e λt w p b=>⟨v,r,p,b,j⟩⟩
theorem MO(j:X.A.units+1<cLine)(hi:PE X i ty)(k:PE X o td):PC X .In i o (LL ty td):=by
 intro G s Z H Q I h;refine a7 (hi G s Z H _ I h) λt b ⟨y,H1,n,c,f⟩=>a7 (k G b Z H1 _ n f) λu r ⟨x,p,m,d,a,ov,ex,g,e⟩=>?_;subst ex;obtain rfl:u=Value.ref a:=d;exact Vd j m g c λq l=>⟨.bl ov.isSome,p,l,rfl,e⟩
theorem Ax(j:X.A.units+1<cLine)(hi:PE X i ty)(k:PE X o td):PC X .NotIn i o (qy ty td):=by
 intro G s Z H Q I h;refine a7 (hi G s Z H _ I h) λt b ⟨y,H1,n,c,f⟩=>a7 (k G b Z H1 _ n f) λu r ⟨x,p,m,d,a,ov,ex,g,e⟩=>?_;subst ex;obtain rfl:u=Value.ref a:=d;exact Jl j m g c λq l=>⟨.bl (!ov.isSome),p,l,rfl,e⟩
theorem Hz(n:X.A.units+1<cLine)(q:PE X o td)(hi:PE X i ty)(m:PE X value tv)(p:swapsWith value (some (.Subscript o i pos')) pos.line X.env=pure false):
 PS X (.Assign [.Subscript o i pos'] value pos) (BY td ty tv):=by
 intro G s Z H D I h;refine wpAny_Assign_Subscript (a7 (m G s Z H _ I h) λr c ⟨v,H1,B,f,l⟩=>a7 (q G c Z H1 _ B l) λu b ⟨x,E,z,e,k⟩=>a7 (hi G b Z E _ z k) λK J ⟨y,L,w,d,a,C,ex,g,j⟩=>?_) p;subst ex;obtain rfl:u=Value.ref a:=e;exact A8 n w g d f λF t=>⟨Z,C,t,j⟩
end
theorem Fj{P:Program}{w:World}{H:Hp}(h:Heap)(a:sysModules<h.objs.size):ObjOk P w H (h.push {cls:=.type "dict",data:=.dict #[]}) h.objs.size (.dK []):=
 ⟨Wr _,V5.mpr (WZ (VY a)),[],.nil,Heap.DictOf.new h⟩
theorem Fd{P:Program}{w:World}{H:Hp}(h:Heap)(a:sysModules<h.objs.size):ObjOk P w H (h.push {cls:=.type "dict",data:=.dict #[]}) h.objs.size (.dT []):=
 ⟨Wr _,V5.mpr (WZ (VY a)),[],.nil,_,#[],0,VO _ rfl,⟨rfl,rfl,rfl⟩,rfl,rfl,Wg⟩
def vU:TE:=λ_ H Q=>∀p,H p=none->Q (.ref p) (upd H p (.dK []))
def vT:TE:=λ_ H Q=>∀p,H p=none->Q (.ref p) (upd H p (.dT []))
section
variable{X:Cx}{pos:Pos}
theorem CV:PE X (.Dict [] [] pos) vU:=λG s Z H Q I h=>
 wpAny_Dict_empty ⟨.ref s.heap.objs.size,_,I.laid (a:=s.heap.objs.size) (o:=.dK []) (t':=s.toks) (λ_ _ q=>Vv _ q) (VG _) (Fj s.heap I.big),rfl,h _ (I.hok.fresh (VG _))⟩
theorem CU:PE X (.Dict [] [] pos) vT:=λG s Z H Q I h=>
 wpAny_Dict_empty ⟨.ref s.heap.objs.size,_,I.laid (a:=s.heap.objs.size) (o:=.dT []) (t':=s.toks) (λ_ _ q=>Vv _ q) (VG _) (Fd s.heap I.big),rfl,h _ (I.hok.fresh (VG _))⟩
end
structure M1 (X:Cx) (o:Expr) (m:Str) (apos:Pos) (e:Expr) (cpos:Pos):Prop where
 base:attributeBase o m X.env (eval o X.env)=eval o X.env
 few:((backTo cpos (starEach [e] X.env)).all (λx=>!x.1)&&(backToKw cpos (keywordEach [] X.env)).all (λx=>x.1.isSome)
  && decide (([e]:List Expr).length+([]:List Keyword).length+(if ([]:List Keyword).isEmpty then 0 else 1)<30))=true
 line:(apos.endLine==cpos.line)=true
 trees:backTo cpos (starEach [e] X.env)=[(false,eval e X.env)]
structure M2 (X:Cx) (o:Expr) (m:Str) (apos:Pos) (e f:Expr) (cpos:Pos):Prop where
 base:attributeBase o m X.env (eval o X.env)=eval o X.env
 few:((backTo cpos (starEach [e,f] X.env)).all (λx=>!x.1)&&(backToKw cpos (keywordEach [] X.env)).all (λx=>x.1.isSome)
  && decide (([e,f]:List Expr).length+([]:List Keyword).length+(if ([]:List Keyword).isEmpty then 0 else 1)<30))=true
 line:(apos.endLine==cpos.line)=true
 trees:backTo cpos (starEach [e,f] X.env)=[(false,eval e X.env),(false,eval f X.env)]
def LC(H:Hp)(a:Addr):Prop:=(∃kvs,Rd H a (.dK kvs))\/∃kvs,Rd H a (.dT kvs)
theorem kB{X:Cx}{G:P4}{Z:St}{H:Hp}{s:Shared}{a:Addr}(I:Inv X G Z H s)(d:LC H a):
 s.TypeIs (.ref a) "dict" /\ (∀b,Value.ref a=.ref b->∃ob,s.heap.get? b=some ob/\ob.dict=none)/\(a==sysModules)=false:=by
 rcases d with ⟨kvs,e⟩|⟨kvs,e⟩
 ·obtain⟨_,hd,vs,_,dd⟩:=jP I.hok e;refine⟨dd.typeIs,λb q=>?_,hd⟩;cases q;obtain⟨ob,_,_,f,c,_⟩:=dd;exact⟨ob,f,c.2.1⟩
 ·obtain⟨_,hd,xs,_,dd⟩:=lx I.hok e;refine⟨dd.typeIs,λb q=>?_,hd⟩;cases q;obtain⟨ob,_,_,f,c,_⟩:=dd;exact⟨ob,f,c.2.1⟩
section
variable{X:Cx}{G:P4}{Z:St}{H:Hp}{s:Shared}{a:Addr}{y d:V}{u r:Value}{o:Option V}{A:Around}{E:T1}
theorem OU{Q:T1}(m:A.units+1<cLine)(I:Inv X G Z H s)(g:DGet H a y o)(j:RelV y u)(h:∀f i,Inv X G Z H i->RelV (o.getD .non) f->Q f i):
 wpAny (model X.prog X.w) A (call (.builtin "dict.get") [.ref a,u]) Q E s:=by
 rcases g with ⟨kvs,k,e,d,l⟩|⟨kvs,k,b,e,d,n,l⟩
 ·subst d;obtain⟨z,hd,vs,c,dd⟩:=jP I.hok e;refine Xc Wy dd.typeIs W1 (Yd _ _) (meets_dict_get (aq X.prog X.w) a (jI j) hd) ⟨_,dd.mapOf,h _ _ (I.tok _) ?_⟩;rw[l];exact(c.val k).getD rfl
 ·subst d;cases(show u=Value.ref b from j);obtain⟨z,hd,xs,c,dd⟩:=lx I.hok e;refine Xc Wy dd.typeIs W1 (Yd _ _) (meetsH_dict_get (tupleKind (aq X.prog X.w)) a b hd) ⟨WN m,k,xs,eJ I.hok n,dd,h _ _ (I.tok _) ?_⟩;rw[l];exact(c.val k).getD rfl
theorem OT{Q:T1}(n:A.units+1<cLine)(I:Inv X G Z H s)(g:DGet H a y o)(m:RelV y u)(rd:RelV d r)(h:∀i j,Inv X G Z H j->RelV (o.getD d) i->Q i j):
 wpAny (model X.prog X.w) A (call (.builtin "dict.get") [.ref a,u,r]) Q E s:=by
 rcases g with ⟨kvs,k,e,f,l⟩|⟨kvs,k,b,e,f,p,l⟩
 ·subst f;obtain⟨z,hd,vs,c,dd⟩:=jP I.hok e;refine Xc Wy dd.typeIs W1 (Ye _ _ _) (meets_dict_get_default (aq X.prog X.w) a (jI m) hd r) ⟨_,dd.mapOf,h _ _ (I.tok _) ?_⟩;rw[l];exact(c.val k).getD rd
 ·subst f;cases(show u=Value.ref b from m);obtain⟨z,hd,xs,c,dd⟩:=lx I.hok e;refine Xc Wy dd.typeIs W1 (Ye _ _ _) (meetsH_dict_get_default (tupleKind (aq X.prog X.w)) a b hd r) ⟨WN n,k,xs,eJ I.hok p,dd,h _ _ (I.tok _) ?_⟩;rw[l];exact(c.val k).getD rd
end
def vW(c ty:TE):TE:=λZ H Q=>c Z H λx H1=>∃a,x=.ref a/\LC H1 a/\ty Z H1 λy b=>∃o,DGet b a y o/\Q (o.getD .non) b
def vV(d ty c:TE):TE:=λZ H Q=>d Z H λx H1=>∃a,x=.ref a/\LC H1 a/\ty Z H1 λy e=>c Z e λz b=>∃o,DGet b a y o/\Q (o.getD z) b
def vS(d ty c:TE):TE:=λZ H Q=>d Z H λx H1=>∃a,x=.ref a/\LC H1 a/\ty Z H1 λy e=>c Z e λz b=>∃kvs k,b a=some (.dK kvs)/\y=kV k/\
 (∀v,cJ kvs k=some v->Q v (upd b a (.dK (dZ kvs k))))/\(cJ kvs k=none->Q z b)
section
variable{X:Cx}{o e f:Expr}{apos cpos:Pos}{td ty tx:TE}
theorem CY(q:X.A.units+1<cLine)(r:PE X o td)(t:PE X e ty)(m:M1 X o "get" apos e cpos):PE X (.Call (.Attribute o "get" apos) [e] [] cpos) (vW td ty):=by
 intro G s Z H Q I h;refine W9 m.base m.few m.line Wm Wy Yv (a7 (r G s Z H _ I h) λu j ⟨x,H1,c,l,a,ex,d,p⟩=>?_);subst ex;obtain rfl:u=Value.ref a:=l;obtain⟨i,f,_⟩:=kB c d;refine⟨i,f,?_⟩;rw[m.trees];refine We rfl (WC (Wd (a7 (t G j Z H1 _ c p) λE D ⟨y,z,w,k,ov,g,n⟩=>WE ?_)));exact OU q w g k λB C v b=>⟨_,z,v,b,n⟩
theorem CW(w:X.A.units+1<cLine)(B:PE X o td)(D:PE X e ty)(C:PE X f tx)(m:M2 X o "get" apos e f cpos):PE X (.Call (.Attribute o "get" apos) [e,f] [] cpos) (vV td ty tx):=by
 intro G s Z H Q I h;refine W9 m.base m.few m.line Wm Wy Yv (a7 (B G s Z H _ I h) λu l ⟨x,H1,c,q,a,ex,d,v⟩=>?_);subst ex;obtain rfl:u=Value.ref a:=q;obtain⟨j,i,_⟩:=kB c d;refine⟨j,i,?_⟩;rw[m.trees]
 refine We rfl (WC (Wd (a7 (D G l Z H1 _ c v) λP k ⟨y,L,J,p,t⟩=>
  Wd (a7 (C G k Z L _ J t) λR O ⟨z,K,F,n,ov,g,r⟩=>WE ?_))))
 exact OT w F g p n λM N E b=>⟨_,K,E,b,r⟩
theorem CT(J:PE X o td)(L:PE X e ty)(K:PE X f tx)(m:M2 X o "pop" apos e f cpos):PE X (.Call (.Attribute o "pop" apos) [e,f] [] cpos) (vS td ty tx):=by
 intro G s Z H Q I h;refine W9 m.base m.few m.line Wm WO Xu (a7 (J G s Z H _ I h) λu w ⟨x,H1,n,B,a,ex,d,F⟩=>?_);subst ex;obtain rfl:u=Value.ref a:=B;obtain⟨q,p,_⟩:=kB n d;refine⟨q,p,?_⟩;rw[m.trees]
 refine We rfl (WC (Wd (a7 (L G w Z H1 _ n F) λU t ⟨y,R,O,g,E⟩=>
  Wd (a7 (K G t Z R _ O E) λM T ⟨z,P,j,A,kvs,k,i,N,D,C⟩=>WE ?_))))
 subst N;cases l:cJ kvs k with
 |some v=>exact SX j i g l (.inr ⟨M,rfl⟩) λS r c b=>⟨v,_,c,b,D v l⟩
 |none=>exact OS j i g l λr c=>⟨z,P,c,A,C l⟩
end
end L2
namespace HT
open PySem PyProof.Rows
def jG:List Int->List Int->Bool
 |[],[]=>false
 |[],_::_=>true
 |_::_,[]=>false
 |x::xs,y::ys=>if x=y then jG xs ys else decide (x<y)
theorem mG(x y:Int)(xs ys:List Int):jG (x::xs) (y::ys)=if x=y then jG xs ys else decide (x<y):=rfl
theorem Cw(A:Around)(s:Shared)(a:Int)(t:Tok)(c:Int)(u:Tok)(prog:Program)(w:World)(E:T1)(Q:T1)(h:Q (.bool (decide (a<c))) s):
 wpAny (model prog w) A (richCompare .Lt (.int a t) (.int c u)) Q E s:=
 (PyProof.Rows.lt_int h:wpAny (model prog w) A (compareOp .Lt (.int a t) (.int c u)) Q E s)
section
variable{prog:Program}{w:World}{A:Around}{E:T1}{s:Shared}
def tF(n d:Nat):Option Int->Nat
 |none=>d
 |some v=>if v<0 then (v+(n:Int)).toNat else min v.toNat n
theorem BW(n d:Nat):tF n d none=d:=rfl
end
end HT
namespace L2
open PySem PySem.Spec PyProof.Rows
abbrev TO:=St->Hp->(Option Int->Hp->Prop)->Prop
def PO(X:Cx)(e:Option Expr)(t:TO):Prop:=
 ∀(G:P4) (s:Shared) (Z:St) (H:Hp) (Q:Option Int->Hp->Prop),Inv X G Z H s->t Z H Q->
  wpAny (model X.prog X.w) X.A (evalPart e X.env) (λu a=>∃o H',Inv X G Z H' a/\IsPart u o/\Q o H') X.xe s
def xK:TO:=λ_ H Q=>Q none H
def JM(t:TE):TO:=λZ H Q=>t Z H λx H1=>∃i,x=.int i/\Q (some i) H1
theorem wK{ns:List Int}:∀{us:List Value},Vals (ns.map V.int) us->IntsAre us ns:=by
 induction ns with
 |nil=>intro us r;rw[Wq]at r;cases r;exact .nil
 |cons n ns c=>
   intro us r;rw[Vq]at r;cases r with
   |cons b a=>
     obtain⟨t,e⟩:=b;subst e;exact .cons n t (c a)
section
variable{X:Cx}{e:Expr}{te:TE}{lo hi:Option Expr}{tl th:TO}{pos p2:Pos}
theorem HB:PO X none xK:=by
 intro G s Z H Q I h;rw[evalPart_none];exact Vz ⟨none,H,I,.none,h⟩
theorem HA(h:PE X e te):PO X (some e) (JM te):=by
 intro G s Z H Q I c;rw[evalPart_some];refine a7 (h G s Z H _ I c) λu f ⟨x,H1,d,a,b⟩=>?_;obtain⟨i,rfl,q⟩:=b;obtain⟨t,rfl⟩:=a;exact⟨some i,H1,d,.int i t,q⟩
def Ur(X:Cx)(r:V->Option Int->Option Int->Hp->VK->Prop):Prop:=
 ∀(G:P4) (s:Shared) (Z:St) (H:Hp) (x:V) (v b a:Value) (lo hi:Option Int) (c:Addr) (Q:VK),Inv X G Z H s->RelV x v->s.heap.IsSliceOf c b a .none->IsPart b lo->IsPart a hi->r x lo hi H Q->
  ∃T id,typeLookup (.type T) "__getitem__" = pure (some (.builtin id))/\s.TypeIs v T/\wpAny (model X.prog X.w) X.A (getItem v (.ref c)) (EP X G Z Q) X.xe s
def Uy(r:V->Option Int->Option Int->Hp->VK->Prop)(te:TE)(tl th:TO):TE:=λZ H Q=>te Z H λx H1=>tl Z H1 λl b=>th Z b λu a=>r x l u a Q
theorem CN{r:V->Option Int->Option Int->Hp->VK->Prop}(y:Ur X r)(C:PE X e te)(z:PO X lo tl)(p:PO X hi th):PE X (.Subscript e (.Slice lo hi none p2) pos) (Uy r te tl th):=by
 intro G s Z H Q I h;refine Subscript_ (a7 (C G s Z H _ I h) λv i ⟨x,H1,K,j,n⟩=>?_);refine wpAny_Slice (a7 (z G i Z H1 _ K n) λd g ⟨l,L,J,pl,m⟩=>a7 (p G g Z L _ J m) λc a ⟨u,f,F,o,k⟩=>?_);rw[evalPart_none];refine wpAny_pure ?_;have E:Inv X G Z f {a with heap:=a.heap.push {cls:=.type "slice",data:=.fields #[d,c,.none]}}:=F.kept (t':=a.toks) λb ob q=>Heap.get?_push_of_some _ q;obtain⟨T,id,D,t,B⟩:=y G {a with heap:=a.heap.push {cls:=.type "slice",data:=.fields #[d,c,.none]}} Z f x v d c l u a.heap.objs.size Q E j (Heap.IsSliceOf.new ..) pl o k;show wpAny (model X.prog X.w) X.A (subscriptTail e (.Slice lo hi none p2) v (.ref a.heap.objs.size)) (EP X G Z Q) X.xe {a with heap:=a.heap.push {cls:=.type "slice",data:=.fields #[d,c,.none]}};exact tail_any (ops:=[.ref a.heap.objs.size,v]) t D B (by with_unfolding_all rfl)
def Ba(xs:List V)(lo hi:Option Int):List V:=(xs.drop (HT.tF xs.length 0 lo)).take (HT.tF xs.length xs.length hi-HT.tF xs.length 0 lo)
theorem uC(xs:List V)(lo hi:Option Int):(Ba xs lo hi).length<=xs.length:=by
 unfold Ba;rw[List.length_take,List.length_drop];omega
end
def mN(n:Nat)(i:Int):Option Nat:=if 0<=i then (if i<n then some i.toNat else none) else if -(n:Int)<=i then some (i+n).toNat else none
def j8{W:Type}(xs:List W)(i:Int):Option W:=(mN xs.length i).bind λj=>xs[j]?
theorem re{n:Nat}{i:Int}{j:Nat}(h:mN n i=some j):seqIndex? i n=some j/\j<n/\-(n:Int)<=i/\i<n:=by
 unfold mN at h;by_cases h0:0<=i
 · rw[Vo h0]at h;by_cases a:i<n
   ·rw[Vo a]at h;have e:i.toNat=j:=VQ h;exact⟨by rw[seqIndex_of h0 a,e],by omega,by omega,a⟩
   ·rw[on a]at h;cases h
 · rw[on h0]at h;by_cases a:-(n:Int)<=i
   ·rw[Vo a]at h;have e:(i+n).toNat=j:=VQ h;exact⟨by rw[seqIndex_neg (by omega) a,e],by omega,a,by omega⟩
   ·rw[on a]at h;cases h
theorem zN{W:Type}{xs:List W}{i:Int}{v:W}(h:j8 xs i=some v):∃j,seqIndex? i xs.length=some j/\xs[j]?=some v/\j<xs.length/\-(xs.length:Int)<=i/\i<xs.length:=by
 unfold j8 at h;cases e:mN xs.length i with
 |none=>rw[e]at h;cases h
 |some j=>
   rw[e]at h;obtain⟨d,c,b,a⟩:=re e;exact⟨j,d,h,c,b,a⟩
theorem vz{W:Type}(xs:List W)(v:W):j8 (xs++[v]) (-1)=some v:=by
 have a:(xs++[v]).length=xs.length+1:=by simp
 have e:mN (xs++[v]).length (-1)=some xs.length:=by
  unfold mN;rw[a,if_neg (by decide),if_pos (by omega)];congr 1;omega
 unfold j8;rw[e];show(xs++[v])[xs.length]?=some v;simp
def JA(b:Expr):Prop:=∀o i,subscripted b false o i=operate [o,i] (getItem o i)
def Qp(X:Cx)(r:R2):Prop:=
 ∀(b a:Expr) (G:P4) (s:Shared) (Z:St) (H:Hp) (x y:V) (v u:Value) (Q:VK),Inv X G Z H s->RelV x v->RelV y u->r x y H Q->
  subscripted a false v u=operate [v,u] (getItem v u)->wpAny (model X.prog X.w) X.A (subscriptTail b a v u) (EP X G Z Q) X.xe s
def Vj(X:Cx)(id:String)(r:V->List V->Hp->VK->Prop):Prop:=
 ∀(G:P4) (s:Shared) (Z:St) (H:Hp) (x:V) (xs:List V) (v:Value) (us:List Value) (Q:VK),Inv X G Z H s->RelV x v->Vals xs us->r x xs H Q->
  wpAny (model X.prog X.w) X.A (call (.builtin id) (v::us)) (EP X G Z Q) X.xe s
section
variable{X:Cx}{a b:Expr}{ta tb:TE}{pos:Pos}
theorem Rb{r:R2}(g:Qp X r)(j:PE X a ta)(i:PE X b tb)(f:JA b):PE X (.Subscript a b pos) (sQ r ta tb):=by
 intro G s Z H Q I h;exact Subscript_ (PD j i I h λv u c x y l k e d q=>g a b G c Z l x y v u Q k e d q (f _ _))
def Hl(K:F0):R2:=λx y H Q=>∃p xs i v,x=.ref p/\y=.int i/\SqL K H p xs/\j8 xs i=some v/\Q v H
def CA(K:F0):R2:=λx y H Q=>∃p xs i v,x=.ref p/\y=.int i/\SqT K H p xs/\j8 xs i=some v/\Q v H
theorem IY:Qp X (Hl X.K):=by
 intro c d G s Z H x y v u Q I n m h g;obtain⟨p,xs,i,z,rfl,rfl,o,B,q⟩:=h;cases n;obtain⟨t,rfl⟩:=m;obtain⟨its,r,pl,hz⟩:=I.list o;obtain⟨j,b,E,J,D,C⟩:=zN B;obtain⟨w,k,e⟩:=r.get E;have A:=r.length;have F:=qY;have a:EP X G Z Q w s:=⟨z,H,I,e,q⟩;by_cases h0:0<=i
 · have f:i.toNat=j:=by
    rw[seqIndex_of h0 C]at b;exact VQ b
   exact item_listR pl.isList h0 (by omega) (by rw[f];simpa using k) a g
 · have f:(i+(its.toArray.size:Int)).toNat=j:=by
    rw[seqIndex_neg (by omega) D]at b;rw[VE,<-A];exact VQ b
   exact subscriptTail_builtinR (x:=w) pl.isList.typeIs slot_list_getitem.lookup
    (wpAny_getItem_list_neg (Q:=λr l=>r=w/\EP X G Z Q r l) pl.isList (by omega) (by rw[VE]<;>omega) (by omega) (by rw[f];simpa using k) ⟨rfl,a⟩) g
theorem OE:Qp X (CA X.K):=by
 intro a b G s Z H x y v u Q I g f h k;obtain⟨p,xs,i,z,rfl,rfl,l,n,q⟩:=h;cases g;obtain⟨t,rfl⟩:=f;obtain⟨its,r,pl,hz⟩:=I.tuple l;obtain⟨j,A,o,F,E,D⟩:=zN n;obtain⟨w,B,c⟩:=r.get o;have m:=r.length;have C:=qY;have d:EP X G Z Q w s:=⟨z,H,I,c,q⟩
 exact subscriptTail_builtinR (x:=w) pl.typeIs slot_tuple_getitem.lookup
  (getItem_tuple (j:=j) (Q:=λr e=>r=w/\EP X G Z Q r e) pl (by omega) (by omega) (by rw[VE,<-m];exact A) (by simpa using B) ⟨rfl,d⟩) k
theorem wD(its:List Value)(n j:Nat)(u:Value):Obj.mapSeq (·.setIfInBounds j u) {cls:=.type "list",data:=.seq its.toArray n}={cls:=.type "list",data:=.seq (its.set j u).toArray n}:=by
 simp[Obj.mapSeq]
theorem Inv.lst{G:P4}{Z:St}{H:Hp}{s:Shared}{p:Addr}{xs:List V}(I:Inv X G Z H s)(h:H p=some (.lst xs)):
 ∃(its:List Value) (n:Nat),Vals xs its/\s.heap.get? p=some {cls:=.type "list",data:=.seq its.toArray n}/\xs.length<=sizeLine:=by
 obtain⟨z,its,n,r,e⟩:=I.hok p _ h;exact⟨its,n,r,e,z⟩
theorem Inv.lstUpd{G:P4}{Z:St}{H:Hp}{s:Shared}{p:Addr}{xs ys:List V}{its its':List Value}{n a:Nat}{f:Obj->Obj}(I:Inv X G Z H s)(h:H p=some (.lst xs))
 (d:s.heap.get? p=some {cls:=.type "list",data:=.seq its.toArray n}) (c:f {cls:=.type "list",data:=.seq its.toArray n}={cls:=.type "list",data:=.seq its'.toArray a}) (r:Vals ys its') (hz:ys.length<=sizeLine) (t:Nat):
 Inv X G Z (upd H p (.lst ys)) {s with heap:=s.heap.update p f,toks:=t}:=by
 have e:(s.heap.update p f).get? p=some {cls:=.type "list",data:=.seq its'.toArray a}:=by
  rw[V4 f d (by rw[c]<;>rfl),c]
 refine I.write (x:=p) (e:=p) (by rw[h];trivial) (.inl rfl) (λb u g q=>(V0 _ _ (WZ g)).trans q) ⟨_,e⟩ ?_;exact⟨hz,its',a,r,e⟩
def JW:V->V->V->Hp->(Hp->Prop)->Prop:=λo i v H Q=>∃p xs k j,o=.ref p/\i=.int k/\H p=some (.lst xs)/\mN xs.length k=some j/\Q (upd H p (.lst (xs.set j v)))
theorem BU:TW X JW:=by
 intro G s Z H o i v ov y u Q I m w l h;obtain⟨p,xs,k,j,rfl,rfl,hp,x,q⟩:=h;cases m;obtain⟨t,rfl⟩:=w;obtain⟨its,n,r,b,hz⟩:=I.lst hp;obtain⟨a,A,f,e⟩:=re x;have c:=r.length;have z:=qY
 have g:Inv X G Z (upd H p (.lst (xs.set j v))) {s with heap:=s.heap.update p (Obj.mapSeq (·.setIfInBounds j u))}:=
  I.lstUpd hp b (wD its n j u) (r.set l j) (by rw[VS];exact hz) s.toks
 by_cases h0:0<=k
 · have d:k.toNat=j:=by
    rw[seqIndex_of h0 e]at a;exact VQ a
   exact PySem.W.ki_setAt b h0 (by omega) (by rw[VE,<-c];exact e) (by rw[d];exact⟨_,g,q⟩)
 · have d:(k+(its.toArray.size:Int)).toNat=j:=by
    rw[seqIndex_neg (by omega) f]at a;rw[VE,<-c];exact VQ a
   exact PySem.W.ki_setBack b (by omega) (by rw[VE,<-c];exact f) (by omega) (by rw[d];exact⟨_,g,q⟩)
theorem qA(lo hi:Option Int)(n:Nat):(sliceBounds lo hi none n).1=((HT.tF n 0 lo:Nat):Int)/\(sliceBounds lo hi none n).2.1=((HT.tF n n hi:Nat):Int)/\(sliceBounds lo hi none n).2.2=1:=by
 refine⟨?_,?_,rfl⟩
 · cases lo with
   |none=>simp[sliceBounds,HT.tF]
   |some i=>
     simp only[sliceBounds,HT.tF,Option.getD_none,show(1:Int)>0 by decide,XW];by_cases h:i<0
     ·simp only[h,XW]<;>omega
     ·simp only[h,Yg]<;>omega
 · cases hi with
   |none=>simp[sliceBounds,HT.tF]
   |some i=>
     simp only[sliceBounds,HT.tF,Option.getD_none,show(1:Int)>0 by decide,XW];by_cases h:i<0
     ·simp only[h,XW]<;>omega
     ·simp only[h,Yg]<;>omega
theorem oU(its:List Value)(lo hi:Option Int):slicePick its.toArray lo hi none=((its.drop (HT.tF its.length 0 lo)).take (HT.tF its.length its.length hi-HT.tF its.length 0 lo)).toArray:=by
 obtain⟨c,b,a⟩:=qA lo hi its.toArray.size;unfold slicePick;rw[c,b,a];simp only[sliceRange_one,pick_run,List.size_toArray]<;>rfl
def L8(K:F0):V->Option Int->Option Int->Hp->VK->Prop:=λx lo hi H Q=>∃a xs,x=.ref a/\SqL K H a xs/\∀p,H p=none->Q (.ref p) (upd H p (.lst (Ba xs lo hi)))
theorem Hc:Ur X (L8 X.K):=by
 intro G s Z H x v k j lo hi l Q I e i pl f h;obtain⟨a,xs,rfl,g,q⟩:=h;cases e;obtain⟨its,r,d,hz⟩:=I.list g;have c:=r.length;refine⟨"list",_,slot_list_getitem.lookup,d.isList.typeIs,?_⟩;refine wpAny_getItem_list_slice d.isList i pl f .none (by simp) ?_ (by rw[VE]<;>omega);rw[oU,<-c];refine⟨.ref s.heap.objs.size,_,I.laid (t':=s.toks) (o:=.lst (Ba xs lo hi)) (λb ob q=>Vv _ q) (VG _) ?_,rfl,q _ (I.hok.fresh (VG _))⟩;exact⟨VT (uC xs lo hi) hz,_,0,(r.drop (HT.tF xs.length 0 lo)).take (HT.tF xs.length xs.length hi-HT.tF xs.length 0 lo),VO _ rfl⟩
theorem sK:dD X (.builtin "len") (λxs H Q=>∃p ys,xs=[.ref p]/\(SqL X.K H p ys\/SqT X.K H p ys)/\Q (.int ys.length) H):=by
 intro G s Z H xs us Q I r h;obtain⟨p,ys,rfl,b,q⟩:=h;obtain⟨u,rfl,d⟩:=BA r;cases d;have e:=qY;rcases b with b|b
 ·obtain⟨its,c,pl,hz⟩:=I.list b;have a:=c.length;exact Calls.call_len_list pl.isList (by simp only[VE]<;>omega) ⟨.int ys.length,H,I.tok _,⟨s.toks+1,by rw[VE,a]⟩,q⟩
 ·obtain⟨its,c,pl,hz⟩:=I.tuple b;have a:=c.length;exact len_tuple pl (by simp only[VE]<;>omega) ⟨.int ys.length,H,I.tok _,⟨s.toks+1,by rw[VE,a]⟩,q⟩
theorem sJ:dD X (.type "list") (λxs H Q=>∃p ys,xs=[.ref p]/\(SqL X.K H p ys\/SqT X.K H p ys)/\∀l,H l=none->Q (.ref l) (upd H l (.lst ys))):=by
 intro G s Z H xs us Q I r h;obtain⟨p,ys,rfl,d,q⟩:=h;obtain⟨u,rfl,k⟩:=BA r;cases k
 have g:∀(its:List Value),Vals ys its->ys.length<=sizeLine->∀(h':Heap) (c:Nat),(∀b o',s.heap.get? b=some o'->h'.get? b=some o')->
  h'.get? s.heap.objs.size=some {cls:=.type "list",dict:=none,data:=.seq its.toArray c,slots:=#[]}->EP X G Z Q (.ref s.heap.objs.size) {s with heap:=h'}:=λits a hz h' c kp e=>
  ⟨.ref s.heap.objs.size,_,I.laid (t':=s.toks) kp (VG _) (show ObjOk X.prog X.w _ h' _ (.lst ys) from⟨hz,its,c,a,e⟩),rfl,q _ (I.hok.fresh (VG _))⟩
 rcases d with d|d
 ·obtain⟨its,a,pl,hz⟩:=I.list d;have f:=a.length;obtain⟨o,i,j,n,hd⟩:=pl.isList;exact call_list_seq p (.inl rfl) i j hd (λh' c kp e=>g its a hz h' c kp e) (by simp only[VE]<;>omega)
 ·obtain⟨its,a,pl,hz⟩:=I.tuple d;have f:=a.length;obtain⟨o,i,j,n,hd⟩:=pl;exact call_list_seq p (.inr rfl) i j hd (λh' c kp e=>g its a hz h' c kp e) (by simp only[VE]<;>omega)
theorem o4:dD X (.type "tuple") (λxs H Q=>∃p ys,xs=[.ref p]/\((SqL X.K H p ys/\∀l,H l=none->Q (.ref l) (upd H l (.tup ys)))\/(SqT X.K H p ys/\Q (.ref p) H))):=by
 intro G s Z H xs us Q I r h;obtain⟨p,ys,rfl,h⟩:=h;obtain⟨u,rfl,g⟩:=BA r;cases g;rcases h with ⟨c,q⟩|⟨c,q⟩
 · obtain⟨its,a,pl,hz⟩:=I.list c;have d:=a.length;refine call_tuple_list pl.isList (λh' kp=>?_) (by simp only[VE]<;>omega);have f:Inv X G Z H {s with heap:=h'}:=I.kept (t':=s.toks) kp
   have i:Inv X G Z (upd H h'.objs.size (.tup ys)) {s with heap:=h'.push {cls:=.type "tuple",data:=.seq its.toArray}}:=
    f.laid (t':=s.toks) (λb o e=>Vv _ e) (VG _) (show ObjOk X.prog X.w _ _ _ (.tup ys) from⟨hz,its,a,IsTup.new _ _⟩)
   exact⟨.ref h'.objs.size,_,i,rfl,q _ (f.hok.fresh (VG _))⟩
 ·obtain⟨its,a,pl,hz⟩:=I.tuple c;exact call_tuple_same pl ⟨.ref p,H,I,rfl,q⟩
def Uu(K:F0)(T:String)(x:V)(H:Hp):Prop:=match x with
 |.str _=>T = "str"
 |.int _=>T = "int"
 | .ref p=>(T = "list" /\ ∃xs,SqL K H p xs)\/(T = "tuple" /\ ∃o,K.lookup p=some o/\o.cls=.type "tuple" /\ o.dict=none)\/
    (T = "dict" /\ ((∃kvs,H p=some (.dK kvs))\/∃kvs,H p=some (.dT kvs)))\/(T = "set" /\ ∃S n,H p=some (.set S n))
 |_=>False
theorem BD{G:P4}{Z:St}{H:Hp}{s:Shared}{T:String}{x:V}{v:Value}(I:Inv X G Z H s)(r:RelV x v)(ty:Uu X.K T x H):
 s.TypeIs v T/\∀a,v=.ref a->∃ob,s.heap.get? a=some ob/\ob.dict=none:=by
 cases x with
 |str z=>
   obtain⟨t,rfl⟩:=r;cases(show T = "str" from ty);exact⟨typeIs_str s z t,λ_ e=>nomatch e⟩
 |int i=>
   obtain⟨t,rfl⟩:=r;cases(show T = "int" from ty);exact⟨typeIs_int s i t,λ_ e=>nomatch e⟩
 |ref p=>
   cases r;rcases ty with ⟨rfl,xs,f⟩|⟨rfl,o,b,g,hd⟩|⟨rfl,b⟩|⟨rfl,S,n,b⟩
   ·obtain⟨its,_,pl,_⟩:=I.list f;refine⟨pl.isList.typeIs,λa e=>?_⟩;cases e;obtain⟨o,n,e,c,hd,_⟩:=pl;exact⟨o,e,hd⟩
   ·refine⟨⟨o,I.kIn p o b,g⟩,λa e=>?_⟩;cases e;exact⟨o,I.kIn _ o b,hd⟩
   · have z:∃o,s.heap.get? p=some o/\o.ExactDict:=by
      rcases b with ⟨kvs,b⟩|⟨kvs,b⟩
      ·obtain⟨_,_,_,_,o,_,_,e,ex,_⟩:=I.hok p _ b;exact⟨o,e,ex⟩
      ·obtain⟨_,_,_,_,o,_,_,e,ex,_⟩:=I.hok p _ b;exact⟨o,e,ex⟩
     obtain⟨o,e,ex⟩:=z;refine⟨⟨o,e,ex.1⟩,λa d=>?_⟩;cases d;exact⟨o,e,ex.2.1⟩
   ·obtain⟨o,_,_,_,e,ex,_⟩:=I.hok p _ b;refine⟨⟨o,e,ex.1⟩,λa d=>?_⟩;cases d;exact⟨o,e,ex.2.1⟩
 |_=>exact False.elim ty
def BL(K:F0)(T:String)(r:V->List V->Hp->VK->Prop)(to:TE):TE:=λZ H Q=>to Z H λx H1=>Uu K T x H1/\r x [] H1 Q
def Ab(K:F0)(T:String)(r:V->List V->Hp->VK->Prop)(to:TE)(t:TA):TE:=λZ H Q=>to Z H λx H1=>Uu K T x H1/\t Z H1 λxs a=>r x xs a Q
variable{o e:Expr}{es:List Expr}{to:TE}{t:TA}{name:Str}{apos cpos:Pos}{T id:String}{r:V->List V->Hp->VK->Prop}
theorem MK(i:PlainAttrs T)(slot:Slot T name id)(c:typeOf (.builtin id)=pure (.type "method_descriptor"))(k:Vj X id r)(j:PE X o to)
 (b:attributeBase o name X.env (eval o X.env)=eval o X.env:=by rfl) (a:(apos.endLine==cpos.line)=true:=by rfl):PE X (.Call (.Attribute o name apos) [] [] cpos) (BL X.K T r to):=by
 intro G s Z H Q I h;refine wpAny_Call_method0_late b a (a7 (j G s Z H _ I h) λv f ⟨x,H1,e,d,ty,g⟩=>?_);obtain⟨m,l⟩:=BD e d ty;exact⟨T,id,i,slot,c,m,l,We rfl (PySem.evalArgs_none (k G f Z H1 x [] v [] Q e d .nil g))⟩
theorem Re(q:PlainAttrs T)(slot:Slot T name id)(f:typeOf (.builtin id)=pure (.type "method_descriptor"))(y:Vj X id r)(w:PE X o to)(z:PA X (e::es) t)
 (c:attributeBase o name X.env (eval o X.env)=eval o X.env:=by rfl)
 (d:((backTo cpos (starEach (e::es) X.env)).all (λx=>!x.1)&&(backToKw cpos (keywordEach [] X.env)).all (λx=>x.1.isSome)
   && decide ((e::es).length+([]:List Keyword).length+(if ([]:List Keyword).isEmpty then 0 else 1)<30))=true:=by rfl)
 (b:(apos.endLine==cpos.line)=true:=by rfl) (u:starEach (e::es) X.env=(false,eval e X.env)::starEach es X.env:=by rfl) (a:(backTo cpos (starEach es X.env)).any (·.1)=false:=by rfl):
 PE X (.Call (.Attribute o name apos) (e::es) [] cpos) (Ab X.K T r to t):=by
 intro G s Z H Q I h;refine wpAny_Call_method_late c d b rfl (a7 (w G s Z H _ I h) λv l ⟨x,H1,j,g,ty,p⟩=>?_);obtain⟨B,A⟩:=BD j g ty;refine⟨T,id,q,slot,f,B,A,?_⟩;have i:=z cpos G l Z H1 _ j p;rw[u]at i ⊢;refine We (by show(false||(backTo cpos (starEach es X.env)).any (·.1))=false;rw[a]<;>rfl) (WC ?_);exact a7 i λus k ⟨vs,D,C,m,n⟩=>y G k Z D x vs v us Q C g m n
end
def Us(X:Cx)(id:String)(r:V->List V->Hp->VK->Prop):Prop:=
 ∀(G:P4) (s:Shared) (Z:St) (H:Hp) (x:V) (xs:List V) (v:Value) (us:List Value) (Q:VK),Inv X G Z H s->RelV x v->Vals xs us->r x xs H Q->
  wpAny (model X.prog X.w) X.A (call (.builtin id) (v::us)) (EP X G Z Q) X.xe s
theorem Vals.one:∀{x:V} {us:List Value},Vals [x] us->∃u,us=[u]/\RelV x u
 |_,_,.cons r .nil=>⟨_,rfl,r⟩
theorem Vals.zero:∀{us:List Value},Vals [] us->us=[]
 |_,.nil=>rfl
theorem Vals.eraseIdx:∀{xs:List V} {us:List Value} (i:Nat),Vals xs us->Vals (xs.eraseIdx i) (us.eraseIdx i)
 |_,_,_,.nil=>.nil
 |_,_,0,.cons _ t=>t
 |_,_,i+1,.cons r t=>.cons r (Vals.eraseIdx i t)
theorem Vals.rep{xs:List V}{us:List Value}(h:Vals xs us):∀k:Nat,Vals (List.replicate k xs).flatten (List.replicate k us).flatten
 |0=>.nil
 | k+1=>by
   rw[V8,V8,Wp,Wp];exact Vals.append h (Vals.rep h k)
theorem kn{W:Type}:∀(l:List W) (i:Nat),(l.eraseIdx i).length<=l.length
 |[],_=>VG _
 |_::_,0=>Nat.le_succ _
 |_::r,i+1=>Nat.succ_le_succ (kn r i)
theorem pZ(its:List Value):∀(k:Nat) (acc:List Value),
 List.foldl (λb a=>b++a) acc.toArray (List.replicate k its.toArray)=(acc++(List.replicate k its).flatten).toArray
 |0,acc=>by simp
 | k+1,acc=>by
   have e:acc.toArray++its.toArray=(acc++its).toArray:=by simp
   have c:(acc++its)++(List.replicate k its).flatten=acc++(List.replicate (k+1) its).flatten:=by
    rw[V8,Wp,Wk]
   rw[<-c,<-pZ its k (acc++its),<-e,V8,Xj]
section
variable{X:Cx}{G:P4}{Z:St}{H:Hp}{s:Shared}{l b:Addr}{xs ys zs:List V}
theorem Inv.lset{its its':List Value}{n:Nat}{f:Array Value->Array Value}{t':Nat}(I:Inv X G Z H s)(g:H l=some (.lst xs))
 (e:s.heap.get? l=some {cls:=.type "list",data:=.seq its.toArray n}) (c:f its.toArray=its'.toArray) (a:Vals ys its') (hz:ys.length<=sizeLine):
 Inv X G Z (upd H l (.lst ys)) {s with heap:=s.heap.update l (Obj.mapSeq f),toks:=t'}:=by
 have q:=PySem.IsL.update e f;rw[c]at q;refine I.write (x:=l) (e:=l) (by rw[g];exact trivial) (.inl rfl) (λh u d b=>(V0 s.heap (Obj.mapSeq f) (WZ d)).trans b) ⟨_,q⟩ ?_;exact⟨hz,its',_,a,q⟩
theorem Inv.lnew{its:List Value}{t':Nat}(I:Inv X G Z H s)(a:Vals ys its)(hz:ys.length<=sizeLine):
 Inv X G Z (upd H s.heap.objs.size (.lst ys)) {s with heap:=s.heap.push {cls:=.type "list",data:=.seq its.toArray},toks:=t'}:=
 I.laid (λ_ _ q=>Vv _ q) (VG _) ⟨hz,its,0,a,VO _ rfl⟩
theorem Inv.fresh(I:Inv X G Z H s):H s.heap.objs.size=none:=I.hok.fresh (VG _)
theorem Inv.lstM(I:Inv X G Z H s)(a:H l=some (.lst xs)):xs.length<=sizeLine/\∃(its:List Value) (n:Nat),Vals xs its/\xs.length=its.length/\s.heap.get? l=some {cls:=.type "list",data:=.seq its.toArray n}:=by
 obtain⟨z,its,n,r,e⟩:=I.hok l _ a;exact⟨z,its,n,r,r.length,e⟩
theorem Dq{n:Nat}(h:n<=sizeLine):Builtin.List.listTooLong n=false:=by
 unfold Builtin.List.listTooLong;exact decide_eq_false (by omega)
end
section
variable{X:Cx}
def fe:V->List V->Hp->VK->Prop:=λx vs H Q=>∃l xs y,x=.ref l/\vs=[y]/\H l=some (.lst xs)/\xs.length<sizeLine/\Q .non (upd H l (.lst (xs++[y])))
theorem pG:Us X "list.append" fe:=by
 intro G s Z H x vs v us Q I b c h;obtain⟨l,xs,y,rfl,rfl,a,hz,q⟩:=h;cases b;obtain⟨u,rfl,d⟩:=c.one;obtain⟨z,its,n,r,f,e⟩:=I.lstM a;refine XO F.slot_list_append ⟨_,e,rfl⟩ F.entry_list_append (F.args_list_append_2 _ _) (PySem.list_append l its.toArray n u (by rw[VE];omega)) ⟨e,?_⟩;refine⟨.non,_,I.lset (its':=its++[u]) a e (by simp) (r.append (.cons d .nil)) ?_,rfl,q⟩;rw[Vw,Wz];omega
def Cy:V->List V->Hp->VK->Prop:=λx vs H Q=>∃l xs i k y,x=.ref l/\vs=[.int i]/\H l=some (.lst xs)/\-(2 ^ 63)<=i/\i<2 ^ 63/\seqIndex? i xs.length=some k/\xs[k]?=some y/\Q y (upd H l (.lst (xs.eraseIdx k)))
theorem Dy:Us X "list.pop" Cy:=by
 intro G s Z H x vs v us Q I c d h;obtain⟨l,xs,i,k,y,rfl,rfl,b,A,p,o,g,q⟩:=h;cases c;obtain⟨u,rfl,f⟩:=d.one;obtain⟨t,rfl⟩:=f;obtain⟨z,its,n,r,m,e⟩:=I.lstM b;obtain⟨w,j,a⟩:=r.get g
 refine XO F.slot_list_pop ⟨_,e,rfl⟩ F.entry_list_pop (F.args_list_pop_2 _ _)
  (MeetsSeq.list_pop_at l its.toArray n i t k w (fitsIndex_both A p) (by rw[VE,<-m];exact o) (by rw[<-W7];exact j) (by rw[VE];omega)) ⟨e,?_⟩
 refine⟨y,_,I.lset (its':=its.eraseIdx k) b e ?_ (r.eraseIdx k) ?_,a,q⟩
 ·show its.toArray.eraseIdxIfInBounds k=(its.eraseIdx k).toArray;rw[Ww]
 · have:=kn xs k
   omega
def qG:V->List V->Hp->VK->Prop:=λx vs H Q=>∃l xs,x=.ref l/\vs=[]/\H l=some (.lst xs)/\Q .non (upd H l (.lst []))
theorem Dz:Us X "list.clear" qG:=by
 intro G s Z H x vs v us Q I c d h;obtain⟨l,xs,rfl,rfl,b,q⟩:=h;cases c;have a:=d.zero;subst a;obtain⟨z,its,n,r,f,e⟩:=I.lstM b;refine XO F.slot_list_clear ⟨_,e,rfl⟩ F.entry_list_clear (F.args_list_clear_1 _) (AutoSeq1.list_clear_list_0 l its.toArray n (by rw[VE];omega)) ⟨e,?_⟩;exact⟨.non,_,I.lset (its':=[]) (ys:=[]) b e rfl .nil (Wr _),rfl,q⟩
def L9:R2:=λx y H Q=>∃l b xs a,x=.ref l/\y=.ref b/\H l=some (.lst xs)/\H b=some (.lst a)/\xs.length+a.length<=sizeLine/\∀p,H p=none->Q (.ref p) (upd H p (.lst (xs++a)))
theorem Nh:jv X (binaryOp .Add) L9:=by
 intro G s Z H x y v u Q I d c h;obtain⟨l,b,xs,o,rfl,rfl,i,j,hz,q⟩:=h;cases d;cases c;obtain⟨z,its,n,r,w,e⟩:=I.lstM i;obtain⟨p,a,t,f,g,m⟩:=I.lstM j;refine PySem.P.add_list e m ?_ (by rw[VE,VE];omega);have k:its.toArray++a.toArray=(its++a).toArray:=by simp
 rw[k];exact⟨.ref _,_,I.lnew (t':=s.toks) (r.append f) (by rw[Vw];omega),rfl,q _ I.fresh⟩
def Q0:R2:=λx y H Q=>∃l k xs,x=.ref l/\y=.int k/\H l=some (.lst xs)/\-(2 ^ 63)<=k/\k<2 ^ 63/\xs.length*k.toNat<=sizeLine/\
 ∀p,H p=none->Q (.ref p) (upd H p (.lst (List.replicate k.toNat xs).flatten))
theorem IV{W:Type}(xs:List W)(k:Nat):(List.replicate k xs).flatten.length=k*xs.length:=by
 induction k with
 |zero=>simp
 |succ k a=>rw[V8,Wp,Vw,a,Nat.succ_mul,Nat.add_comm]
theorem M9:jv X (binaryOp .Mult) Q0:=by
 intro G s Z H x y v u Q I w p h;obtain⟨l,k,xs,rfl,rfl,B,D,C,hz,q⟩:=h;cases w;obtain⟨t,rfl⟩:=p;obtain⟨z,its,n,r,A,e⟩:=I.lstM B;have d:its.toArray.size*k.toNat<=sizeLine:=by rw[VE,<-A];exact hz
 have g:¬ its.toArray.size*k.toNat>(2 ^ 63-1) / 8:=by
  have:(sizeLine:Nat)<=(2 ^ 63-1) / 8:=by decide
  omega
 have f:¬ (!Builtin.List.listFitsIndex k)=true:=by
  rw[fitsIndex_both D C];exact VC
 have b:¬ Builtin.List.listTooLong (its.toArray.size*k.toNat)=true:=by
  rw[Dq d];exact VC
 have c:List.foldl (λj i=>j++i) #[] (List.replicate (if its.toArray.isEmpty=true then 0 else k.toNat) its.toArray)=(List.replicate k.toNat its).flatten.toArray:=by
  have E:∀m:Nat,List.foldl (λj i=>j++i) #[] (List.replicate m its.toArray)=(List.replicate m its).flatten.toArray:=λm=>by
   have:=pZ its m []
   rw[List.nil_append]at this;exact this
  rw[E];cases its with
  |nil=>simp
  |cons a J=>rw[on (by simp)]
 refine wpAny_binaryOp_repeat_ref (T := "list") (U := "int") (by decide) ⟨_,e,rfl⟩ (λo=>typeIs_int o k t) noFill_list_mul F.fills_int_mul F.slot_int_rmul repeat_list F.slot_int_index.lookup
  (XO F.slot_int_rmul (typeIs_int s k t) F.entry_int_rmul (F.args_int_rmul_2 _ _) (int___rmul___int_list k t l its.toArray n)
    ⟨e,rfl,⟨_,e,rfl⟩,XO F.slot_list_mul ⟨_,e,rfl⟩ F.entry_list_mul (F.args_list_mul_2 _ _) (AutoListH.list___mul___list_int_3 l its.toArray n k t f g b) ⟨e,?_⟩⟩)
 rw[c];exact⟨.ref _,_,I.lnew (t':=s.toks) (r.rep k.toNat) (by rw[IV,Nat.mul_comm];exact hz),rfl,q _ I.fresh⟩
end
end L2
namespace Att
open PySem PySem.W PySem.Calls PyProof.Rows
theorem lP{P:Params}{h:Heap}:∀(ns:List Int) (vs:List Value),WellAll P h vs (ns.map WData.int)->IntsAre vs ns:=by
 intro ns
 induction ns with
 |nil=>
   intro vs w;rw[Wq]at w;cases w;exact .nil
 |cons n ns c=>
   intro vs w;rw[Vq]at w;cases w with
   |cons a b=>
     cases a;exact .cons _ _ (c _ b)
theorem Aj{l:OpenLaw}{n:Nat}(u:l.most=some n){P:Params}{h:Heap}{args:List WData}{b:List Value}
 (c:l.row.toRowW.claim.pre args=true) (j:WellAll P h b args):
 ∃a vs ns,b=[Value.ref a]/\args=[WData.list (ns.map WData.int)]/\h.get? a=some {cls:=.type "list",data:=.seq vs.toArray}/\IntsAre vs ns/\ns.length<=n:=by
 have k:WShape.hasAll [] args [.list .int]=true:=(pre_splitW c).1;have m:l.pre.holds [] {args:=args}=true:=(pre_splitW c).2;obtain⟨d,r,rfl,x,w⟩:=hasAllW_cons k;obtain rfl:=hasAllW_nil w;obtain⟨xs,rfl,v⟩:=hasW_list x;obtain⟨ns,rfl⟩:=items_int v
 have e:ns.length<=n:=by
  unfold OpenLaw.pre at m
  have i:(WTm.not (.lt (.lit (.int (n:Int))) (.len (.arg 0)))).holds [] {args:=[.list (ns.map .int)]}=true:=by
   have i:=(holds_andW m).1;rw[u]at i;exact i
  have g:=condW_of i (w_not (w_lt w_lit (w_len_list (w_arg rfl))));rw[Vr]at g;refine Nat.le_of_not_lt λq=>?_;have s:(n:Int)<((ns.length:Nat):Int):=by omega
  first
   |(rw[Wu s]at g;exact absurd g (by decide))
   |(simp at g;omega)
 cases j with
 |cons p o=>
   cases o;cases p with
   |list t f=>exact⟨_,_,ns,rfl,rfl,t,lP ns _ f,e⟩
theorem Ao(l:OpenLaw)(args:List WData):l.row.toRowW.claim.post args (.bool true) args=true:=
 postW_of (r:=l.row.toRowW) (X:=(true==true))
  (show WShape.has [] (.bool true) .bool=true by first | rfl | decide | simp[WShape.has,WShape.arms,WShape.armsAll])
  (show(WTm.eq .res (.lit (.bool true))).value [] {args:=args,res:=some (.bool true),after:=args}=some (.bool (true==true)) from w_eq_bool (w_res rfl) w_lit) rfl
theorem vw{l:OpenLaw}{n:Nat}{q:Program}{loose:List Str}{XP:(Str->Option Value)->Heap->Prop}{A:World->Heap->Prop}{d:DefRec}
 (E:l.most=some n) (u:d.params.defaults=[])
 (call:∀(w:World) (s₀ b:Shared) (mg p:Str->Option Value) (j:Addr) (o:Obj) (pm m e:Value) (a:Addr) (vs:List Value) (ns:List Int),
   Ground q loose [] XP w s₀ mg p b.heap->A w b.heap->
   b.heap.get? j=some o->o.data=.func (docDef d.name d.params d.body d.scope pm m e)->b.heap.CodeRec m d.name->mg d.name=some (.ref j)->
   b.heap.get? a=some {cls:=.type "list",data:=.seq vs.toArray}->IntsAre vs ns->ns.length<=n->b.gens=#[]->
   codeAny (model l.prog w) callerA (.call (.ref j) ⟨[.ref a],[]⟩) (λr k=>r=.ok (.ret (.bool true))/\OldK b.heap k.heap/\k.os=b.os/\AllBare k.gens) b):
 WalkO q loose XP A l.row.toRowW d [] (λf vs=>PySem.call f vs):=by
 intro w s₀ b mg p G Y j o pm m e M kV D hd v z t I args x N g y B s H;obtain rfl:M=.none:=Dflts.none z u;obtain rfl:kV=.none:=Dflts.noKw z;obtain⟨a,vs,ns,rfl,rfl,h,c,i⟩:=Aj E g s;refine enter_call (Yj (call w s₀ b mg p j o pm m e a vs ns G Y D (fd_plain hd) v t h c i I) λr k C=>?_);obtain⟨rfl,L,K,J⟩:=C;exact⟨.inl ⟨.bool true,.bool true,[],rfl,λ_=>rfl,.bool true,Ao l _,λ_=>⟨List.Pairwise.nil,λ_ F=>(nomatch F)⟩⟩,L,K,J⟩
end Att
namespace L2
open PySem PySem.Spec PyProof.Rows
theorem o8:∀{vs:List Value} {ns:List Int},IntsAre vs ns->Vals (ns.map V.int) vs
 |_,_,.nil=>.nil
 |_,_,.cons n t h=>.cons ⟨t,rfl⟩ (o8 h)
abbrev Tbs:=List (Addr×Pos×Str)
def Tbs.at(T:Tbs)(b:Addr):List (Pos×Str):=(T.filter λp=>p.1==b).map (·.2)
def Tbs.ok(T:Tbs):Prop:=∀y∈T,∀z∈T,y.2.1.line=z.2.1.line->y.2.1.col=z.2.1.col->y.2.2=z.2.2
theorem Tbs.mem{T:Tbs}{b:Addr}{y:Pos×Str}:y∈T.at b↔(b,y)∈T:=by
 unfold Tbs.at;simp only[List.mem_map,List.mem_filter,beq_iff_eq];constructor
 ·rintro⟨⟨c,x⟩,⟨e,d⟩,a⟩;dsimp only at d a;subst d a;exact e
 ·intro h;exact⟨(b,y),⟨h,rfl⟩,rfl⟩
def Go(T:Tbs)(H:Hp):Prop:=(∀p∈T,H p.1=some (.tbl (T.at p.1)))/\∀b,H b=none\/(∃o xs,H b=some (.frz o (.lst xs)))\/H b=some (.tbl (T.at b))
theorem EN{P:Program}{w:World}{K:F0}{mg mb:Str->Option Value}{CX:Bx}{k:Nat}{fa a:Addr}{fd:FuncData}{x:Str}{sp:Sp}{f:Shared}{vs:List Value}{ns:List Int}{T:Tbs}
 (KX:K.In f.heap) (hns:f.heap.Ns mainGlobals mg) (i:f.heap.Ns builtinsNs mb) (hbb:∀x:Str,x ≠ "__name__" -> mb x=bootBuiltins x) (hlim:f.heap.NoLimit) (hg:f.gens=#[])
 (hbm:∃G ob,mg "__builtins__" = some (.ref G)/\G≠builtinsNs/\f.heap.get? G=some ob/\ob.cls=.type "module" /\ ob.dict=some builtinsNs/\ob.data=.plain)
 (hT:∀p∈T,∃c,PySem.W.CodeHd f.heap c p.1/\f.heap.get? p.1=some (PySem.W.tabObj #[])) (hTK:∀p∈T,K.lookup p.1=none) (hTo:T.ok)
 (Q:f.heap.get? a=some {cls:=.type "list",data:=.seq vs.toArray}) (hi:IntsAre vs ns) (hl:ns.length<=sizeLine) (hr:Room k callerA)
 (F:∀base:Heap,K.In base->base.Ns mainGlobals mg->(∀c P,PySem.W.CodeHd f.heap c P->PySem.W.CodeHd base c P)->FnOk P w K mg base CX k fa fd [x] sp) (M:∀(s:Shared) (u:Value),BindsTo s fd ⟨[u],[]⟩ [(x,u)])
 (hsp:∀H:Hp,Go T H->SqL K H a (ns.map V.int)->sp [.ref a] H (λv _=>v=.bl true) λ_ _ _=>False)
 (hCX:∀H e A,CX [] H f (λ_ _ _=>False) e A->False):
 codeAny (model P w) callerA (.call (.ref fa) ⟨[.ref a],[]⟩) (λr A=>r=.ok (.ret (.bool true))/\OldK f.heap A.heap/\A.os=f.os/\AllBare A.gens) f:=by
 have rv:=o8 hi;have Z:=hi.length
 -- from an R heap in which Y but the D and the tables may be S
 have core:∀H:Hp,Go T H->SqL K H a (ns.map V.int)->HOk P w H f.heap->(∀b,H b≠none->b=a\/∃p∈T,p.1=b)->(H a≠none->K.lookup a=none)->
  codeAny (model P w) callerA (.call (.ref fa) ⟨[.ref a],[]⟩) (λr A=>r=.ok (.ret (.bool true))/\OldK f.heap A.heap/\A.os=f.os/\AllBare A.gens) f:=by
  intro H hO hS hok hA hK;have g:∀{b:Addr} {o:Obj},f.heap.get? b=some o->H b=none->(mP f.heap H).get? b=some o:=λe n=>E1 e n
  have noB:∀{b:Addr} {o:Obj},f.heap.get? b=some o->o≠{cls:=.type "list",data:=.seq vs.toArray}->o≠PySem.W.tabObj #[]->H b=none:=λ{b o} e J d2=>by
   cases q:H b with
   |none=>rfl
   |some u=>
     rcases hA b (by rw[q];simp) with j | ⟨p,hp,j⟩
     ·subst j;rw[Q]at e;exact absurd (VQ e).symm J
     ·subst j;obtain⟨_,_,e2⟩:=hT p hp;rw[e2]at e;exact absurd (VQ e).symm d2
  have noA:∀{b:Addr} {o:Obj} {es:Array DictEntry} {ep:Nat},f.heap.get? b=some o->o.data=.dict es ep->H b=none:=λ{b o es ep} e d=>
   noB e (λz=>by rw[z]at d;cases d) (λz=>by rw[z]at d;cases d)
  have E:∀{b:Addr} {m:Str->Option Value},f.heap.Ns b m->(mP f.heap H).Ns b m:=λ{b m} ⟨o,es,ep,e,d,r⟩=>⟨o,es,ep,g e (noA e d),d,r⟩
  have hKb:K.In (mP f.heap H):=λb o e=>g (KX b o e) (by
   cases q:H b with
   |none=>rfl
   |some u=>
     rcases hA b (by rw[q];simp) with j | ⟨p,hp,j⟩
     ·subst j;rw[hK (by rw[q];simp)]at e;cases e
     · subst j
       rw[hTK p hp]at e;cases e)
  have hbm':∃G ob,mg "__builtins__" = some (.ref G)/\G≠builtinsNs/\(mP f.heap H).get? G=some ob/\ob.cls=.type "module" /\ ob.dict=some builtinsNs/\ob.data=.plain:=by
   obtain⟨G,ob,h1,h2,h3,h4,h5,h6⟩:=hbm;exact⟨G,ob,h1,h2,g h3 (noB h3 (λz=>by rw[z]at h6;cases h6) λz=>by rw[z]at h6;cases h6),h4,h5,h6⟩
  have hcd:∀c P,PySem.W.CodeHd f.heap c P->PySem.W.CodeHd (mP f.heap H) c P:=λc P h=>by
   obtain⟨o,vs',file,tf,N,tg,SK,U,tt,e,B,r⟩:=h;exact⟨o,vs',file,tf,N,tg,SK,U,tt,g e (noB e (λz=>by rw[z]at B;simp at B) λz=>by rw[z]at B;simp at B),B,r⟩
  have hM:Mod K mg (mP f.heap H):=⟨hKb,E hns,⟨mb,E i,hbb⟩,(let ⟨mc,h1,h2⟩:=hlim;⟨mc,E h1,h2⟩),hbm'⟩;have e0:Env0 P w K mg (mP f.heap H) callerA [] f H:=⟨rfl,hM,λb o e=>Il e,Nat.le_of_eq (AY _ _),trivial,λb i=>absurd (show b∈([]:List Addr) from i) (by simp),hok,.of_eq hg⟩;refine Yj ((F _ hKb (E hns) hcd).run callerA [] f H ⟨[.ref a],[]⟩ [.ref a] [.ref a] _ _ hr e0 (M f (.ref a)) (.cons rfl .nil) (hsp H hO hS)) λr A h=>?_;cases r with
  |error e=>exact(hCX H e A h).elim
  |ok fl=>
    cases fl with
    |next=>exact False.elim h
    |brk=>exact False.elim h
    |cont=>exact False.elim h
    |ret u=>
      obtain⟨v,H',os,bare,un,I,r',q⟩:=h;have q':v=.bl true:=q;subst q';obtain rfl:u=Value.bool true:=r';refine⟨rfl,⟨λb o e=>?_,λb o e=>un.there b o e (by simp)⟩,os,bare⟩;cases q:H b with
      |none=>exact .inl (un.keep b o e q (by intro z;exact absurd (show b∈([]:List Addr) from z) (by simp)) (by simp))
      |some u=>
        rcases hO.2 b with z|⟨ob,xs,z⟩|z
        ·rw[q]at z;cases z
        ·have z2:=un.frzs b ob _ z;obtain⟨e1,_⟩:=hok b _ z;obtain⟨e2,_⟩:=I b _ z2;rw[e]at e1;cases e1;exact .inl e2
        · have z2:=(un.tbls b _ z).1;obtain⟨_,ps,e2,_⟩:=I b _ z2
          have hb':∃p∈T,p.1=b:=by
           rcases hA b (by rw[q];simp) with j | j
           ·subst j;obtain⟨_,ps',l,_⟩:=hok b _ z;rw[Q]at l;cases l
           ·exact j
          obtain⟨p,hp,j⟩:=hb';obtain⟨c,B,l⟩:=hT p hp;rw[j]at l B;rw[e]at l;cases l;refine .inr (.inl ⟨(B.tab (ps:=#[]) e).isCodeTable,rfl,#[],ps,rfl,?_⟩);rw[e2];simp
 have t:∀(H:Hp) (b:Addr),(∃p∈T,p.1=b)->ObjOk P w H f.heap b (.tbl (T.at b)):=λH b ⟨p,hp,e⟩=>by
  obtain⟨c,B,l⟩:=hT p hp;rw[e]at l;exact⟨λy hy z hz h1 h2=>hTo _ (Tbs.mem.mp hy) _ (Tbs.mem.mp hz) h1 h2,#[],l,trivial,λy hy=>.inl rfl⟩
 have L:∀p∈T,p.1≠a:=λp hp z=>by
  obtain⟨c,B,l⟩:=hT p hp;rw[z,Q]at l;cases l
 cases hk:K.lookup a with
 |some o=>
   -- the D is one of the O own X
   have e:=KX a o hk;rw[Q]at e;cases e;have hTa:¬ ∃p∈T,p.1=a:=λ⟨p,hp,z⟩=>L p hp z;have dec:∀b,Decidable (∃p∈T,p.1=b):=λb=>Classical.propDecidable _;refine core (λb=>if ∃p∈T,p.1=b then some (.tbl (T.at b)) else none) ⟨λp hp=>Vo ⟨p,hp,rfl⟩,λb=>?_⟩ (.inr ⟨_,vs.toArray,_,hk,rfl,rfl,rfl,by rw[VE,Z];exact hl,by simpa using rv⟩) (λb u z=>?_) (λb z=>?_) λz=>absurd (on hTa) z
   · by_cases h:∃p∈T,p.1=b
     ·exact .inr (.inr (Vo h))
     ·exact .inl (on h)
   · by_cases h:∃p∈T,p.1=b
     ·have C:=(Vo h).symm.trans z;cases C;exact t _ b h
     ·have C:=(on h).symm.trans z;cases C
   · by_cases h:∃p∈T,p.1=b
     ·exact .inr h
     ·exact absurd (on h) z
 |none=>
   have dec:∀b,Decidable (∃p∈T,p.1=b):=λb=>Classical.propDecidable _;have hTa:∀{b},(∃p∈T,p.1=b)->b≠a:=λ⟨p,hp,z⟩ e=>L p hp (z.trans e);refine core (λb=>if b=a then some (.frz {cls:=.type "list",data:=.seq vs.toArray} (.lst (ns.map V.int))) else if ∃p∈T,p.1=b then some (.tbl (T.at b)) else none) ⟨λp hp=>(on (L p hp)).trans (Vo ⟨p,hp,rfl⟩),λb=>?_⟩ (.inl (.inr ⟨{cls:=.type "list",data:=.seq vs.toArray},Vo rfl⟩)) (λb u z=>?_) (λb z=>?_) λ_=>hk
   · by_cases i:b=a
     ·exact .inr (.inl ⟨_,_,Vo i⟩)
     · by_cases h:∃p∈T,p.1=b
       ·exact .inr (.inr ((on i).trans (Vo h)))
       ·exact .inl ((on i).trans (on h))
   · by_cases i:b=a
     ·have C:=(Vo i).symm.trans z;cases C;subst i;exact⟨Q,by rw[Vr];exact hl,vs,_,rv,Q⟩
     · by_cases h:∃p∈T,p.1=b
       ·have C:=((on i).trans (Vo h)).symm.trans z;cases C;exact t _ b h
       ·have C:=((on i).trans (on h)).symm.trans z;cases C
   · by_cases i:b=a
     ·exact .inl i
     · by_cases h:∃p∈T,p.1=b
       ·exact .inr h
       ·exact absurd ((on i).trans (on h)) z
abbrev Tns:=List (Str×Pos×Str)
structure TabsOf (mg:Str->Option Value) (h:Heap) (N:Tns) (T:Tbs):Prop where
 all:∀n∈N,∃P,(P,n.2)∈T/\∃a o fd c,mg n.1=some (.ref a)/\h.get? a=some o/\o.data=.func fd/\fd.code=.ref c/\PySem.W.CodeHd h c P
theorem o9{p:Program}{loose:List Str}{b:ExcName->Option Value}{mg s:Str->Option Value}{h:Heap}(l:PyProof.Rows.Top p loose b mg s h):∀(N:Tns),(∀n∈N,n.1∈(PyProof.Rows.recsOf p).map (·.name))->
 ∃T:Tbs,TabsOf mg h N T/\(∀q∈T,∃c,PySem.W.CodeHd h c q.1/\h.get? q.1=some (PySem.W.tabObj #[]))/\∀q∈T,∃n∈N,n.2=q.2
 |[],_=>⟨[],⟨λ_ h=>nomatch h⟩,λ_ h=>(nomatch h),λ_ h=>(nomatch h)⟩
 | n::N,j=>by
   obtain⟨T,w,v,u⟩:=o9 l N λm f=>j m (Vu _ f);obtain⟨d,hd,e⟩:=VV.mp (j n Vt);obtain⟨a,o,fd,c,P,e1,B,A,y,x,k⟩:=l.tab d hd;have i:=PySem.W.CodeHd.of x k;refine⟨(P,n.2)::T,⟨λm f=>?_⟩,λq g=>?_,λq g=>?_⟩
   · rcases VA.mp f with z|z
     ·subst z;exact⟨P,Vt,a,o,fd,c,by rw[<-e];exact e1,B,A,y,i⟩
     ·obtain⟨C,t,r⟩:=w.all m z;exact⟨C,Vu _ t,r⟩
   · rcases VA.mp g with z|z
     ·subst z;exact⟨c,i,k.2⟩
     ·exact v q z
   · rcases VA.mp g with z|z
     ·subst z;exact⟨n,Vt,rfl⟩
     ·obtain⟨m,f,e⟩:=u q z;exact⟨m,Vu _ f,e⟩
def Tns.ok(N:Tns):Prop:=∀y∈N,∀z∈N,y.2.1.line=z.2.1.line->y.2.1.col=z.2.1.col->y.2.2=z.2.2
def Dt(K:F0):Bool:=K.all λp=>match p.2.cls,p.2.data with
 |.none,.fields vs=>!vs.isEmpty
 |_,_=>true
theorem mC{W:Type}:∀{K:List (Nat×W)} {b:Nat} {o:W},K.lookup b=some o->(b,o)∈K
 | (c,x)::r,b,o,h=>by
   rw[V1]at h;by_cases z:b=c
   ·subst z;rw[WL]at h;cases h;exact Vt
   ·rw[beq_false_of_ne z]at h;exact Vu _ (mC h)
theorem oV{K:F0}{h:Heap}{b:Addr}(X:K.In h)(c:Dt K=true)(e:h.get? b=some (PySem.W.tabObj #[])):K.lookup b=none:=by
 cases q:K.lookup b with
 |none=>rfl
 |some o=>
   have a:=X b o q;rw[e]at a;cases a
   have:=Wh.mp c (b,PySem.W.tabObj #[]) (mC q)
   cases this
theorem GM{l:PySem.W.OpenLaw}{n k:Nat}{q:Program}{loose:List Str}{XP:(Str->Option Value)->Heap->Prop}{YP:World->Heap->Prop}{d:DefRec}{K:Params->F0}{CX:World->Bx}{sp:World->Tbs->Sp}{x:Str}(N:Tns)
 (hn:l.most=some n) (I:n<=sizeLine) (O:d.params.defaults=[]) (hr:Room k callerA)
 (hY:∀(w:World) (h:Heap),YP w h->(K w.params).In h) (hK:∀w:World,N≠[]->Dt (K w.params)=true) (hN:∀n∈N,n.1∈(PyProof.Rows.recsOf q).map (·.name)) (R:Tns.ok N)
 (F:∀(w:World) (mg:Str->Option Value) (C:Addr) (h:Heap) (T:Tbs),(K w.params).In h->h.Ns mainGlobals mg->mg d.name=some (.ref C)->TabsOf mg h N T->
   ∃fd:FuncData,(∀(s:Shared) (u:Value),BindsTo s fd ⟨[u],[]⟩ [(x,u)])/\
    ∀base:Heap,(K w.params).In base->base.Ns mainGlobals mg->(∀c P,PySem.W.CodeHd h c P->PySem.W.CodeHd base c P)->FnOk l.prog w (K w.params) mg base (CX w) k C fd [x] (sp w T))
 (E:∀(w:World) (T:Tbs) (H:Hp) (a:Addr) (ns:List Int),ns.length<=n->Go T H->SqL (K w.params) H a (ns.map V.int)->sp w T [.ref a] H (λv _=>v=.bl true) λ_ _ _=>False)
 (S:∀(w:World) (H:Hp) (s:Shared) (e:Value) (D:Shared),CX w [] H s (λ_ _ _=>False) e D->False):
 PySem.W.WalkO q loose XP YP l.row.toRowW d [] (λf vs=>PySem.call f vs):=by
 refine Att.vw hn O λw s₀ t mg mb C o pm cd doc a vs ns G Y ho hd hcd J A j i hg=>?_;have X:=hY w _ Y;obtain⟨T,Q,B,r⟩:=o9 G.T N hN;obtain⟨fd,hb,hF⟩:=F w mg C _ T X G.T.g J Q;refine EN (T:=T) X G.T.g G.T.b G.T.builtins G.T.nolimit hg G.T.bmain B (λp hp=>?_) (λy hy z hz h1 h2=>?_) A j (VT i I) hr hF hb (λH hO hS=>E w T H a ns i hO hS) λH e D=>S w H t e D
 ·obtain⟨c,_,e⟩:=B p hp;obtain⟨m,Z,_⟩:=r p hp;exact oV X (hK w (λz=>by rw[z]at Z;cases Z)) e
 ·obtain⟨m1,M,e1⟩:=r y hy;obtain⟨m2,L,U⟩:=r z hz;rw[<-e1,<-U];exact R m1 M m2 L (by rw[e1];exact h1 |>.trans (by rw[U])) (by rw[e1];exact h2 |>.trans (by rw[U]))
def iN(s:Stmt):Arguments:=match s with
 |.FunctionDef _ a _ _ _ _ _ _ _ _=>a
 |_=>{posonlyargs:=[],args:=[],vararg:=none,kwonlyargs:=[],kw_defaults:=[],kwarg:=none,defaults:=[]}
def bU(s:Stmt):List Stmt:=match s with
 |.FunctionDef _ _ b _ _ _ _ _ _ _=>b
 |_=>[]
def aM(s:Stmt):Scope:=match s with
 |.FunctionDef _ _ _ _ _ _ sc _ _ _=>sc
 |_=>{kind:=.function,names:=[],isGenerator:=false,isCoroutine:=false}
abbrev sS:Bx:=λ_ _ _ _ _ _=>False
abbrev E0:XK:=λ_ _ _=>False
theorem yx{X:Cx}:ju sS X E0:=λ_ _ _ _ _ _ _ h=>h.elim
structure Fun (K:F0) (x qual:Str) (st:Stmt) (f:Addr) (fd:FuncData):Prop where
 ex:∃(oc:Value) (od:Option Addr) (kV doc pm:Value) (an:Option Addr) (cdv ct:Value) (osl:Array (Option Value)),
  fd=PySem.W.fnOf x qual (iN st) (bU st) (aM st) .none kV doc pm an cdv ct/\K.lookup f=some ⟨oc,od,.func fd,osl⟩/\PySem.W.codeIn K cdv qual=true
 kp:PySem.W.keepIn K (.ref f)=true
section
variable{P:Program}{w:World}{K:F0}{mg:Str->Option Value}{base:Heap}
theorem Fun.ok{x qual:Str}{st:Stmt}{f:Addr}{fd:FuncData}{N ps:List Str}{k:Nat}{sp:Sp}(F:Fun K x qual st f fd)(S:FnScope N ps (aM st))(len:∀vs H Q E,sp vs H Q E->vs.length=ps.length)
 (b:∀(a:Value) (A:Around) (outer:List Env) (s:Shared) (H:Hp) (vs:List V) (Q:VK) (E:XK),Room k (A.deeper (envOfC qual (aM st) s.heap.objs.size f a))->sp vs H Q E->
   ∃t,PSs (uA sS P w K mg base N qual (aM st) f a A outer s H E).nox (bU st) t/\t {nx:=λ_ H'=>Q .non H',rt:=Q} (gK N vs) H):FnOk P w K mg base sS (k+1) f fd ps sp:=by
 obtain⟨oc,j,kV,i,pm,an,a,ct,e,rfl,lk,d⟩:=F.ex;refine fn_of lk d S len λA outer s H vs Q E g c=>?_;obtain⟨t,h,q⟩:=b a A outer s H vs Q E g c;exact⟨t,h.nox,q⟩
theorem Fun.binds{x qual:Str}{st:Stmt}{f:Addr}{fd:FuncData}{ps:List Str}(F:Fun K x qual st f fd)
 (h:∀(kV a pm:Value) (an:Option Addr) (b ct:Value) (us:List Value),us.length=ps.length->bindArgs (PySem.W.fnOf x qual (iN st) (bU st) (aM st) .none kV a pm an b ct) ⟨us,[]⟩=pure (ps.zip us)):Binds K fd ps []:=by
 obtain⟨oc,e,kV,a,pm,an,b,ct,c,rfl,lk,d⟩:=F.ex;exact .all (h kV a pm an b ct)
theorem OM{x qual:Str}{st:Stmt}{f:Addr}{oc:Value}{e an:Option Addr}{d:Array (Option Value)}{kV b pm a ct:Value}(l:K.lookup f=some ⟨oc,e,.func (PySem.W.fnOf x qual (iN st) (bU st) (aM st) .none kV b pm an a ct),d⟩)
 (c:PySem.W.codeIn K a qual=true) (k:PySem.W.keepIn K (.ref f)=true):Fun K x qual st f (PySem.W.fnOf x qual (iN st) (bU st) (aM st) .none kV b pm an a ct):=⟨⟨oc,e,kV,b,pm,an,a,ct,d,rfl,l,c⟩,k⟩
end
theorem SL{A:Around}{k:Nat}(a:Room k A):A.units+1<cLine:=WA (Nat.add_le_add_left (by decide:1<=64) _) a.units
section
variable{X:Cx}
theorem pv(i:Nat){x:Str}{pos:Pos}(c:X.N[i]?=some x:=by rfl)(b:Vi X.env.scope x:=by first | exact Or.inl rfl | exact Or.inr (Or.inl rfl) | exact Or.inr (Or.inr rfl))(hd:(x == ("__debug__" : Str))=false:=by decide)
 (a:(x==("__classdict__" : Str))=false:=by decide):PE X (.Name x pos) (bI i):=MA c b hd a
end
def Same(H H':Hp):Prop:=∀b o,H b=some o->H' b=some o
theorem Same.refl(H:Hp):Same H H:=λ_ _ h=>h
theorem Same.trans{H H1 d:Hp}(a:Same H H1)(b:Same H1 d):Same H d:=λc o h=>b c o (a c o h)
theorem Same.free{H H':Hp}(e:Same H H'){l:Addr}(h:H' l=Option.none):H l=Option.none:=by
 cases q:H l with
 |none=>rfl
 |some o=>
   rw[e l o q]at h;cases h
def bO(env:Env):List (Str×NameKind)->List (Str×Addr)->List (Str×Addr)
 |[],acc=>acc
 |(n,k)::r,acc=>if (k==NameKind.free)=true then bO env r ((n,(env.cells.lookup n).getD 0)::acc) else bO env r acc
theorem gD{env:Env}{y:Str}{c:Addr}:∀{l:List (Str×NameKind)} {acc:List (Str×Addr)},(∀z∈l,z.2=.free->∃c,env.cells.lookup z.1=some c)->(bO env l acc).lookup y=some c->
 acc.lookup y=some c\/env.cells.lookup y=some c
 |[],acc,_,h=>.inl h
 | (n,k)::r,acc,a,h=>by
   unfold bO at h;split at h
   · rename_i d;rcases gD (λz hz=>a z (Vu _ hz)) h with e|e
     · by_cases q:(y==n)=true
       · have f:y=n:=by simpa using q
         subst f;obtain⟨g,b⟩:=a (y,k) List.mem_cons_self (by simpa using d);dsimp only at b;rw[List.lookup_cons,beq_self_eq_true,b]at e;exact .inr (b.trans e)
       ·rw[Bool.not_eq_true]at q;rw[V1,q]at e;exact .inl e
     ·exact .inr e
   ·exact gD (λz hz=>a z (Vu _ hz)) h
theorem gE{env:Env}{y:Str}:∀{l:List (Str×NameKind)} {acc:List (Str×Addr)},((y,NameKind.free)∈l\/∃c,acc.lookup y=some c)->∃c,(bO env l acc).lookup y=some c
 | [],acc,h=>by
   rcases h with h|h
   ·cases h
   ·exact h
 | (n,k)::r,acc,h=>by
   unfold bO;split
   · rename_i a;refine gE ?_;by_cases q:(y==n)=true
     ·exact .inr ⟨_,by rw[V1,q]⟩
     · rw[Bool.not_eq_true]at q;rcases h with h|⟨c,h⟩
       · rcases VA.mp h with e|e
         ·cases e;rw[WL]at q;cases q
         ·exact .inl e
       ·exact .inr ⟨c,by rw[V1,q];exact h⟩
   · rename_i a;refine gE ?_;rcases h with h|h
     · rcases VA.mp h with e|e
       ·cases e;exact absurd (by rfl) a
       ·exact .inl e
     ·exact .inr h
theorem g8{scope:Scope}{env:Env}{y:Str}{k:NameKind}(h:(relabel scope env).names.lookup y=some k):∃a,(y,a)∈scope.names/\(a=k\/(a=.free/\k=.cell)):=by
 obtain⟨⟨n,d⟩,b,e⟩:=List.mem_map.mp (PySem.mem_of_lookup h);dsimp only at e;split at e
 ·rename_i c;simp only[Xd,XJ]at c;cases e;exact⟨d,b,.inr ⟨c.1.1,rfl⟩⟩
 ·cases e;exact⟨_,b,.inl rfl⟩
structure CompSc (osc sc:Scope) (x:Str) (cs:List Str):Prop where
 kind:sc.kind=.function
 cell:∀y∈sc.names,y.2≠ .cell
 loc:∀y∈sc.names,y.2=.local->sc.names.lookup y.1=some .local
 var:sc.names.lookup x=some .local
 cap:∀y∈cs,(osc.names.lookup y=some .cell\/osc.names.lookup y=some .free)/\sc.names.lookup y=some .free
 free:∀y∈sc.names,y.2=.free->osc.names.lookup y.1=some .cell\/osc.names.lookup y.1=some .free
 nd:(x::cs).Nodup
def im(X:Cx)(scope:Scope)(b:List (Str×Addr))(C:Addr)(N:List Str)(a:List Addr)(s₀:Shared)(H₀:Hp):Cx where
 prog:=X.prog
 w:=X.w
 K:=X.K
 mg:=X.mg
 base:=X.base
 A:=X.A
 N:=N
 s₀:=s₀
 H₀:=H₀
 env:=compEnvC scope b C X.env
 outer:=X.stack
 stack:=X.stack
 ex:=a
 fn:=λ_=>false
 calm:=X.calm
 pn:=[]
 xe:=λ_ _=>False
def gb(Z:St)(a:List Nat):St:=a.map λj=>(Z[j]?).join
section
variable{X:Cx}{G:P4}{Z:St}{H:Hp}{s:Shared}{scope:Scope}{x:Str}{cs:List Str}{ix:List Nat}{fp:List Addr}
theorem vk(I:Inv X G Z H s)(a:CompSc X.env.scope scope x cs):∀y∈scope.names,y.2=.free->∃c,X.env.cells.lookup y.1=some c:=λy b d=>I.ok.has _ (a.free y b d)
theorem EV{g:Heap}{t₁:Nat}{V:Str->Option Value}(I:Inv X G Z H s)(n:CompSc X.env.scope scope x cs)(D:ix.map (λi=>X.N[i]?)=cs.map some)(L:∀b∈fp,oM X G H b)
 (Q:∀b∈fp,b<s.heap.objs.size) (hn:g.Ns s.heap.objs.size V) (K:∀b o,s.heap.get? b=some o->g.get? b=some o):
 Inv (im X scope (bO X.env scope.names []) s.heap.objs.size (x::cs) fp s H) [] (none::gb Z ix) H {s with heap:=g,toks:=t₁}:=by
 have U:=vk I n
 have d:∀y c,(bO X.env scope.names []).lookup y=some c->X.env.cells.lookup y=some c:=λy c e=>by
  rcases gD U e with z|z
  ·cases z
  ·exact z
 have t:ix.length=cs.length:=by
  have:=congrArg List.length D
  rwa [Vr,Vr]at this
 refine⟨⟨I.ok.mod,n.kind,I.ok.glob,I.ok.blt,VG _,λy z c S E=>I.ok.inj y z c (d y c S) (d z c E),λy hy=>?_,λy c h=>(nomatch h),I.ok.hd,I.ok.frames,.inl rfl,λb A=>⟨VY (Q b A),λy c e=>(L b A).2.2.2.2.1 y c (d y c e)⟩,
  I.bs,VT I.ok.bsz I.sz,λb o e A=>?_,λb A R=>?_,I.stack,I.stkFree⟩,rfl,I.bare,Un.kept K,⟨V,hn,λi y v S E h3=>?_⟩,λy c e=>?_,I.hok.fresh (VG _),λy c e=>I.freeC y c (d y c e),λp hp=>absurd (show p∈([]:P4) from hp) (by simp),I.hok.kept K,?_⟩
 · have O:(relabel scope X.env).names.lookup y=some .cell\/(relabel scope X.env).names.lookup y=some .free:=hy
   have:(y,NameKind.free)∈scope.names:=by
    rcases O with q|q
    · obtain⟨Y,B,e|⟨e,_⟩⟩:=g8 q
      ·subst e;exact absurd rfl (n.cell _ B)
      ·subst e;exact B
    · obtain⟨Y,B,e|⟨_,e⟩⟩:=g8 q
      ·subst e;exact B
      ·cases e
   exact gE (.inl this)
 · rcases(L b A).2.2.2.1 with z|z
   ·exact I.ok.noex b o e z
   ·exact absurd (VU (VD e) (VT I.ok.bsz z)) (Wo _)
 · rcases VA.mp (I.stkSub b R) with z|z
   ·exact(L b A).2.1 z
   ·exact(L b A).2.2.1 z
 · -- a C name
   cases i with
   |zero=>
     have:(none::gb Z ix:St)[0]?=some none:=rfl
     rw[this]at E;cases E
   |succ j=>
     have F:cs[j]?=some y:=S;have f:(gb Z ix)[j]?=some (some v):=E;unfold gb at f;rw[List.getElem?_map]at f;cases T:ix[j]? with
     |none=>rw[T]at f;cases f
     |some k=>
       rw[T]at f;have M:(Z[k]?).join=some v:=VQ f
       have h5:Z[k]?=some (some v):=by
        cases e:Z[k]? with
        |none=>rw[e]at M;cases M
        |some w=>rw[e]at M;exact congrArg some M
       have h6:X.N[k]?=some y:=by
        have q:=congrArg (λl=>l[j]?) D;simp only[VN,T,F,W5]at q;exact VQ q
       obtain⟨c1,c2⟩:=n.cap y (Wn F);obtain⟨m,hn',hl⟩:=I.loc;obtain⟨u,r,l⟩:=hl k y v h6 h5 (c1.elim (λz=>.inr (.inl z)) λz=>.inr (.inr z));refine⟨u,r,?_⟩;rcases l with ⟨l,_⟩|⟨_,c,ec,hc⟩
       ·have W:X.env.scope.names.lookup y=some .local:=l;rcases c1 with z|z<;>(rw[z]at W;cases W)
       · obtain⟨c',J⟩:=gE (env:=X.env) (y:=y) (l:=scope.names) (acc:=[]) (.inl (WG c2));have e':=d y c' J;rw[ec]at e';cases e';refine .inr ⟨?_,c,J,?_⟩
         · rcases h3 with z|z|z
           · have z':(relabel scope X.env).names.lookup y=some .local:=z;obtain ⟨Y,B,e | ⟨_,e⟩⟩:=g8 z'
             · subst e
               have:=n.loc _ B rfl
               dsimp only at this;rw[c2]at this;cases this
             ·cases e
           ·exact .inl z
           ·exact .inr z
         ·obtain⟨o,P,hd⟩:=hc;exact⟨o,K c o P,hd⟩
 ·obtain⟨v,o,P,hd⟩:=I.cell y c (d y c e);exact⟨v,o,K c o P,hd⟩
 ·show(none::gb Z ix:St).length=(x::cs).length;rw[Vx,Vx,gb,Vr,t]
end
def P6(X:Cx)(a:List Expr)(t:TT):Prop:=
 ∀(G:P4) (s:Shared) (Z:St) (H:Hp) (Q:Bool->Hp->Prop),Inv X G Z H s->t Z H Q->
  wpAny (model X.prog X.w) X.A (forIn a true λc r=>if r=true then do let ok <-isTrue c X.env (eval c X.env);pure (ForInStep.yield ok) else pure (ForInStep.yield r)) (TP X G Z Q) X.xe s
def LJ:TT:=λ_ H Q=>Q true H
theorem Hr{X:Cx}:P6 X [] LJ:=λ_ _ _ H _ I h=>wpAny_tests_nil ⟨H,I,h⟩
theorem Hq{X:Cx}{c:Expr}{t:TT}(h:PT X c t):P6 X [c] t:=λG s Z H Q I a=>wpAny_tests_one (h G s Z H Q I a)
section
variable{prog:Program}{w:World}{A:Around}{R:Result->Shared->Prop}{s:Shared}
theorem vh{o a iter:Expr}{k:List Expr}{scope:Scope}{pos:Pos}{B acc:Value}{env:Env}(I:Nat->Shared->Prop)
 (p:∀n s,I n s->wpAny (model prog w) A (pyNext B) (λr b=>match r with
   |none=>R (.ok .next) b
   |some v=>wpAny (model prog w) A (letOwnedTupleGo a B v) (λ_ b=>wpAny (model prog w) A (assign a env v) (λ_ g=>
      wpAny (model prog w) A (forIn k true λc r=>if r=true then do let ok <-isTrue c env (eval c env);pure (ForInStep.yield ok) else pure (ForInStep.yield r)) (λok d=>
       if ok=true then wpAny (model prog w) A (eval o env) (λx f=>
        wpAny (model prog w) A (call (.builtin "list.append") [acc,x]) (λ_ e=>∃m,m<n/\I m e) (λ_ _=>False) f) (λ_ _=>False) d
       else ∃m,m<n/\I m d) (λ_ _=>False) g) (λ_ _=>False) b) (λ_ _=>False) b) (λ_ _=>False) s)
 (n:Nat) (h:I n s):codeAny (model prog w) A (.compLoop (.ListComp o [⟨a,iter,k,0⟩] scope pos) 0 B acc env) R s:=by
 refine codeAny_loop rfl I (λn s D=>?_) n h;have up:∀{W:Type} {t:Sem W} {Q:W->Shared->Prop} {E:T1} {s:Shared},wpAny (model prog w) A t Q (λ_ _=>False) s->wpAny (model prog w) A t Q E s:=λh=>Xw h (λ_ _ z=>z) λ_ _ z=>z.elim;show wpAny _ A ((compTurn (.ListComp o [⟨a,iter,k,0⟩] scope pos) 0 B acc env).onRaise _) _ _ s;refine wpAny_noted (up ?_);rw[compTurn_list];refine Vp (X5 (Vp (a7 (p n s D) λr b j=>?_)));cases r with
 |none=>exact Vz j
 |some v=>
   refine Vp (a7 j λ_ C l=>Vp (a7 l λ_ g y=>Vp (a7 y λok d i=>?_)));cases ok with
   |false=>exact Vz ⟨rfl,i⟩
   |true=>exact Vp (Vp (a7 i λx f u=>Vp (a7 u λ_ e q=>Vz (Vz ⟨rfl,q⟩))))
end
def vE(J:It)(τ:V->St)(g:TT)(te:TE)(p:Addr)(H1:Hp)(Q:VK):Prop:=
 ∃W:Nat->Nat->List V->Hp->Prop,(∃m,W 0 m [] (upd H1 p (.lst [])))/\∀i m ys a,W i m ys a->a p=some (.lst ys)/\ys.length<sizeLine/\
  ((J.stop i a/\Q (.ref p) a)\/(J.go i a/\∀v f,J.yld i a v f->g (τ v) f λb e=>if b=true then te (τ v) e λy d=>d p=some (.lst ys)/\∃c,c<m/\W (i+1) c (ys++[y]) (upd d p (.lst (ys++[y])))
    else ∃c,c<m/\W (i+1) c ys e))
def gY(a:TI)(c:List Nat)(b:TT)(te:TE):TE:=λZ H Q=>a Z H λJ H1=>∀p,H1 p=none->vE J (λv=>some v::gb Z c) b te p H1 Q
section
variable{X:Cx}{G:P4}{Z:St}{H:Hp}{s:Shared}{scope:Scope}{x:Str}{px pos:Pos}{cs:List Str}{ix:List Nat}{fp:List Addr}{elt iter:Expr}{ifs:List Expr}{ti:TT}{te:TE}
theorem ot{J:It}{it:Addr}{tn:Nat->Heap->Prop}{Qe:VK}{RR:Value->Addr->Result->Shared->Prop}{E:T1}(P:X.calm=true)(I2:Inv X G Z H s)(g:CompSc X.env.scope scope x cs)(hix:ix.map (λi=>X.N[i]?)=cs.map some)
 (T:Turn X.prog X.w X.K (.Name x px) J fp it tn) (st0:tn 0 s.heap) (B:∀b∈fp,oM X G H b)
 (hti:∀C fp s₀ H₀,P6 (im X scope (bO X.env scope.names []) C (x::cs) fp s₀ H₀) ifs ti) (hte:∀C fp s₀ H₀,PE (im X scope (bO X.env scope.names []) C (x::cs) fp s₀ H₀) elt te)
 (hW:∀p,H p=none->vE J (λv=>some v::gb Z ix) ti te p H Qe)
 (hRR:∀p C H' f,Inv X G Z H' f->oM X G H' C->(∃m,f.heap.Ns C m)->Qe (.ref p) H'->RR (.ref p) C (.ok .next) f):
 wpAny (model X.prog X.w) X.A (newList []) (λacc U=>wpAny (model X.prog X.w) X.A (newFunctionEnv scope X.env.globals (bO X.env scope.names []) [] X.env.qual none .none (some X.env)) (λL R=>
  codeAny (model X.prog X.w) X.A (.compStart (.ListComp elt [⟨.Name x px,iter,ifs,0⟩] scope pos) 0 (.ref it) acc { L with scope:=relabel scope X.env }) (RR acc L.locals) R) E U) E s:=by
 refine wpAny_newObj_type (wpAny_newFunctionEnv g.cell (by intro y hy;simp at hy) (λh k j=>?_) g.kind);dsimp only at k j ⊢;have hD:H s.heap.objs.size=none:=I2.hok.fresh (Nat.le_refl _)
 have I3:Inv X G Z (upd H s.heap.objs.size (.lst [])) {s with heap:=s.heap.push {cls:=.type "list",dict:=none,data:=.seq ([]:List Value).toArray}}:=
  I2.laid (t':=s.toks) (λb u e=>Vv _ e) (VG _) ⟨Wr _,[],0,.nil,VO _ rfl⟩
 obtain⟨W,⟨m0,w0⟩,Q⟩:=hW _ hD
 have I:∀b∈fp,b<s.heap.objs.size:=λb a=>by
  obtain⟨o,e,_⟩:=T.obj 0 _ st0 b a;exact VD e
 have hlt:∀b∈fp,b<(s.heap.push {cls:=.type "list",dict:=none,data:=.seq ([]:List Value).toArray}).objs.size:=λb a=>by
  rw[Xa];exact XX (I b a)
 have hf3:∀b∈fp,oM X G (upd H s.heap.objs.size (.lst [])) b:=λb a=>⟨by rw[am (VY (I b a))];exact(B b a).1,(B b a).2⟩
 have kept:∀b o,(s.heap.push {cls:=.type "list",dict:=none,data:=.seq ([]:List Value).toArray}).get? b=some o->h.get? b=some o:=λb o e=>
  j.extBut b o (VY (VD e)) (Vv _ e)
 have O:∀b o,s.heap.get? b=some o->h.get? b=some o:=λb o e=>kept b o (Vv _ e);have I4:=EV (t₁:=s.toks+([]:List (Str×Value)).length) I3 g hix hf3 hlt k kept;have st4:tn 0 h:=T.keep 0 _ _ st0 λb _ o e=>O b o e
 have F:codeAny (model X.prog X.w) X.A (.compLoop (.ListComp elt [⟨.Name x px,iter,ifs,0⟩] scope pos) 0 (.ref it) (.ref s.heap.objs.size) (compEnvC scope (bO X.env scope.names []) (s.heap.push {cls:=.type "list",dict:=none,data:=.seq ([]:List Value).toArray}).objs.size X.env))
  (RR (.ref s.heap.objs.size) (s.heap.push {cls:=.type "list",dict:=none,data:=.seq ([]:List Value).toArray}).objs.size) {s with heap:=h,toks:=s.toks+([]:List (Str×Value)).length}:=by
  generalize l:im X scope (bO X.env scope.names []) (s.heap.push {cls:=.type "list",dict:=none,data:=.seq ([]:List Value).toArray}).objs.size (x::cs) fp {s with heap:=s.heap.push {cls:=.type "list",dict:=none,data:=.seq ([]:List Value).toArray}} (upd H s.heap.objs.size (.lst []))=Y at I4;have hti':P6 Y ifs ti:=by rw[<-l];exact hti _ _ _ _
  have hte':PE Y elt te:=by rw[<-l];exact hte _ _ _ _
  have hcY:Y.calm=true:=by rw[<-l];exact P
  have hg:PG Y (.Name x px) (b7 0):=by
   rw [<-l];exact qI g.nd rfl (.inl (lookup_relabel_local g.var)) (.inr (lookup_relabel_local g.var))
  have f4:∀{H':Hp},(∀b∈fp,H' b=none)->∀b∈fp,oM Y [] H' b:=λ{H'} hn b a=>by
   rw[<-l];refine⟨hn b a,VY (hlt b a),λz=>?_,.inl a,λy c e z=>?_,λp hp=>absurd (show p∈([]:P4) from hp) (by simp)⟩
   · rcases VA.mp (I3.stkSub b z) with q|q
     ·exact(B b a).2.1 q
     ·exact(B b a).2.2.1 q
   · rcases gD (vk I2 g) e with q|q
     ·cases q
     ·exact(B b a).2.2.2.2.1 y c q z
  have fin:∀{D:Option V} {H':Hp} {f:Shared},Inv Y [] (D::gb Z ix) H' f->Qe (.ref s.heap.objs.size) H'->RR (.ref s.heap.objs.size) (s.heap.push {cls:=.type "list",dict:=none,data:=.seq ([]:List Value).toArray}).objs.size (.ok .next) f:=λ{D H' f} J q=>by
   rw[<-l]at J;have Ix:Inv X G Z H' f:=I3.call' (ch:=fp) J.os J.base J.hok J.bare λb a=>⟨(B b a).2.2.2.1,(B b a).2.1,(B b a).2.2.2.2.1,(B b a).2.2.2.2.2⟩;refine hRR _ _ H' f Ix (I3.fpOk (VG _) J.free) ?_ q;obtain⟨m,hm,_⟩:=J.loc;exact⟨m,hm⟩
  have eY:compEnvC scope (bO X.env scope.names []) (s.heap.push {cls:=.type "list",dict:=none,data:=.seq ([]:List Value).toArray}).objs.size X.env=Y.env:=by rw[<-l];rfl
  have eP:X.prog=Y.prog:=by rw[<-l];rfl
  have eW:X.w=Y.w:=by rw[<-l];rfl
  have eK:X.K=Y.K:=by rw[<-l];rfl
  have eA:X.A=Y.A:=by rw[<-l];rfl
  have eX:Y.xe=λ_ _=>False:=by rw[<-l];rfl
  rw[eP,eW,eK]at T;rw[eY,eP,eW,eA];refine vh (λn f=>∃i ys D H',Inv Y [] (D::gb Z ix) H' f/\tn i f.heap/\(∀b∈fp,H' b=none)/\W i n ys H') ?_ m0 ⟨0,[],none,_,I4,st4,λb a=>(hf3 b a).1,w0⟩;rintro n f ⟨i,ys,D,H',I',st',fr',w'⟩;obtain⟨hp,hlen,S⟩:=Q i n ys H' w';rcases S with ⟨stop,q⟩|⟨go,step⟩
  ·refine a7 (T.done Y rfl rfl rfl hcY i [] f (D::gb Z ix) H' (λ_ _=>False) I' (f4 fr') st' stop) λr s1 ⟨hr,I1⟩=>?_;subst hr;exact fin I1 q
  · refine a7 (T.item Y rfl rfl rfl hcY i [] f (D::gb Z ix) H' (λ_ _=>False) I' (f4 fr') st' go) λr s1 ⟨u,hr,h4⟩=>?_;subst hr;refine a7 h4 λ_ s2 ⟨v,H2,J2,r2,y2,M,fr2⟩=>?_;have J2p:=J2.pinned (f4 fr2) (T.obj _ _ M)
    have again:∀{t:St} {H7:Hp} {s7:Shared},Inv Y ([]++mj fp s2.heap) t H7 s7->tn (i+1) s7.heap/\∀b∈fp,H7 b=none:=λ{t H7 s7} I7=>by
     refine⟨T.keep _ _ _ M λb a o e=>(I7.pin (b,o) (Vs _ (Vs _ (gj a e)))).1,λb a=>?_⟩;obtain⟨o,e,d⟩:=T.obj _ _ M b a;exact(I7.pin (b,o) (Vs _ (Vs _ (gj a e)))).2.1
    have hga:=hg _ s2 (D::gb Z ix) H2 v u (λt H'=>t=some v::gb Z ix/\H'=H2) J2p r2 ⟨rfl,rfl⟩;rw[eX]at hga;refine a7 hga λ_ s3 ⟨σ3,H3,J3,e3,e3'⟩=>?_;subst e3 e3';have htt:=hti' _ s3 _ H3 _ J3 (step v H3 y2);rw[eX]at htt;refine a7 htt λb s4 ⟨H4,J4,q4⟩=>?_;cases b with
    |false=>
      rw[on VC]at q4 ⊢;obtain⟨m',hm,w4⟩:=q4;exact⟨m',hm,i+1,ys,some v,H4,J4.unpinned,(again J4).1,(again J4).2,w4⟩
    |true=>
      rw[Vo rfl]at q4 ⊢;have hee:=hte' _ s4 _ H4 _ J4 q4;rw[eX]at hee;refine a7 hee λy s5 ⟨yv,H5,J5,r5,hp5,m',hm,w5⟩=>?_;have hap:=pG (X:=Y) _ s5 _ H5 (.ref s.heap.objs.size) [yv] (.ref s.heap.objs.size) [y] (λ_ H6=>H6=upd H5 s.heap.objs.size (.lst (ys++[yv]))) J5 rfl (.cons r5 .nil) ⟨_,ys,yv,rfl,rfl,hp5,hlen,rfl⟩;rw[eX]at hap;refine a7 hap λ_ s6 ⟨_,H6,J6,_,e6⟩=>?_;subst e6;exact⟨m',hm,i+1,ys++[yv],some v,_,J6.unpinned,(again J6).1,(again J6).2,w5⟩
 exact codeAny_compStart_list F (T.self _ 0 _ _ _ st4 F)
theorem HQ{n:TI}(c:X.calm=true)(hi:PI X (.Name x px) iter n)(a:CompSc X.env.scope scope x cs)(k:ix.map (λi=>X.N[i]?)=cs.map some)
 (f:∀C fp s₀ H₀,P6 (im X scope (bO X.env scope.names []) C (x::cs) fp s₀ H₀) ifs ti) (g:∀C fp s₀ H₀,PE (im X scope (bO X.env scope.names []) C (x::cs) fp s₀ H₀) elt te)
 (l:closureFor scope X.env=pure (bO X.env scope.names []):=by rfl) (u:∀x,foldedSetIterable iter X.env x=pure x:=by intro _;rfl):
 PE X (.ListComp elt [⟨.Name x px,iter,ifs,0⟩] scope pos) (gY n ix ti te):=by
 intro G s Z H Q I h;rw[eval_ListComp];refine wpAny_comprehension_free (use:=none) rfl u l a.kind a.loc (a7 (hi G s Z H _ I h) λv V E=>a7 E λt U D=>?_);obtain⟨W,fp,tn,J,Y,e,R,T,d,M,B⟩:=D;subst e;refine ot (RR:=λacc C=>compPost (model X.prog X.w) X.A X.xe none (EP X G Z Q) acc C) c R a k T d M f g B ?_;rintro p C H' r S ⟨P,O,_,L,K,F⟩ ⟨m,y⟩ q;exact⟨m,y,λh' j=>⟨.ref p,H',S.turned (t':=r.toks) (λb o z e=>j.extBut b o z e) P O L K F,rfl,q⟩⟩
theorem wn{O:TI}{y:Str}{py a:Pos}{i:Nat}(g:X.calm=true)(hN:X.N.Nodup)(K:X.N[i]?=some y)(hy:T3 X.env.scope y)(hi:PI X (.Name x px) iter O)(f:CompSc X.env.scope scope x cs)(F:ix.map (λi=>X.N[i]?)=cs.map some)
 (r:∀C fp s₀ H₀,P6 (im X scope (bO X.env scope.names []) C (x::cs) fp s₀ H₀) ifs ti) (t:∀C fp s₀ H₀,PE (im X scope (bO X.env scope.names []) C (x::cs) fp s₀ H₀) elt te)
 (u:swapsWith (.ListComp elt [⟨.Name x px,iter,ifs,0⟩] scope pos) (some (.Name y py)) a.line X.env=pure true:=by rfl)
 (L:closureFor scope X.env=pure (bO X.env scope.names []):=by rfl) (hs:∀x,foldedSetIterable iter X.env x=pure x:=by intro _;rfl)
 (hf:X.fn y=true\/X.env.scope.names.lookup y=some .local:=by first | exact .inl rfl | exact .inr rfl | assumption):
 PS X (.Assign [.Name y py] (.ListComp elt [⟨.Name x px,iter,ifs,0⟩] scope pos) a) (l7 (gY O ix ti te) (b7 i)):=by
 intro G s Z H D I h;rw[exec_Assign_Name_used _ _ _ _ u];refine Vp (X5 (Vp ?_));show wpAny _ X.A (do let _ <-comprehension (.ListComp elt [⟨.Name x px,iter,ifs,0⟩] scope pos) scope X.env _ (newList []) false (eval iter X.env) (some (assign (.Name y py) X.env))) _ _ s;refine Vp (a7 (wpAny_comprehension_free (Q:=λ_ d=>SP X G D .next d) rfl hs L f.kind f.loc (a7 (hi G s Z H _ I h) λv s1 h1=>a7 h1 λY s2 h2=>?_)) λ_ d hq=>Vz (Vz hq));obtain⟨it,fp,tn,J,H2,e,I2,T,n,f2,hW⟩:=h2;subst e;refine ot (RR:=λacc C=>compPost (model X.prog X.w) X.A X.xe (some (assign (.Name y py) X.env)) (λ_ d=>SP X G D .next d) acc C) g I2 f F T n f2 r t hW ?_;rintro p C H' d S ⟨f0,P,M,f3,f4,f5⟩ ⟨m,hm⟩ q;obtain⟨k,es,ep,E,j,V⟩:=hm
 have Ip:Inv X (G++[(C,k)]) Z H' d:=S.pins_of λp hp=>(Vy.mp hp).elim (λz=>S.pin p (Vs _ z)) λz=>by
  have e:p=(C,k):=by simpa using z
  subst e;exact⟨E,f0,P,M,λv z=>by rw[j]at z;cases z⟩
 have hg:PG X (.Name y py) (b7 i):=qI hN K hy hf;refine a7 (hg _ d Z H' (.ref p) (.ref p) D.nx Ip rfl q) λ_ U ⟨l,H3,R,W⟩=>?_;have c:=R.pin (C,k) (Vs _ (Vs _ (by simp)));refine⟨m,⟨k,es,ep,c.1,j,V⟩,λh' B=>?_⟩;exact⟨l,H3,(R.unpinned).turned (t':=U.toks) (λb o hb e=>B.extBut b o hb e) c.2.1 P f3 f4 f5,W⟩
end
mutual
def Den(K:F0)(H:Hp):PyData->V->Prop
 |.none,v=>v=.non
 |.bool b,v=>v=.bl b
 |.int i,v=>v=.int i
 |.str x,v=>v=.str x
 |.list ds,v=>∃a xs,v=.ref a/\SqL K H a xs/\Dens K H ds xs
 |.tuple ds,v=>∃a xs,v=.ref a/\SqT K H a xs/\Dens K H ds xs
 |.dict _,_=>False
def Dens(K:F0)(H:Hp):List PyData->List V->Prop
 |[],xs=>xs=[]
 |d::ds,xs=>∃x r,xs=x::r/\Den K H d x/\Dens K H ds r
end
section
variable{X:Cx}{G:P4}{Z:St}{H:Hp}{s:Shared}
mutual
theorem den_reads(I:Inv X G Z H s):∀(d:PyData) {v:V} {u:Value},Den X.K H d v->RelV v u->∃m,Reads s.heap u d m
 | .none,v,u,h,r=>by
   rw[Den]at h;subst h;have c:u=Value.none:=r;subst c;exact⟨_,.none⟩
 | .bool b,v,u,h,r=>by
   rw[Den]at h;subst h;have c:u=Value.bool b:=r;subst c;exact⟨_,.bool b⟩
 | .int i,v,u,h,r=>by
   rw[Den]at h;subst h;obtain⟨t,c⟩:=(show ∃t,u=Value.int i t from r);subst c;exact⟨_,.int i t⟩
 | .str x,v,u,h,r=>by
   rw[Den]at h;subst h;obtain⟨t,c⟩:=(show ∃t,u=Value.str x t from r);subst c;exact⟨_,.str x t⟩
 | .list ds,v,u,h,r=>by
   rw[Den]at h;obtain⟨a,xs,rfl,j,hd⟩:=h;have c:u=Value.ref a:=r;subst c;obtain⟨its,f,p,hz⟩:=I.list j;obtain⟨m,g⟩:=dens_reads I ds hd f;obtain⟨o,k,l,n,e⟩:=p.isList;exact⟨_,.list k l e (by simpa using g)⟩
 | .tuple ds,v,u,h,r=>by
   rw[Den]at h;obtain⟨a,xs,rfl,j,hd⟩:=h;have c:u=Value.ref a:=r;subst c;obtain⟨its,f,p,hz⟩:=I.tuple j;obtain⟨m,g⟩:=dens_reads I ds hd f;obtain⟨o,k,l,n,e⟩:=p;exact⟨_,.tuple k l e (by simpa using g)⟩
 | .dict _,v,u,h,r=>by
   rw[Den]at h;exact h.elim
theorem dens_reads(I:Inv X G Z H s):∀(ds:List PyData) {xs:List V} {us:List Value},Dens X.K H ds xs->Vals xs us->∃a,ReadsAll s.heap us ds a
 | [],xs,us,h,r=>by
   rw[Dens]at h;subst h;cases r;exact⟨_,.nil⟩
 | d::ds,xs,us,h,r=>by
   rw[Dens]at h;obtain⟨x,t,rfl,g,i⟩:=h;cases r with
   |cons f e=>
     obtain⟨a,c⟩:=den_reads I d g f;obtain⟨bs,b⟩:=dens_reads I ds i e;exact⟨_,.cons c b⟩
end
end
theorem qd{K:F0}{H:Hp}:∀ns:List Int,Dens K H (ns.map PyData.int) (ns.map V.int)
 |[]=>by rw[Wq,Wq,Dens]
 | n::r=>by
   rw[Vq,Vq,Dens];exact⟨_,_,rfl,by rw[Den],qd r⟩
theorem uz{K:F0}{H:Hp}{a:Addr}{ns:List Int}(h:SqL K H a (ns.map V.int)):Den K H (.list (ns.map PyData.int)) (.ref a):=by
 rw[Den];exact⟨a,_,rfl,h,qd ns⟩
theorem E7(ns ms:List Int):PyData.eqv (.list (ns.map PyData.int)) (.list (ms.map PyData.int))=decide (ns=ms):=by
 rw[<-SeqAt.same_eq_eqv _ _ (by simp only[SeqAt.noMix];exact PySem.W.noMix_ints ns ms)];simp only[same];exact PySem.W.same_ints ns ms
section
variable{X:Cx}
def CB(K:F0)(neg:Bool):R2:=λx y H Q=>∃d e,Den K H d x/\Den K H e y/\SeqAt.shaped d=true/\SeqAt.shaped e=true/\Q (.bl (if neg then !PyData.eqv d e else PyData.eqv d e)) H
theorem Ng(j:X.A.units+64<cLine):jv X (compareOp .Eq) (CB X.K false):=by
 intro G s Z H x y v u Q I f c h;obtain⟨d,e,hd,k,b,a,q⟩:=h;obtain⟨l,i⟩:=den_reads I d hd f;obtain⟨bs,g⟩:=den_reads I e k c;exact eq_dataH i g b a j ⟨.bl _,H,I,rfl,q⟩
theorem Na(j:X.A.units+64<cLine):jv X (compareOp .NotEq) (CB X.K true):=by
 intro G s Z H x y v u Q I f c h;obtain⟨d,e,hd,k,b,a,q⟩:=h;obtain⟨l,i⟩:=den_reads I d hd f;obtain⟨bs,g⟩:=den_reads I e k c;exact ne_dataH i g b a j ⟨.bl _,H,I,rfl,q⟩
theorem Nf(j:X.A.units+65<cLine):jv X (compareOp .In) (λx y H Q=>∃d xs,Den X.K H d x/\Den X.K H (.list xs) y/\SeqAt.shaped d=true/\SeqAt.shaped (.list xs)=true/\(∀z∈xs,SeqAt.noMix z d=true)/\Q (.bl (decide (countIn d xs≠0))) H):=by
 intro G s Z H x y v u Q I e c h;obtain⟨d,xs,hd,k,b,a,i,q⟩:=h;obtain⟨l,g⟩:=den_reads I d hd e;obtain⟨bs,f⟩:=den_reads I _ k c;exact in_list_dataH f g a b j i ⟨.bl _,H,I,rfl,q⟩
end
def SD(g:Bool):String:=cond g "max.loop" "min.loop"
def Qa(g:Bool):String:=cond g "max" "min"
def Ut(g:Bool):CmpOp:=cond g .Gt .Lt
theorem Ox:∀g,plainId (SD g)=true|false=>PySem.F.plain_min_loop|true=>PySem.F.plain_max_loop
theorem U5:∀g,entryFor table (SD g)=some (cond g Builtin.«max.loop» Builtin.«min.loop»)|false=>PySem.F.entry_min_loop|true=>PySem.F.entry_max_loop
theorem xmE:∀g,entryFor table (Qa g)=some (cond g Builtin.«max» Builtin.«min»)|false=>PySem.F.entry_min|true=>PySem.F.entry_max
theorem xmP:∀g,builtinKind (Qa g)=none/\plainId (Qa g)=true|false=>⟨PySem.F.kind_min,PySem.F.plain_min⟩|true=>⟨PySem.F.kind_max,PySem.F.plain_max⟩
theorem Jw(a d:Value):∀g,argsOk (Qa g) ⟨[a],[(Str.ofString "default",d)]⟩|false=>by unfold argsOk;kernel_rfl|true=>by unfold argsOk;kernel_rfl
theorem Ug:(toString "min" ++ toString ".loop" : String)=SD false:=by decide
theorem Uf:(toString "max" ++ toString ".loop" : String)=SD true:=by decide
section
variable{prog:Program}{w:World}{A:Around}{R:Result->Shared->Prop}{I:Addr}{fp wr:List Addr}{n:Nat}{P:Nat->Value->Prop}{St:Nat->Heap->Prop}
theorem Fl(g:Bool)(W:Walks prog w A.in1 I fp wr n P St)(T:List (Str×Value))(x:Nat->Nat->Bool)(S:Addr)(L:S∉fp)(G:Shared->Prop)
 (N:∀(s:Shared) h' l,G s->(∀b o,b∉wr->b≠S->s.heap.get? b=some o->h'.get? b=some o)->G {s with heap:=h',toks:=l})
 (F:∀i j J H (s:Shared) (Q:T1) (E:T1),G s->P i J->P j H->Q (.bool (x i j)) s->wpAny (model prog w) A.in1 (richCompare (Ut g) J H) Q E s):∀(k j:Nat) (s:Shared) (h:Value) (c:Nat),
 n-(j+1)=k->j+1<=n->G s->St (j+1) s.heap->P (argBest x j) h->s.heap.get? S=some {cls:=.type "list",dict:=none,data:=.seq #[h,h] c,slots:=#[]}->
 (∀v h' l,P (argBest x (n-1)) v->(∀b o,b∉wr->b≠S->s.heap.get? b=some o->h'.get? b=some o)->R (.ok (.ret v)) {s with heap:=h',toks:=l})->
 codeAny (model prog w) A (.builtin (SD g) ⟨[.ref I,.none,.ref S],T⟩) R s:=by
 have K:S∉wr:=λz=>L (W.sub _ z);cases g
 all_goals
  intro k
  induction k with
  |zero=>
    intro j s h c e1 V g st C B p;refine WS (U5 _) ?_;rw[Wt (Ox _) _];refine Vp (m:=seqItems? (.ref S)) (wpAny_seqItems B rfl ?_);refine Vp (m:=tryCatch (pyNext (.ref I)) _) (Xo (W.done s _ _ ((show j+1=n by omega)▸st) λh' l kp=>?_));refine Vp (m:=updateSeq S (λ_=>#[])) ?_;refine Yr (kp S _ K B) rfl (Vp (Xz (Vz ?_)));exact p h _ l (by rw[show n-1=j by omega];exact C) λb o f q e=>(V0 _ _ (WZ q)).trans (kp b o f e)
  |succ k M=>
    intro j s h c e1 V g st C B p;have lt:j+1<n:=by omega
    refine WS (U5 _) ?_;rw[Wt (Ox _) _];refine Vp (m:=seqItems? (.ref S)) (wpAny_seqItems B rfl ?_);refine Vp (m:=tryCatch (pyNext (.ref I)) _) (Xo (W.item (j+1) s _ _ lt st λv h' l pv y kp=>?_));have t:=kp S _ K B;have g':G {s with heap:=h',toks:=l}:=N s h' l g λb o f _ e=>kp b o f e;refine Vp (m:=tryCatch (holding [v,v] (richCompare _ v h >>= _)) _) (Xo (WW (Vp (F (j+1) (argBest x j) v h _ _ _ g' pv C ?_))));refine Vp (WW (WT (Vp (Xz (Vz ?_)))));cases O:x (j+1) (argBest x j) with
    |true=>
      rw[Vo rfl];refine Vp ?_;refine Yr t rfl (Vp (Xz ?_))
      first | rw[Ug] | rw[Uf]
      refine Vz ⟨WX (Ox _) _,M (j+1) _ v _ (by omega) lt (N _ _ l g' λb o f q e=>(V0 _ _ (WZ q)).trans e) (W.frame _ _ _ y λb U o e=>?_) (by simp only[argBest,O,XW];exact pv) (V4 _ t rfl) λD u a r d=>?_⟩
      ·exact(V0 _ _ (λz:S=b=>L (by rw[z];exact U))).trans e
      ·exact p D u a r λb o f q e=>d b o f q ((V0 _ _ (WZ q)).trans (kp b o f e))
    |false=>
      rw[on VC];refine Vp (Xz ?_)
      first | rw[Ug] | rw[Uf]
      exact Vz ⟨WX (Ox _) _,M (j+1) _ h c (by omega) lt g' y (by simp only[argBest,O,W3,Yg];exact C) t λD u a r d=>p D u a r λb o f q e=>d b o f q (kp b o f e)⟩
end
section
variable{prog:Program}{w:World}{A:Around}{E:T1}{s:Shared}
theorem vv(g:Bool){x d:Value}{Q:T1}
 (h:wpAny (model prog w) A.in1 (pyIter x) (λN a=>∃I u f n P St y,∃G:Shared->Prop,N=.ref I/\Walks prog w A.in1 I u f n P St/\St 0 a.heap/\(∀b∈u,b<a.heap.objs.size)/\
   G a/\(∀(s:Shared) h' c,G s->(∀b o,b∉f->b≠a.heap.objs.size->s.heap.get? b=some o->h'.get? b=some o)->G {s with heap:=h',toks:=c})/\
   (∀i j L K (s:Shared) (Q:T1) (E:T1),G s->P i L->P j K->Q (.bool (y i j)) s->wpAny (model prog w) A.in1 (richCompare (Ut g) L K) Q E s)/\
   (n=0->∀h' c,(∀b o,b∉f->a.heap.get? b=some o->h'.get? b=some o)->Q d {a with heap:=h',toks:=c})/\
   (0<n->∀v h' c,P (argBest y (n-1)) v->(∀b o,b∉f->a.heap.get? b=some o->h'.get? b=some o)->Q v {a with heap:=h',toks:=c})) E s):
 wpAny (model prog w) A (call (.builtin (Qa g)) [x] [(Str.ofString "default",d)]) Q E s:=by
 cases g
 all_goals
  refine kmk_tree (xmP _).1 (xmP _).2 (xmE _) (Jw _ _ _) ?_;refine Vp (m:=Builtin.Builtins.bindParams _ ["key","default"] 0 ⟨[],[(Str.ofString "default",d)]⟩) (wpAny_of_eq (show _=pure [none,some d] from rfl) ?_);refine Vp (Vz (Vp (Xw h (λN a t=>?_) λ_ _ e=>e)));obtain⟨I,u,f,n,P,St,y,G,rfl,W,st,lts,Y,O,J,T,S⟩:=t;refine Vp (XY ?_);have D:a.heap.objs.size∉u:=λz=>Wo _ (lts _ z);have U:a.heap.objs.size∉f:=λz=>D (W.sub _ z)
  first | rw[Ug] | rw[Uf]
  have p:=W.frame _ _ (a.heap.push {cls:=.type "list",dict:=none,data:=.seq ([]:List Value).toArray}) st λb _ o e=>Vv _ e;have M:(a.heap.push {cls:=.type "list",dict:=none,data:=.seq ([]:List Value).toArray}).get? a.heap.objs.size=some {cls:=.type "list",dict:=none,data:=.seq ([]:List Value).toArray}:=VO _ rfl;refine Vz ⟨WX (Ox _) _,WS (U5 _) ?_⟩;rw[Wt (Ox _) _];refine Vp (m:=seqItems? (.ref a.heap.objs.size)) (wpAny_seqItems M rfl ?_);by_cases F:n=0
  ·refine Vp (m:=tryCatch (pyNext (.ref I)) _) (Xo (W.done _ _ _ (F▸p) λh' c kp=>?_));refine Vp (m:=rule _) (wpAny_rule (Vz ?_));exact T F h' c λb o k e=>kp b o k (Vv _ e)
  · have lt:0<n:=Nat.pos_of_ne_zero F;refine Vp (m:=tryCatch (pyNext (.ref I)) _) (Xo (W.item 0 _ _ _ lt p λv h' c pv B kp=>?_));have q:=kp _ _ U M;refine Vp (m:=updateSeq a.heap.objs.size (λ_=>#[v,v])) ?_;refine Yr q rfl ?_
    first | rw[Ug] | rw[Uf]
    refine Vz ⟨WX (Ox _) _,Fl _ W _ y _ D G O J _ 0 _ v _ rfl lt (O a _ _ Y λb o k X e=>(V0 _ _ (WZ X)).trans (kp b o k (Vv _ e))) (W.frame _ _ _ B λb V o e=>?_) pv (V4 _ q rfl) λR H l C r=>?_⟩
    ·exact(V0 _ _ (λz:a.heap.objs.size=b=>D (by rw[z];exact V))).trans e
    ·exact S lt R H l C λb o k e=>r b o k (VY (VD e)) ((V0 _ _ (Nat.ne_of_gt (VD e))).trans (kp b o k (Vv _ e)))
end
def fE(X:Cx)(f:Value)(c:List Str)(r:List V->List V->Hp->VK->Prop):Prop:=
 ∀(G:P4) (s:Shared) (Z:St) (H:Hp) (xs a:List V) (us b:List Value) (Q:VK),Inv X G Z H s->Vals xs us->Vals a b->r xs a H Q->
  wpAny (model X.prog X.w) X.A (call f us (c.zip b)) (EP X G Z Q) X.xe s
def Aa(r:List V->List V->Hp->VK->Prop)(t b:TA):TE:=λZ H Q=>t Z H λvs H1=>b Z H1 λa c=>r vs a c Q
section
variable{X:Cx}{x:Str}{p pos:Pos}{e:Expr}{es:List Expr}{kws:List Keyword}{t tk:TA}{id:String}{ks:List Str}{r:List V->List V->Hp->VK->Prop}
theorem Aw(A:fE X (.builtin id) ks r)(y:Gl X x)(v:X.mg x=none)(q:bootBuiltins x=some (.builtin id))(B:PA X (e::es) t)(w:PK X kws tk)
 (c:(backToKw pos (keywordEach kws X.env)).filterMap (·.1)=ks:=by rfl) (u:x ≠ "__name__" := by decide) (f:(x==("__debug__" : Str))=false:=by decide)
 (z:backTo pos (starEach (e::es) X.env)=(false,eval e X.env)::backTo pos (starEach es X.env):=by rfl) (b:(backTo pos (starEach (e::es) X.env)).any (·.1)=false:=by rfl)
 (a:(backToKw pos (keywordEach kws X.env)).all (·.1.isSome)=true:=by rfl) (d:(backToKw pos (keywordEach kws X.env)).any (·.1.isNone)=false:=by rfl):
 PE X (.Call (.Name x p) (e::es) kws pos) (Aa r t tk):=by
 intro G s Z H Q I h;refine WM (kq I y v q ?_ u f);refine PyProof.Rows.callWith_kw (a7 (B pos G s Z H _ I h) λus k ⟨vs,H1,D,m,o⟩=>a7 (w pos G k Z H1 _ D o) λi j ⟨g,E,C,l,n⟩=>?_) z b a d;rw[c];exact A G j Z E vs g us i Q C m l n
end
theorem dP:∀{ns:List Int} {us:List Value} {i:Nat} {u:Value},Vals (ns.map V.int) us->us[i]?=some u->∃t,u=.int (ns.getD i 0) t
 | [],us,i,u,r,e=>by
   cases r;cases e
 | n::ns,us,i,u,r,e=>by
   rw[Vq]at r;cases r with
   |cons b a=>
     cases i with
     |zero=>
       cases e;exact b
     |succ i=>
       show ∃t,u=.int (ns.getD i 0) t;exact dP (ns:=ns) (i:=i) a (by simpa using e)
theorem Pi{P:Program}{w:World}{A:Around}{R:Nat->Value->Prop}(v:Nat->Int)(h:∀i u,R i u->∃t,u=.int (v i) t):∀g,CmpOf P w A (Ut g) R (cond g (λi j=>decide (v i>v j)) λi j=>decide (v i<v j))|false=>CmpOf.ints_lt v h|true=>CmpOf.ints_gt v h
theorem Jr(v:Nat->Int)(k:Nat):∀g,argBest (cond g (λi j=>decide (v i>v j)) λi j=>decide (v i<v j)) k<=k/\∀j,j<=k->cond g (v j<=v (argBest (cond g (λi j=>decide (v i>v j)) λi j=>decide (v i<v j)) k)) (v (argBest (cond g (λi j=>decide (v i>v j)) λi j=>decide (v i<v j)) k)<=v j)|false=>argBest_lt v k|true=>argBest_gt v k
theorem vq(g:Bool){X:Cx}(U:X.calm=true):fE X (.builtin (Qa g)) ["default"] (λxs y H Q=>∃p ns d,xs=[.ref p]/\y=[d]/\SqL X.K H p (ns.map V.int)/\(ns=[]->Q d H)/\∀m∈ns,(∀x∈ns,cond g (x<=m) (m<=x))->Q (.int m) H):=by
 intro G s Z H xs y us ws Q I r J h;obtain⟨p,ns,d,rfl,rfl,S,N,M⟩:=h;obtain⟨u,rfl,L⟩:=Vals.one r;have l:u=Value.ref p:=L;subst l;obtain⟨dv,rfl,rd⟩:=Vals.one J;obtain⟨its,k,pl,hz⟩:=I.list S;have B:ns.length=its.length:=by rw[<-k.length,Vr]
 obtain⟨O,c,w,n⟩:=id pl.isList;have f:p<s.heap.objs.size:=VD c;refine vv g (Xn pl.isList ⟨s.heap.objs.size,_,_,_,_,_,_,λ_=>True,rfl,Walks.list (A:=X.A.in1) (I.ok.hd U) _ p (VY f) its.toArray,⟨⟨_,VO _ rfl,rfl,rfl⟩,⟨O,Vv _ c,w,n⟩⟩,λb W=>?_,trivial,λ_ _ _ _ _=>trivial,λi j D C s Q E _=>Pi (R:=λi v=>its.toArray[i]?=some v) (λi=>ns.getD i 0) (λi v e=>dP k (by simpa using e)) g i j D C s Q E,λe h' F kp=>?_,λe v h' F pv kp=>?_⟩)
 · rw[Xa];rcases VA.mp W with z|z
   ·rw[z];exact Xb _
   · have a:b=p:=by simpa using z
     rw[a];exact XX f
 · have Y:ns=[]:=VZ.mp (by rw[B];simpa using e);refine⟨d,H,I.kept λb o q=>kp b o (λz=>?_) (Vv _ q),rd,N Y⟩;have a:b=s.heap.objs.size:=by simpa using z
   exact absurd (VD q) (by rw[a];exact Wo _)
 · have e':0<its.length:=by simpa using e
   have e1:its.toArray.size-1=ns.length-1:=by rw[VE,B]
   rw[e1]at pv;obtain⟨b1,b2⟩:=Jr (λi=>ns.getD i 0) (ns.length-1) g;rw[Yw]at pv;obtain⟨t,rfl⟩:=dP k pv
   have up:∀i,i<ns.length->ns.getD i 0∈ns:=λi hi=>by
    rw[VL,VH hi];exact Yi hi
   refine⟨.int _,H,I.kept λb o q=>kp b o (λz=>?_) (Vv _ q),⟨t,rfl⟩,M _ (up _ (by omega)) λx P=>?_⟩
   · have a:b=s.heap.objs.size:=by simpa using z
     exact absurd (VD q) (by rw[a];exact Wo _)
   · obtain⟨j,T,rfl⟩:=XD P
     have:=b2 j (by omega)
     rwa [show ns.getD j 0=ns[j] by rw[VL,VH T];rfl]at this
theorem Bl{X:Cx}(b:X.calm=true):fE X (.builtin "min") ["default"] (λxs a H Q=>∃p ns d,xs=[.ref p]/\a=[d]/\SqL X.K H p (ns.map V.int)/\(ns=[]->Q d H)/\∀m∈ns,(∀x∈ns,m<=x)->Q (.int m) H):=vq false b
theorem Bm{X:Cx}(b:X.calm=true):fE X (.builtin "max") ["default"] (λxs a H Q=>∃p ns d,xs=[.ref p]/\a=[d]/\SqL X.K H p (ns.map V.int)/\(ns=[]->Q d H)/\∀m∈ns,(∀x∈ns,x<=m)->Q (.int m) H):=vq true b
def dd(ns:List Int):List Int:=ns.foldl step_dedup []
theorem wm(ns:List Int):(List.range ns.length).map (λi=>ns.getD i 0)=ns:=by
 apply XZ;intro i;rw[VN];by_cases h:i<ns.length
 ·rw[Xg h,VH h,W5,VL,VH h];rfl
 ·rw[VP (by rw[Xp];omega),VP (by omega)];rfl
theorem ul(ns:List Int):firstMet (λi=>ns.getD i 0) ns.length=dd ns:=by
 unfold firstMet dd;rw[wm]
theorem Lj:∀(ns acc:List Int),ns.Nodup->(∀x∈ns,x∉acc)->ns.foldl step_dedup acc=acc++ns
 |[],acc,_,_=>by rw[List.foldl_nil,V3]
 | n::r,acc,h,hd=>by
   have c:=VM.mp h
   have e:step_dedup acc n=acc++[n]:=by
    unfold step_dedup;rw[if_neg];intro z;obtain⟨y,d,e⟩:=List.any_eq_true.mp z;have a:y=n:=by simpa using e
    subst a;exact hd y Vt d
   rw[Xj,e,Lj r (acc++[n]) c.2 λx b z=>?_,Wk]
   ·rfl
   · rcases Vy.mp z with z|z
     ·exact hd x (Vu _ b) z
     · have a:x=n:=by simpa using z
       subst a;exact c.1 b
theorem Fo{ns:List Int}(h:ns.Nodup):dd ns=ns:=by
 unfold dd;rw[Lj ns [] h λ_ _ z=>nomatch z];rfl
section
variable{X:Cx}
theorem Bf(j:X.calm=true):dD X (.type "set") (λxs H Q=>∃p ns,xs=[.ref p]/\SqL X.K H p (ns.map V.int)/\ns.length<4000/\∀q,H q=none->Q (.ref q) (upd H q (.set (λk=>(dd ns).any (·==k)) (dd ns).length))):=by
 intro G s Z H xs us Q I r h;obtain⟨p,ns,rfl,i,n,q⟩:=h;obtain⟨u,rfl,g⟩:=Vals.one r;have a:u=Value.ref p:=g;subst a;obtain⟨its,c,pl,hz⟩:=I.list i;have d:its.length=ns.length:=by rw[<-c.length,Vr]
 refine PySem.call_set_list (ns:=ns) (I.ok.hd j) pl.isList (by simpa using wK c) (by rw[List.size_toArray,d];unfold scanBound;omega) λh' m f kp=>?_;have l:its.toArray.size=ns.length:=by rw[List.size_toArray,d]
 rw[l,ul]at f;exact⟨.ref s.heap.objs.size,_,I.laid (o:=.set _ _) (λb o e=>kp b o (VD e) e) (VG _) f,rfl,q _ (I.hok.fresh (VG _))⟩
theorem Bi:dD X (.builtin "len") (λxs H Q=>∃a S n,xs=[.ref a]/\H a=some (.set S n)/\Q (.int n) H):=by
 intro G s Z H xs us Q I r h;obtain⟨a,S,n,rfl,i,q⟩:=h;obtain⟨u,rfl,c⟩:=Vals.one r;have b:u=Value.ref a:=c;subst b;obtain⟨o,j,ep,t,d,hex,hd,_,_,g,f,e⟩:=(show s.heap.SetOf (intKind X.prog X.w) a S n from I.hok a _ i);refine call_len_set d hex hd f (Int.lt_of_lt_of_le (Int.ofNat_lt.mpr g) (by unfold scanBound;decide)) ?_;rw[e];exact⟨.int n,H,I.tok _,⟨_,rfl⟩,q⟩
end
def RawD(h:Heap)(d:Addr)(a:Array DictEntry)(ep:Nat):Prop:=∃o,h.get? d=some o/\o.ExactDict/\o.data=.dict a ep
section
variable{prog:Program}{w:World}{A:Around}{E:T1}{s:Shared}{d it:Addr}{es:Array DictEntry}{ep i:Nat}
theorem RawD.typeIs(x:RawD s.heap d es ep):s.TypeIs (.ref d) "dict" := by
 obtain⟨o,b,a,_⟩:=x;exact⟨o,b,a.1⟩
theorem tH{Q:T1}(c:(d==sysModules)=false)(x:RawD s.heap d es ep)
 (e:Q (.ref s.heap.objs.size) {s with heap:=s.heap.push {cls:=.type "dict_keyiterator",data:=.fields #[.ref d,.int 0 0,.int es.size 0,.int ep 0]}}):wpAny (model prog w) A (pyIter (.ref d)) Q E s:=by
 have a:=x.typeIs;obtain⟨o,b,f,hd⟩:=x;refine wpAny_pyIter_slot a PySem.F.slot_dict_iter (wpAny_call_entry PySem.F.slot_dict_iter a PySem.F.entry_dict_iter ?_ (PySem.F.args_dict_iter_1 _));unfold Builtin.«dict.__iter__» Builtin.Dict.dictSlotNone;refine wpAny_bind (wpAny_bind (wpAny_notOrdered_dict a (wpAny_pure ?_)));refine wpAny_bind (m:=Builtin.Dict.showsAll d) ?_;unfold Builtin.Dict.showsAll;rw[if_neg (by rw[c];exact Bool.false_ne_true)];refine wpAny_pure (wpAny_bind (wpAny_dictEntries b hd (wpAny_bind (wpAny_dictEpoch b hd ?_))));exact wpAny_bind (wpAny_newObj_type (wpAny_pure ⟨_,rfl, "dict_keyiterator",_,⟨_,Heap.get?_push_size _ rfl,rfl⟩,PySem.F.slot_dict_keyiterator_next.lookup,e⟩))
theorem tI{Q:Option Value->Shared->Prop}(a:s.heap.IsKeyIter it d i es.size ep)(x:RawD s.heap d es ep)(g:i<es.size)
 (j:∀h',h'.IsKeyIter it d (i+1) es.size ep->Heap.SameBut it s.heap h'->Q (some es[i].key) {s with heap:=h'}):wpAny (model prog w) A (pyNext (.ref it)) Q E s:=by
 obtain⟨o,f,h,hd⟩:=id a;obtain⟨k,c,_,e⟩:=id x;unfold pyNext;refine wpAny_bind (wpAny_attempt (wpAny_callSpecial?_slot (name:=Str.ofString "__next__") a.typeIs PySem.F.slot_dict_keyiterator_next (wpAny_call_entry PySem.F.slot_dict_keyiterator_next a.typeIs PySem.F.entry_dict_keyiterator_next ?_ (PySem.F.args_dict_keyiterator_next_1 _))));refine wpAny_bind (wpAny_pure (wpAny_bind (wpAny_bind ?_)))
 first | refine Vp (WD a.typeIs (Vz ?_)) | refine Vp (WY a.typeIs (Vz ?_))
 refine Vp (wpAny_fieldsOf f hd ?_);simp only[show Builtin.Dict_items.ownsTuple "dict_keyiterator" = false from by decide,W3,Yg];show wpAny _ _ (if (Value.ref d==Value.none)=true then _ else _) _ _ s;rw[on (show ¬ ((Value.ref d==Value.none)=true) from VC)];refine Vp (Vz (Vp (WU c e ?_)));rw[on (by simp)];refine Vp (Vz (Vp (Ys c e ?_)));rw[on (by simp)];refine Vz ?_;simp only[show ¬ ((i:Int)<0) from by omega,Yg,Int.toNat_natCast,Wx g];refine Vp ?_
 first | refine Vp (WD a.typeIs (Vz ?_)) | refine Vp (WY a.typeIs (Vz ?_))
 refine Vp (wpAny_isOneOf_keyiter a.typeIs ?_);refine Vp (m:=setField (.ref it) 1 (rawInt ((i:Int)+1))) (wpAny_setField f hd (by simp) ?_)
 have b:(s.heap.update it (Obj.mapFields (·.setIfInBounds 1 (rawInt ((i:Int)+1))))).IsKeyIter it d (i+1) es.size ep:=
  ⟨_,V4 _ f (Obj.isFreed_of_fields (Obj.data_mapFields hd _)),(Obj.cls_mapFields ..).trans h,by rw[Obj.data_mapFields hd];simp[rawInt]⟩
 refine Vp (WW ?_);refine Vp (wpAny_isOneOf_keyiter (s:={s with heap:=s.heap.update it (Obj.mapFields (·.setIfInBounds 1 (rawInt ((i:Int)+1))))}) b.typeIs ?_);exact Vz (Vz ⟨_,rfl,Vz (j _ b (Xh ..))⟩)
theorem yt{Q:Option Value->Shared->Prop}(h:A.handled=none)(c:s.heap.IsKeyIter it d es.size es.size ep)(x:RawD s.heap d es ep)
 (i:∀h',Heap.ExtBut it s.heap h'->Q none {s with heap:=h'}):wpAny (model prog w) A (pyNext (.ref it)) Q E s:=by
 obtain⟨o,g,k,hd⟩:=id c;obtain⟨j,e,_,f⟩:=id x;unfold pyNext;refine wpAny_bind (wpAny_attempt (wpAny_callSpecial?_slot (name:=Str.ofString "__next__") c.typeIs PySem.F.slot_dict_keyiterator_next (wpAny_call_entry PySem.F.slot_dict_keyiterator_next c.typeIs PySem.F.entry_dict_keyiterator_next ?_ (PySem.F.args_dict_keyiterator_next_1 _))));refine wpAny_bind (wpAny_pure (wpAny_bind (wpAny_bind ?_)))
 first | refine Vp (WD c.typeIs (Vz ?_)) | refine Vp (WY c.typeIs (Vz ?_))
 refine Vp (wpAny_fieldsOf g hd ?_);simp only[show Builtin.Dict_items.ownsTuple "dict_keyiterator" = false from by decide,W3,Yg];show wpAny _ _ (if (Value.ref d==Value.none)=true then _ else _) _ _ s;rw[on (show ¬ ((Value.ref d==Value.none)=true) from VC)];refine Vp (Vz (Vp (WU e f ?_)));rw[on (by simp)];refine Vp (Vz (Vp (Ys e f ?_)));rw[on (by simp)];refine Vz ?_;simp only[show ¬ ((es.size:Int)<0) from by omega,Yg,Int.toNat_natCast,Array.getElem?_eq_none (VG _)];refine Vp ?_
 first | refine Vp (WD c.typeIs (Vz ?_)) | refine Vp (WY c.typeIs (Vz ?_))
 refine Vp (m:=setField (.ref it) 0 .none) (wpAny_setField g hd (by simp) ?_);refine Vp (m:=newExc (.type "StopIteration") []) ?_;simp only[newExc,newTuple];refine Vp (XY ?_ (by size_fits));refine Vp (m:=firstArgMember _ _) (wpAny_of_eq (a:=Value.none) (by first | rfl | (simp only[firstArgMember];rfl)) ?_);refine XY ?_ (by size_fits);simp only[raiseNew];refine Vp (wpAny_handled ?_);rw[show A.in1.handled=none from h];refine Vp (Vz (wpAny_throw ?_));refine Vp (wpAny_isInstance (T := "StopIteration") (b:=true) ⟨_,VO _ rfl,rfl⟩ isSubtype_stop ?_);exact Vz (i _ (((Xh ..).extBut.push _).push _))
theorem Al(n:A.handled=none)(I d:Addr)(k:d≠I)(es:Array DictEntry)(ep:Nat):
 Walks prog w A I [I,d] [I] es.size (λi v=>∃e,es[i]?=some e/\v=e.key) (λi h=>h.IsKeyIter I d i es.size ep/\RawD h d es ep) where
 sub:=λb f=>by
  have e:b=I:=by simpa using f
  rw[e];exact Vt
 frame:=λ_ _ _ st m=>⟨st.1.at λo e=>m I (by simp) o e,let ⟨o,j,r⟩:=st.2;⟨o,m d (by simp) o j,r⟩⟩
 item:=λi s Q E hi st g=>tI st.1 st.2 hi λh' c a=>by
  obtain⟨o,j,r⟩:=st.2;exact g _ h' s.toks ⟨es[i],Wx hi,rfl⟩ ⟨c,o,a.extBut d o k j,r⟩ λb o f e=>a.extBut b o (λz=>f (by simp[z])) e
 done:=λs Q E st g=>yt n st.1 st.2 λh' l=>g h' s.toks λb o f e=>l b o (λz=>f (by simp[z])) e
 self:=λ_ _ _ _ st g=>wpAny_pyIter_keyiter st.1 g
theorem Hk(lo:(d==sysModules)=false):PySem.W.KdlSrc prog w "dict" d d es.size (λi v=>∃e,es[i]?=some e/\v=e.key) (λh=>RawD h d es ep) where
 type:=λ_ x=>x.typeIs
 there:=λ_ x=>let ⟨_,a,_⟩:=x;⟨VD a,VD a⟩
 keep:=λ_ _ x c=>let ⟨o,a,r⟩:=x;⟨o,c d (.inl rfl) o a,r⟩
 notList:=by decide
 notTuple:=by decide
 hint:=λ_ _ _ _ x b=>PySem.W.kdl_hint_dict x.typeIs b
 iter:=λ_ _ f x=>⟨_,_,(λ_ _ b=>tH lo x b),Al f _ d (let ⟨_,a,_⟩:=x;VY (VD a)) es ep,⟨⟨_,VO _ rfl,rfl,rfl⟩,let ⟨o,a,r⟩:=x;⟨o,Vv _ a,r⟩⟩⟩
end
theorem pS{P:Program}{w:World}{x:List az×Addr×Value}:(entryOfKey (tupleKind (aq P w)) x).key=.ref x.2.1:=rfl
theorem xt{X:Cx}(U:X.calm=true):dD X (.type "list") (λxs H Q=>∃a kvs,xs=[.ref a]/\Rd H a (.dT kvs)/\
 ∀(J:List Addr) (l:Addr),J.length=kvs.length->(∀(i:Nat) k v b,kvs[i]?=some (k,v)->J[i]?=some b->H b=some (.tup (k.map kV)))->H l=none->Q (.ref l) (upd H l (.lst (J.map V.ref)))):=by
 intro G s Z H xs us Q I r h;obtain⟨a,kvs,rfl,Y,q⟩:=h;obtain⟨u,rfl,N⟩:=Vals.one r;have E:u=Value.ref a:=N;subst E;obtain⟨z,hd,ys,n,o,L,ep,R,O,D,B,S⟩:=(show ObjOk X.prog X.w H s.heap a (.dT kvs) from Y.ok I.hok);have d:kvs.length=ys.length:=WV n
 have g:L.size=ys.length:=by
  have e:=congrArg List.length B
  rwa [Vr,Wi]at e
 refine PySem.W.kdl_call (Hk hd) (I.ok.hd U) ⟨o,R,O,D⟩ (by rw[g,<-d];exact z) λh' tk c c' kp hD f=>?_
 have keys:c.toList=(ys.map λy=>y.2.1).map Value.ref:=by
  apply XZ;intro i;rw[VN,VN];cases m:ys[i]? with
  |none=>
    have hi:ys.length<=i:=WP.mp m;rw[VP (by rw[Wi,f.1];omega)];rfl
  |some y=>
    have hi:i<ys.length:=(VI.mp m).1;have A:i<c.size:=by rw[f.1,g];exact hi
    obtain⟨e,T,P⟩:=f.2 i c[i] (Wx A);have C:L.toList[i]?=some e:=by rw[W7];exact T
    rw[B,VN,m]at C;have ee:entryOfKey (tupleKind (aq X.prog X.w)) y=e:=VQ C;rw[W7,Wx A,P,<-ee,pS];rfl
 have M:∀l:List Addr,Vals (l.map V.ref) (l.map Value.ref):=λl=>by
  induction l with
  |nil=>exact .nil
  |cons x t K=>exact .cons rfl K
 refine⟨.ref s.heap.objs.size,_,I.laid kp (VG _) ?_,rfl,q (ys.map λy=>y.2.1) _ (by rw[Vr];exact d.symm) (λi k v b e1 j=>?_) (I.hok.fresh (VG _))⟩
 ·refine⟨by rw[Vr,Vr,<-d];exact z,c.toList,c',by rw[keys];exact M _,?_⟩;rw[Array.toArray_toList];exact hD
 · rw[VN]at j;cases m:ys[i]? with
   |none=>rw[m]at j;cases j
   |some y=>
     rw[m]at j;have eb:y.2.1=b:=VQ j
     have pr:∀{F:List (List az×V)} {l2:List (List az×Addr×Value)},Paired (λ(p:List az×V) (q:List az×Addr×Value)=>p.1=q.1/\H q.2.1=some (.tup (p.1.map kV))/\RelV p.2 q.2.2) F l2->
      ∀{i:Nat} {p q},F[i]?=some p->l2[i]?=some q->H q.2.1=some (.tup (p.1.map kV)):=by
      intro F l2 hp
      induction hp with
      |nil=>intro i p q e;cases e
      |cons h1 _ K=>
        intro i p q e1 j;cases i with
        |zero=>cases e1;cases j;exact h1.2.1
        |succ i=>exact K e1 j
     rw[<-eb];exact pr n e1 m
end L2
namespace HT
open PySem PyProof.Rows
open PySem.SeqAt
open PySem.AutoSeq1 (wpAny_loadPart')
open PySem.MeetsSeq PySem.MeetsSeq2 PySem.MeetsSeq3 PySem.SeqRoads2
def LtAt(A:Around)(s:Shared)(y x:Value)(b:Bool):Prop:=
 ∀(prog:Program) (w:World) (E:T1) (Q:T1),Q (.bool b) s->wpAny (model prog w) A (richCompare .Lt y x) Q E s
def gp(p:Nat->Bool×Bool)(t:Bool):Nat->Nat->Bool
 |0,_=>t
 |k+1,i=>if (p i).1=true then gp p t k (i+1) else (p i).2
theorem wH(l b:Addr)(items items2:Array Value)(n n2:Nat)(dd dd2:Option Addr)(sl sl2:Array (Option Value))(p:Nat->Bool×Bool)(k:Nat):
 ∀i:Nat,min items.size items2.size-i=k->i<=min items.size items2.size->Meets (Builtin.«list.__eq__.loop» ⟨[.ref l,.ref b,rawInt i,rawInt 0],[]⟩)
  (λA R s=>s.heap.get? l=some {cls:=.type "list",dict:=dd,data:=.seq items n,slots:=sl}/\s.heap.get? b=some {cls:=.type "list",dict:=dd2,data:=.seq items2 n2,slots:=sl2}/\
    (∀j (h1:j<items.size) (h2:j<items2.size),EqAt A.in1 s items[j] items2[j] (p j).1/\((p j).1=false->LtAt A.in1 s items[j] items2[j] (p j).2))/\
    R (.ok (.ret (.bool (gp p (decide (items.size<items2.size)) k i)))) s):=by
 induction k with
 |zero=>
   intro i hk hi prog w A R s h;obtain⟨hp,g,d,tk,os⟩:=s;obtain⟨hl,hb,he,h⟩:=h
   wp_walk using wpAny_loadPart' hl,wpAny_loadPart' hb
   by_cases hlt:i<items.size
   · have hi1:items[((i:Nat):Int).toNat]?=some items[i]:=by simp[hlt]
     have hi2:items2[((i:Nat):Int).toNat]?=none:=by simp;omega
     rw[hi1,hi2]
     wp_walk using wpAny_loadPart' hl,wpAny_loadPart' hb
     exact h
   · have hi1:items[((i:Nat):Int).toNat]?=none:=by simp;omega
     rw[hi1]
     wp_walk using wpAny_loadPart' hl,wpAny_loadPart' hb
     exact h
 |succ k ih=>
   intro i hk hi prog w A R s h;obtain⟨hp,g,d,tk,os⟩:=s;obtain⟨hl,hb,he,h⟩:=h
   wp_walk using wpAny_loadPart' hl,wpAny_loadPart' hb
   have hlt:i<items.size:=by omega
   have hlt2:i<items2.size:=by omega
   have hi1:items[((i:Nat):Int).toNat]?=some items[i]:=by simp[hlt]
   have hi2:items2[((i:Nat):Int).toNat]?=some items2[i]:=by simp[hlt2]
   have hc:((i:Int)+1)=((i+1:Nat):Int):=by push_cast;rfl
   rw[hi1,hi2];obtain⟨e1,e2⟩:=he i hlt hlt2;refine Vp (e1 prog w _ _ ?_);cases hb':(p i).1 with
   |true=>
     rw[gp,hb',Vo rfl]at h
     wp_walk
     rw[hc]
     exact⟨WX plain_eq_loop _,WS entry_eq_loop (by
      rw[Wt plain_eq_loop _]
      exact ih (i+1) (by omega) (by omega) prog w A R _ ⟨hl,hb,he,h⟩)⟩
   |false=>
     rw[gp,hb',on VC]at h
     wp_walk using wpAny_loadPart' hl,wpAny_loadPart' hb
     rw[hi1,hi2];have e3:=e2 hb' prog w
     wp_walk using e3
     exact h
theorem AN(l b:Addr)(items items2:Array Value)(n n2:Nat)(dd dd2:Option Addr)(sl sl2:Array (Option Value))(p:Nat->Bool×Bool):
 Meets (Builtin.«list.__lt__» ⟨[.ref l,.ref b],[]⟩)
  (λA R s=>s.heap.get? l=some {cls:=.type "list",dict:=dd,data:=.seq items n,slots:=sl}/\s.heap.get? b=some {cls:=.type "list",dict:=dd2,data:=.seq items2 n2,slots:=sl2}/\
    (∀j (h1:j<items.size) (h2:j<items2.size),EqAt A.in1 s items[j] items2[j] (p j).1/\((p j).1=false->LtAt A.in1 s items[j] items2[j] (p j).2))/\
    R (.ok (.ret (.bool (gp p (decide (items.size<items2.size)) (min items.size items2.size) 0)))) s):=by
 intro prog w A R s h;obtain⟨hp,g,d,tk,os⟩:=s;obtain⟨hl,hb,he,h⟩:=h;have f3:=AutoSeq1.sub_list_list
 wp_walk using wpAny_loadPart' hl,wpAny_loadPart' hb
 exact⟨WX plain_eq_loop _,WS entry_eq_loop (by
  rw[Wt plain_eq_loop _]
  exact wH l b items items2 n n2 dd dd2 sl sl2 p _ 0 rfl (Wr _) prog w A R _ ⟨hl,hb,he,h⟩)⟩
theorem LtAt.int_int{A:Around}{s:Shared}(a:Int)(t:Tok)(c:Int)(u:Tok):LtAt A s (.int a t) (.int c u) (decide (a<c)):=λprog w E Q h=>Cw A s a t c u prog w E Q h
theorem LtAt.lists{A:Around}{s:Shared}{l b:Addr}{c a:Array Value}{p:Nat->Bool×Bool}(u:s.heap.IsList l c)(y:s.heap.IsList b a)(t:A.units<cLine)
 (v:∀j (B:j<c.size) (z:j<a.size),EqAt A.in1 s c[j] a[j] (p j).1/\((p j).1=false->LtAt A.in1 s c[j] a[j] (p j).2)):
 LtAt A s (.ref l) (.ref b) (gp p (decide (c.size<a.size)) (min c.size a.size) 0):=λprog w E Q h=>by
 obtain⟨⟨cls,dd,data,q⟩,k,m,n,hd⟩:=id u;obtain⟨⟨o,i,data2,g⟩,d,f,r,e⟩:=id y;simp only at m hd f e;subst m hd f e
 exact richCompare_meets_room (op:= .Lt) ⟨_,k,rfl⟩ ⟨_,d,rfl⟩ PySem.F.slot_list_lt PySem.F.entry_list_lt (PySem.F.args_list_lt_2 _ _) (AN l b c a n r dd i q g p)
  ⟨k,d,v,show Value.bool (gp p (decide (c.size<a.size)) (min c.size a.size) 0)≠Value.notImplemented/\Q (.bool (gp p (decide (c.size<a.size)) (min c.size a.size) 0)) s from⟨(λx=>nomatch x),h⟩⟩ t
theorem pM:∀(ns ms:List Int) (i:Nat) (f:Nat->Bool×Bool) (t:Bool),(∀j,j<min ns.length ms.length->f (i+j)=(decide (ns.getD j 0=ms.getD j 0),decide (ns.getD j 0<ms.getD j 0)))->t=decide (ns.length<ms.length)->
 gp f t (min ns.length ms.length) i=jG ns ms
 |[],[],i,f,t,h,e=>by rw[e];rfl
 | [],m::ms,i,f,t,h,e=>by
   rw[e];show decide (0<(m::ms).length)=true;simp
 | n::ns,[],i,f,t,h,e=>by
   rw[e];show decide ((n::ns).length<0)=false;simp
 | n::ns,m::ms,i,f,t,h,e=>by
   have e1:min (n::ns).length (m::ms).length=min ns.length ms.length+1:=by
    rw[Vx,Vx];omega
   rw[e1,gp,mG];have h0:=h 0 (by rw[e1];omega);rw[Nat.add_zero]at h0;have a:f i=(decide (n=m),decide (n<m)):=h0;rw[a];by_cases q:n=m
   · rw[Vo (by simpa using q),Vo q]
     exact pM ns ms (i+1) f t (λj b=>by
      have:=h (j+1) (by rw[e1];omega)
      rw[show i+1+j=i+(j+1) by omega,this]
      rfl) (by rw[e];simp)
   ·rw[on (by simpa using q),on q]
def yP(a b:Int)(xs:List Int)(c d:Int)(ys:List Int):Bool:=if a=c then (if b=d then jG xs ys else decide (b<d)) else decide (a<c)
theorem vN(l b:Addr)(items items2:Array Value)(n n2:Nat)(dd dd2:Option Addr)(sl sl2:Array (Option Value))(p:Nat->Bool×Bool):
 Meets (Builtin.«tuple.__lt__» ⟨[.ref l,.ref b],[]⟩)
  (λA R s=>s.heap.get? l=some {cls:=.type "tuple",dict:=dd,data:=.seq items n,slots:=sl}/\s.heap.get? b=some {cls:=.type "tuple",dict:=dd2,data:=.seq items2 n2,slots:=sl2}/\
    (∀j (h1:j<items.size) (h2:j<items2.size),EqAt A.in1 s items[j] items2[j] (p j).1/\((p j).1=false->LtAt A.in1 s items[j] items2[j] (p j).2))/\
    R (.ok (.ret (.bool (gp p (decide (items.size<items2.size)) (min items.size items2.size) 0)))) s):=
 .of_wp λprog w A R s h=>by
  obtain⟨hp,g,d,tk,os⟩:=s;obtain⟨hl,hb,he,h⟩:=h;have f2:=AutoSeq1.sub_tuple_tuple;have zl:(items.toList.zip items2.toList).length=min items.size items2.size:=by rw[List.length_zip,Wi,Wi]
  wp_walk using wpAny_loadPart' hl,wpAny_loadPart' hb,wpAny_forIn_list _ (λaY b s'=>b.1=none/\s'=⟨hp,g,d,tk,os⟩/\∃i,i<=min items.size items2.size/\aY=(items.toList.zip items2.toList).drop i/\
   R (.ok (.ret (.bool (gp p (decide (items.size<items2.size)) (min items.size items2.size-i) i)))) ⟨hp,g,d,tk,os⟩) _
  case turn=>
   rintro⟨y,x⟩ aY b s' ⟨hb',rfl,i,hi,hz,hR⟩
   have hlt:i<min items.size items2.size:=by
    rcases Nat.lt_or_ge i (min items.size items2.size) with q|q
    ·exact q
    ·rw[Yo (by rw[zl];exact q)]at hz;cases hz
   have h1:i<items.size:=by omega
   have h2:i<items2.size:=by omega
   rw[Xf (by rw[zl];exact hlt)]at hz;injection hz with hyx hrest
   rw[List.getElem_zip,YE,YE]at hyx;injection hyx with hy hx
   subst hy hx;obtain⟨e1,e2⟩:=he i h1 h2;rw[show min items.size items2.size-i=(min items.size items2.size-(i+1))+1 by omega,gp]at hR;refine Vp (e1 prog w _ _ ?_);cases eb:(p i).1 with
   |true=>
     rw[eb,Vo rfl]at hR
     wp_walk
     exact⟨rfl,rfl,i+1,by omega,hrest,hR⟩
   |false=>
     rw[eb,on VC]at hR;have e3:=e2 eb prog w
     wp_walk using e3
     exact⟨_,rfl,by simpa using hR⟩
  case fin=>
   rintro⟨b1,b2⟩ s' ⟨hb',rfl,i,hi,hz,hR⟩;simp only at hb';subst hb'
   have hge:min items.size items2.size<=i:=by
    rcases Nat.lt_or_ge i (min items.size items2.size) with q|q
    ·rw[Xf (by rw[zl];exact q)]at hz;cases hz
    ·exact q
   rw[show min items.size items2.size-i=0 by omega,gp]at hR
   wp_walk
   exact⟨_,rfl,by simpa [Builtin.Tuple.tupleCompareSizes] using hR⟩
  case h=>
   exact⟨rfl,rfl,0,Wr _,rfl,h⟩
theorem LtAt.tuples{A:Around}{s:Shared}{l b:Addr}{c a:Array Value}{p:Nat->Bool×Bool}(u:s.heap.IsTuple l c)(y:s.heap.IsTuple b a)(t:A.units<cLine)
 (v:∀j (B:j<c.size) (z:j<a.size),EqAt A.in1 s c[j] a[j] (p j).1/\((p j).1=false->LtAt A.in1 s c[j] a[j] (p j).2)):
 LtAt A s (.ref l) (.ref b) (gp p (decide (c.size<a.size)) (min c.size a.size) 0):=λprog w E Q h=>by
 obtain⟨⟨cls,dd,data,q⟩,k,m,n,hd⟩:=id u;obtain⟨⟨o,i,data2,g⟩,d,f,r,e⟩:=id y;simp only at m hd f e;subst m hd f e
 exact richCompare_meets_room (op:= .Lt) ⟨_,k,rfl⟩ ⟨_,d,rfl⟩ PySem.F.slot_tuple_lt PySem.F.entry_tuple_lt (PySem.F.args_tuple_lt_2 _ _) (vN l b c a n r dd i q g p)
  ⟨k,d,v,show Value.bool (gp p (decide (c.size<a.size)) (min c.size a.size) 0)≠Value.notImplemented/\Q (.bool (gp p (decide (c.size<a.size)) (min c.size a.size) 0)) s from⟨(λx=>nomatch x),h⟩⟩ t
end HT
namespace L2
open PySem PySem.Spec PyProof.Rows
theorem mF:∀xs:List Int,HT.jG xs xs=false
 |[]=>rfl
 |x::xs=>by rw[HT.mG,Vo rfl,mF xs]
section
variable{X:Cx}{G:P4}{Z:St}{H:Hp}{s:Shared}
theorem AX{A:Around}{a b:Addr}{ns ms:List Int}(I:Inv X G Z H s)(k:SqL X.K H a (ns.map V.int))(h:SqL X.K H b (ms.map V.int))(r:A.units+64<cLine):
 SeqAt.EqAt A s (.ref a) (.ref b) (decide (ns=ms))/\HT.LtAt A s (.ref a) (.ref b) (HT.jG ns ms):=by
 constructor
 ·obtain⟨w,o⟩:=den_reads I _ (uz k) (show RelV (.ref a) (.ref a) from rfl);obtain⟨bs,n⟩:=den_reads I _ (uz h) (show RelV (.ref b) (.ref b) from rfl);rw[<-E7];exact SeqAt.eqAt_reads _ _ A s _ _ w bs o n (W4 (XE ns)) (W4 (XE ms)) (SeqAt.room_of_shaped (XE ns) r)
 · obtain⟨its,g,pl,_⟩:=I.list k;obtain⟨c,d,f,_⟩:=I.list h;have q:its.toArray.size=ns.length:=by rw[VE,<-g.length,Vr]
   have l2:c.toArray.size=ms.length:=by rw[VE,<-d.length,Vr]
   have e:=HT.LtAt.lists (A:=A) (p:=λj=>(decide (ns.getD j 0=ms.getD j 0),decide (ns.getD j 0<ms.getD j 0))) pl.isList f.isList (by omega) (λj m l=>?_)
   ·rw[q,l2,HT.pM ns ms 0 _ _ (λj _=>by rw[Nat.zero_add]) rfl]at e;exact e
   · obtain⟨t,e1⟩:=dP g (i:=j) (u:=its.toArray[j]) (by simp at m;simp[m]);obtain⟨u,v⟩:=dP d (i:=j) (u:=c.toArray[j]) (by simp at l;simp[l]);rw[e1,v];refine⟨?_,λ_=>HT.LtAt.int_int _ _ _ _⟩
     have:=SeqAt.EqAt.int_int (A:=A.in1) (s:=s) (ns.getD j 0) t (ms.getD j 0) u
     rwa [show(ns.getD j 0==ms.getD j 0)=decide (ns.getD j 0=ms.getD j 0) from Xv _ _]at this
theorem Ou{A:Around}{p q:Addr}{a b c d:Int}{l m:Addr}{xs ys:List Int}(O:A.units+100<cLine)(I:Inv X G Z H s)(hp:SqT X.K H p [.int a,.int b,.ref l])(L:SqT X.K H q [.int c,.int d,.ref m])(N:SqL X.K H l (xs.map V.int))(M:SqL X.K H m (ys.map V.int)):
 HT.LtAt A s (.ref p) (.ref q) (HT.yP a b xs c d ys):=by
 obtain⟨its,g,B,_⟩:=I.tuple hp;obtain⟨w,f,z,_⟩:=I.tuple L;cases g with|cons F g=>cases g with|cons E g=>cases g with|cons D g=>
 cases g;cases f with|cons rc f=>cases f with|cons rd f=>cases f with|cons C f=>
 cases f;obtain⟨ta,rfl⟩:=F;obtain⟨tb,rfl⟩:=E;obtain⟨tc,rfl⟩:=rc;obtain⟨v,rfl⟩:=rd;obtain rfl:_=Value.ref l:=D;obtain rfl:_=Value.ref m:=C;have o:A.in1.units+64<cLine:=by show A.units+1+64<cLine;omega
 obtain⟨el,J⟩:=AX (A:=A.in1) I N M o
 have y:∀(i j:Int) (t u:Tok),SeqAt.EqAt A.in1 s (.int i t) (.int j u) (decide (i=j)):=λi j t u=>by
  have:=SeqAt.EqAt.int_int (A:=A.in1) (s:=s) i t j u
  rwa [show(i==j)=decide (i=j) from Xv _ _]at this
 have n:=HT.LtAt.tuples (A:=A) (s:=s) (p:=λj=>if j=0 then (decide (a=c),decide (a<c)) else if j=1 then (decide (b=d),decide (b<d)) else (decide (xs=ys),HT.jG xs ys)) B z (by omega) (λj h k=>by
  have r:j<3:=h
  match j,r with
  |0,_=>exact⟨y a c ta tc,λ_=>HT.LtAt.int_int a ta c tc⟩
  |1,_=>exact⟨y b d tb v,λ_=>HT.LtAt.int_int b tb d v⟩
  |2,_=>exact⟨el,λ_=>J⟩)
 have e:HT.gp (λj=>if j=0 then (decide (a=c),decide (a<c)) else if j=1 then (decide (b=d),decide (b<d)) else (decide (xs=ys),HT.jG xs ys)) (decide (3<3)) 3 0=HT.yP a b xs c d ys:=by
  simp only[HT.gp,HT.yP];by_cases h:a=c
  · by_cases k:b=d
    · by_cases x:xs=ys
      ·subst x;simp[h,k,mF]
      ·simp[h,k,x]
    ·simp[h,k]
  ·simp[h]
 exact e▸n
end
end L2
namespace Gd
open PySem L2
theorem Pz:bootBuiltins "len" = some (.builtin "len"):=by decide +kernel
theorem Px:bootBuiltins "min" = some (.builtin "min"):=by decide +kernel
theorem Py:bootBuiltins "max" = some (.builtin "max"):=by decide +kernel
theorem Pw:bootBuiltins "set" = some (.type "set"):=by decide +kernel
theorem Jp:bootBuiltins "list" = some (.type "list"):=by decide +kernel
theorem Ga:bootBuiltins "tuple" = some (.type "tuple"):=by decide +kernel
theorem tE{H H':Hp}{q:Addr}{o:HO}(h:H q=none)(e:Same H H'):Same H (upd H' q o):=λb u z=>by
 rw[am (aL z h)];exact e b u z
theorem bo{H:Hp}{q:Addr}{o:HO}(h:H q=none):Same H (upd H q o):=tE h (Same.refl H)
def iJ(e:PySem.Expr):Scope:=match e with
 |.ListComp _ _ sc _=>sc
 |_=>{kind:=.function,names:=[],isGenerator:=false,isCoroutine:=false,more:=[]}
def ph(s:Stmt):PySem.Expr:=match s with
 |.Assign _ v _=>v
 |.Return (some v) _=>v
 |.Expr v _=>v
 |.For _ a _ _ _=>a
 |.If t _ _ _=>t
 |_=> .Constant .none 0 ⟨0,0,0,0⟩
def nth(l:List Stmt)(i:Nat):Stmt:=l.getD i (.Pass ⟨0,0,0,0⟩)
abbrev AL:=List (List Int×Int)
abbrev kI(k:List Int):List az:=k.map Sum.inl
def aS(D:AL):List (List az×V):=D.map λp=>(kI p.1,V.int p.2)
def look(D:AL)(k:List Int):Option Int:=(D.find? λp=>decide (p.1=k)).map (·.2)
end Gd
namespace HR
open PySem MeetsSeq
theorem qF(l:Addr)(items:Array Value)(n:Nat)(x:Value)(e:Nat->Bool)(j:Nat)(hj:j<items.size)(hit:e j=true)(hs1:items.size<=sizeLine)(k:Nat):
 ∀i:Nat,j-i=k->i<=j->(∀m,i<=m->m<j->e m=false)->Meets (Builtin.«list.remove.loop» ⟨[.ref l,x,rawInt i],[]⟩)
  (λA R s=>s.heap.get? l=some {cls:=.type "list",dict:=none,data:=.seq items n,slots:=#[]}/\(∀m (h:m<items.size),m<=j->SeqAt.EqAt A.in1 s items[m] x (e m))/\
    R (.ok (.ret .none)) {s with heap:=s.heap.update l (Obj.mapSeq λxs=>xs.eraseIdxIfInBounds j)}):=by
 induction k with
 |zero=>
   intro i hk hij hno prog w A R s h;obtain⟨hp,g,d,tk,os⟩:=s;obtain⟨hl,he,h⟩:=h;have hij':i=j:=by omega
   subst hij'
   wp_walk using wpAny_loadPart' hl
   have hi:items[((i:Nat):Int).toNat]?=some items[i]:=by simp[hj]
   rw[hi];refine Vp (he i hj (VG _) prog w _ _ ?_);rw[hit];have hz':(items.eraseIdxIfInBounds i).size<=sizeLine+1:=VT (size_erased items _) (X3 hs1)
   wp_walk using(wpAny_updateSeq hl rfl (hz:=hs1) (_hz':=hz')),wpAny_loadPart' hl
   simpa using h
 |succ k ih=>
   intro i hk hij hno prog w A R s h;obtain⟨hp,g,d,tk,os⟩:=s;obtain⟨hl,he,h⟩:=h;have hlt:i<items.size:=by omega
   wp_walk using wpAny_loadPart' hl
   have hi:items[((i:Nat):Int).toNat]?=some items[i]:=by simp[hlt]
   have hc:((i:Int)+1)=((i+1:Nat):Int):=by push_cast;rfl
   rw[hi];refine Vp (he i hlt hij prog w _ _ ?_);rw[hno i (VG _) (by omega)]
   wp_walk
   rw[hc]
   exact⟨WX plain_remove_loop _,WS entry_remove_loop (by
    rw[Wt plain_remove_loop _]
    exact ih (i+1) (by omega) (by omega) (λm h1 h2=>hno m (by omega) h2) prog w A R _ ⟨hl,he,h⟩)⟩
theorem qX(l:Addr)(items:Array Value)(n:Nat)(x:Value)(e:Nat->Bool)(j:Nat)(hj:j<items.size)
 (hit:e j=true) (hno:∀m,m<j->e m=false) (hs1:items.size<=sizeLine):
 Meets (Builtin.«list.remove» ⟨[.ref l,x],[]⟩)
  (λA R s=>s.heap.get? l=some {cls:=.type "list",dict:=none,data:=.seq items n,slots:=#[]}/\(∀m (h:m<items.size),m<=j->SeqAt.EqAt A.in1 s items[m] x (e m))/\
    R (.ok (.ret .none)) {s with heap:=s.heap.update l (Obj.mapSeq λxs=>xs.eraseIdxIfInBounds j)}):=by
 intro prog w A R s h;obtain⟨hp,g,d,tk,os⟩:=s;obtain⟨hl,he,h⟩:=h
 wp_walk using wpAny_loadPart' hl
 exact⟨WX plain_remove_loop _,WS entry_remove_loop (by
  rw[Wt plain_remove_loop _]
  exact qF l items n x e j hj hit hs1 _ 0 rfl (Wr _) (λm _ h2=>hno m h2) prog w A R _ ⟨hl,he,h⟩)⟩
end HR
namespace L2
open PySem PySem.Spec PyProof.Rows
theorem lv{W X:Type}[DecidableEq W]{k:W}:∀{xs:List (W×X)},k∉xs.map (·.1)->(xs.filter λx=>decide (x.1≠k))=xs
 |[],_=>rfl
 | x::r,h=>by
   rw[Vq,VA,not_or]at h;rw[Ws,Vo (by simpa using WZ h.1),lv h.2]
theorem gr{W X:Type}[DecidableEq W]{k:W}:∀{xs:List (W×X)} {j:Nat} {p:X},(xs.map (·.1)).Nodup->xs[j]?=some (k,p)->xs.eraseIdx j=xs.filter λx=>decide (x.1≠k)
 |[],j,p,_,h=>by simp at h
 | x::r,0,p,a,h=>by
   simp at h;subst h;rw[Vq,VM]at a;rw[Ws,on (by simp),lv a.1];rfl
 | x::r,j+1,p,a,h=>by
   rw[Vq,VM]at a;have h':r[j]?=some (k,p):=by simpa using h
   have:x.1≠k:=λz=>a.1 (by rw[z];exact VV.mpr ⟨(k,p),Wn h',rfl⟩)
   rw[Ws,Vo (by simpa using this),Wa,gr a.2 h']
theorem km{W X:Type}{f:W->X}:∀{l:List W} {j:Nat},(l.map f).eraseIdx j=(l.eraseIdx j).map f
 |[],_=>rfl
 |_::_,0=>rfl
 |x::r,j+1=>by rw[Vq,Wa,Wa,Vq,km]
theorem KT.drop{H:Hp}{kvs:List (List az×V)}{xs:List (List az×Addr×Value)}(r:KT H kvs xs)(k:List az):KT H (dZ kvs k) (xs.filter λx=>decide (x.1≠k)):=by
 induction r with
 |nil=>exact .nil
 |@cons p q ps b h t a=>
   unfold dZ at a ⊢;rw[List.filter_cons,List.filter_cons];by_cases e:p.1=k
   ·rw[on (by simp[e]),on (by simp[h.1.symm.trans e])];exact a
   ·rw[Vo (by simpa using e),Vo (by simpa using λz=>e (h.1.trans z))];exact .cons h a
section
variable{X:Cx}{G:P4}{Z:St}{H:Hp}{s:Shared}{a b:Addr}{kvs:List (List az×V)}{k:List az}{v:V}{A:Around}{E:T1}
theorem OR{Q:T1}(P:A.units+1<cLine)(I:Inv X G Z H s)(e:H a=some (.dT kvs))(U:H b=some (.tup (k.map kV)))(l:cJ kvs k=some v)
 (h:∀r M,Inv X G Z (upd H a (.dT (dZ kvs k))) M->RelV v r->Q r M):wpAny (model X.prog X.w) A (call (.builtin "dict.pop") [.ref a,.ref b]) Q E s:=by
 obtain⟨z,hd,xs,i,dd⟩:=Fc I.hok e;have hz:xs.length<=sizeLine:=by rw[<-WV i];exact z
 have g:=eJ I.hok U;have f:=tupleKind_room_in1 (knd:=aq X.prog X.w) P;have N:=dd.typeIs;obtain⟨o,m,ep,n,T,d,x,K,u⟩:=dd;obtain⟨r,t,y⟩:=RelO.some_of (v:=v) (o:=(atKey xs k).map (·.2)) (by rw[<-l];exact i.val k);have S:m.size=xs.length:=size_of_entries x;refine wpAny_call_entry PySem.F.slot_dict_pop N PySem.F.entry_dict_pop ?_ (PySem.F.args_dict_pop_2 _ _);unfold Builtin.«dict.pop»;refine wpAny_bind ?_;unfold Builtin.Dict.keyAndDefault;refine wpAny_bind (wpAny_notOrdered_dict N ?_);show wpAny _ _ (pure (a,Value.ref b,none)) _ _ s;refine wpAny_pure ?_;dsimp only;rw[if_neg (by simp[keyPart])];refine wpAny_bind (wpAny_dictEntries n d ?_);refine wpAny_bind (wpAny_pure ?_)
 have D:m.isEmpty=false:=by
  cases q:m.isEmpty with
  |false=>rfl
  |true=>
    have:xs=[]:=by
     have e1:m.size=0:=by simpa using q
     exact VZ.mp (by omega)
    subst this;cases t
 rw[D,if_neg Bool.false_ne_true];refine wpAny_bind ?_;unfold Builtin.Dict.takeOut
 try with_reducible refine WW ?_
 refine Vp ((tupleKind (aq X.prog X.w)).pyHash f g ?_);refine Vp (wpAny_dictFind_heap (knd:=tupleKind (aq X.prog X.w)) (s:={s with toks:=s.toks+(tupleKind (aq X.prog X.w)).draws k}) f g n d x K u ?_ ?_)
 ·intro C;rw[atKey_none_of_get C]at t;cases t
 · intro j p J;have hp:atKey xs k=some p:=atKey_of_get u J;rw[hp]at t;have B:p.2=r:=VQ t;refine Vp (WU (s:={s with toks:=s.toks+(tupleKind (aq X.prog X.w)).draws k}) n d ?_);rw[entry_at x j,J];refine Vp (wpAny_updateDictKeys (hz:=by omega) (s:={s with toks:=s.toks+(tupleKind (aq X.prog X.w)).draws k}) n d (Vz ?_));rw[on (by simp)];refine Vp (Xz (Vz ⟨_,rfl,?_⟩));show Q p.2 _;rw[B];refine h r _ ?_ y;have R:=Xh s.heap a (Obj.mapDictKeys λm=>m.eraseIdxIfInBounds j);refine jR (s:=s) (t':=s.toks+(tupleKind (aq X.prog X.w)).draws k) I (by rw[e];exact True.intro) R ⟨_,V4 _ n (WH (Wb d _))⟩ ⟨VT (m7 kvs k) z,hd,_,(i.drop k).keeps λc ys O=>?_,_,_,ep+1,V4 _ n (WH (Wb d _)),T.mapDictKeys _,Wb d _,?_,?_⟩
   ·rw[am (Dv O e (λz=>nomatch z))];exact O
   ·rw[<-gr u J];obtain⟨el⟩:=m;have L:el=xs.map (entryOfKey (tupleKind (aq X.prog X.w))):=x;rw[Ww];show el.eraseIdx j=_;rw[L];exact km
   ·exact(u.sublist ((List.filter_sublist).map _))
end
theorem uy{K:F0}{H:Hp}:∀{ds:List PyData} {xs:List V} {m:Nat} {x:V},Dens K H ds xs->xs[m]?=some x->∃d,ds[m]?=some d/\Den K H d x
 | [],xs,m,x,h,e=>by
   rw[Dens]at h;subst h;cases e
 | d::ds,xs,m,x,h,e=>by
   rw[Dens]at h;obtain⟨y,r,rfl,b,a⟩:=h;cases m with
   |zero=>
     cases e;exact⟨d,rfl,b⟩
   |succ m=>exact uy (m:=m) a e
theorem uw{K:F0}{H:Hp}:∀{ds:List PyData} {xs:List V},Dens K H ds xs->ds.length=xs.length
 |[],xs,h=>by rw[Dens]at h;subst h;rfl
 | d::ds,xs,h=>by
   rw[Dens]at h;obtain⟨y,r,rfl,b,a⟩:=h;rw[Vx,Vx,uw a]
def yu(K:F0):V->List V->Hp->VK->Prop:=λx vs H Q=>∃l xs y d ds j,x=.ref l/\vs=[y]/\H l=some (.lst xs)/\Den K H d y/\Dens K H ds xs/\SeqAt.shaped d=true/\(∀z∈ds,SeqAt.shaped z=true)/\j<ds.length/\
 (∀m e,ds[m]?=some e->m<=j->PyData.eqv e d=decide (m=j))/\Q .non (upd H l (.lst (xs.eraseIdx j)))
theorem AE{X:Cx}(S:X.A.units+66<cLine):Us X "list.remove" (yu X.K):=by
 intro G s Z H x vs v us Q I C D h;obtain⟨l,xs,y,d,ds,j,rfl,rfl,p,hd,b,B,a,U,k,q⟩:=h;cases C;obtain⟨u,rfl,E⟩:=D.one;obtain⟨z,its,n,r,T,e⟩:=I.lstM p;have R:=uw b
 refine XO X7 ⟨_,e,rfl⟩ PySem.F.entry_list_remove (PySem.F.args_list_remove_2 _ _)
  (HR.qX l its.toArray n u (λm=>decide (m=j)) j (by rw[VE];omega) (by simp) (λm i=>by simpa using VY i) (by rw[VE];omega)) ⟨e,λm i f=>?_,?_⟩
 · have g:m<its.length:=by simpa using i
   have o:xs[m]?=some xs[m]:=VH (by omega);obtain⟨c,e1,O⟩:=uy b o;obtain⟨w,t,J⟩:=r.get o
   have N:its.toArray[m]=w:=by
    rw[VH g]at t;simpa using t
   rw[N,<-k m c e1 f];obtain⟨P,M⟩:=den_reads I c O J;obtain⟨bs,L⟩:=den_reads I d hd E;exact SeqAt.eqAt_reads _ _ X.A.in1 s _ _ P bs M L (W4 (a c (Wn e1))) (W4 B) (SeqAt.room_of_shaped (a c (Wn e1)) (by show X.A.units+1+64<cLine;omega))
 · refine⟨.non,_,I.lset (its':=its.eraseIdx j) p e ?_ (r.eraseIdx j) ?_,rfl,q⟩
   ·show its.toArray.eraseIdxIfInBounds j=(its.eraseIdx j).toArray;rw[Ww]
   · have:=kn xs j
     omega
def vR(d ty:TE):TE:=λZ H Q=>d Z H λx H1=>∃a,x=.ref a/\LC H1 a/\ty Z H1 λy c=>∃kvs k b v,c a=some (.dT kvs)/\y=.ref b/\c b=some (.tup (k.map kV))/\cJ kvs k=some v/\Q v (upd c a (.dT (dZ kvs k)))
theorem CS{X:Cx}{o e:Expr}{f c:Pos}{i ty:TE}(C:X.A.units+1<cLine)(D:PE X o i)(E:PE X e ty)(m:M1 X o "pop" f e c):PE X (.Call (.Attribute o "pop" f) [e] [] c) (vR i ty):=by
 intro G s Z H Q I h;refine W9 m.base m.few m.line Wm WO Xu (a7 (D G s Z H _ I h) λu q ⟨x,H1,j,t,a,ex,d,z⟩=>?_);subst ex;obtain rfl:u=Value.ref a:=t;obtain⟨p,n,_⟩:=kB j d;refine⟨p,n,?_⟩;rw[m.trees];refine We rfl (WC (Wd (a7 (E G q Z H1 _ j z) λB P ⟨y,R,M,r,kvs,k,b,v,K,F,J,l,w⟩=>WE ?_)));subst F;obtain rfl:B=Value.ref b:=r;exact OR C M K J l λN O L g=>⟨v,_,L,g,w⟩
theorem l5:∀{bs:List Bool} {us:List Value} {i:Nat} {u:Value},Vals (bs.map V.bl) us->us[i]?=some u->u=.bool (bs.getD i false)
 | [],us,i,u,r,e=>by
   cases r;cases e
 | b::bs,us,i,u,r,e=>by
   rw[Vq]at r;cases r with
   |cons c a=>
     cases i with
     |zero=>
       cases e;exact c
     |succ i=>
       show u=.bool (bs.getD i false);exact l5 (bs:=bs) (i:=i) a (by simpa using e)
theorem mf(bs:List Bool):((List.range bs.length).any λi=>bs.getD i false)=bs.any id:=by
 induction bs with
 |nil=>rfl
 |cons b bs a=>
   rw[Vx,List.range_succ_eq_map,W6,List.any_map,W6,<-a];rfl
theorem Bk{X:Cx}(w:X.calm=true):dD X (.builtin "any") (λxs H Q=>∃p,∃bs:List Bool,xs=[.ref p]/\SqL X.K H p (bs.map V.bl)/\Q (.bl (bs.any id)) H):=by
 intro G s Z H xs us Q I r h;obtain⟨p,bs,rfl,t,q⟩:=h;obtain⟨u,rfl,l⟩:=Vals.one r;have c:u=Value.ref p:=l;subst c;obtain⟨its,j,pl,hz⟩:=I.list t;have n:bs.length=its.length:=by rw[<-j.length,Vr]
 obtain⟨m,a,g,f⟩:=id pl.isList;have d:p<s.heap.objs.size:=VD a;refine call_any_walk (Xn pl.isList ⟨s.heap.objs.size,_,_,_,_,_,λi=>bs.getD i false,rfl,Walks.list (A:=X.A.in1) (I.ok.hd w) _ p (VY d) its.toArray,⟨⟨_,VO _ rfl,rfl,rfl⟩,⟨m,Vv _ a,g,f⟩⟩,λi v C D E y x=>?_,λh' B kp=>?_⟩)
 ·have e:=l5 j (i:=i) (u:=v) (by simpa using y);rw[e];exact WT x
 · have e:((List.range its.toArray.size).any λi=>bs.getD i false)=bs.any id:=by
    rw[VE,<-n];exact mf bs
   rw[e];refine⟨.bl _,H,I.kept λb o q=>kp b o (λz=>?_) (Vv _ q),rfl,q⟩;have k:b=s.heap.objs.size:=by simpa using z
   exact absurd (VD q) (by rw[k];exact Wo _)
def P7(K:F0)(H:Hp)(v:V)(k:Int×Int×List Int):Prop:=∃p l,v=.ref p/\SqT K H p [.int k.1,.int k.2.1,.ref l]/\SqL K H l (k.2.2.map V.int)
def dU(a b:Int×Int×List Int):Bool:=HT.yP a.1 a.2.1 a.2.2 b.1 b.2.1 b.2.2
theorem lV:∀{vs:List V} {us:List Value} {i:Nat} {u:Value},Vals vs us->us[i]?=some u->∃v,vs[i]?=some v/\RelV v u
 |[],us,i,u,r,e=>by cases r;cases e
 | v::vs,us,i,u,r,e=>by
   cases r with
   |cons b a=>
     cases i with
     |zero=>cases e;exact⟨v,rfl,b⟩
     |succ i=>exact lV (i:=i) a (by simpa using e)
theorem jr(a:Nat->Nat->Bool):∀k,argBest a k<=k
 |0=>VG _
 | k+1=>by
   unfold argBest;split
   ·exact VG _
   ·exact X3 (jr a k)
theorem xu{X:Cx}(hc:X.calm=true)(hu:X.A.units+101<cLine):fE X (.builtin "min") ["default"] (λxs E H Q=>∃p vs d,∃c:List (Int×Int×List Int),xs=[.ref p]/\E=[d]/\SqL X.K H p vs/\vs.length=c.length/\(∀i v,vs[i]?=some v->P7 X.K H v (c.getD i (0,0,[])))/\
 (vs=[]->Q d H)/\∀v,vs[argBest (λi j=>dU (c.getD i (0,0,[])) (c.getD j (0,0,[]))) (vs.length-1)]?=some v->Q v H):=by
 intro G s Z H xs E us ws Q I r S h;obtain⟨p,vs,d,c,rfl,rfl,hq,N,O,W,V⟩:=h;obtain⟨u,rfl,T⟩:=Vals.one r;have t:u=Value.ref p:=T;subst t;obtain⟨dv,rfl,rd⟩:=Vals.one S;obtain⟨its,l,pl,hz⟩:=I.list hq;have M:vs.length=its.length:=l.length;obtain⟨ol,g,D,C⟩:=id pl.isList;have k:p<s.heap.objs.size:=VD g;refine vv false (Xn pl.isList ⟨s.heap.objs.size,_,_,_,_,_,λi j=>dU (c.getD i (0,0,[])) (c.getD j (0,0,[])),λn=>∃h' f,n={s with heap:=h',toks:=f}/\∀b o,s.heap.get? b=some o->h'.get? b=some o,rfl,Walks.list (A:=X.A.in1) (I.ok.hd hc) _ p (VY k) its.toArray,⟨⟨_,VO _ rfl,rfl,rfl⟩,⟨ol,Vv _ g,D,C⟩⟩,λb hb=>?_,?_,?_,?_,λe h' f kp=>?_,λe v h' f pv kp=>?_⟩)
 · rw[Xa];rcases VA.mp hb with z|z
   ·rw[z];exact Xb _
   · have a:b=p:=by simpa using z
     rw[a];exact XX k
 ·exact⟨_,_,rfl,λb o e=>Vv _ e⟩
 · rintro n h' f ⟨P,L,rfl,y⟩ kp;refine⟨h',f,rfl,λb o e=>kp b o (λz=>?_) (λz=>?_) (y b o e)⟩
   · have a:b=s.heap.objs.size:=by simpa using z
     exact absurd (VD e) (by rw[a];exact Wo _)
   · have a:b=s.heap.objs.size+1:=by rw[z,Xa]
     exact absurd (VD e) (by rw[a];exact Nat.not_lt.mpr (Nat.le_succ _))
 ·rintro i j J F n Q' E' ⟨P,L,rfl,y⟩ pi Y B;have I1:Inv X G Z H {s with heap:=P,toks:=L}:=I.kept y;obtain⟨m,e1,x⟩:=lV l (i:=i) (u:=J) (by simpa using pi);obtain⟨R,e2,U⟩:=lV l (i:=j) (u:=F) (by simpa using Y);obtain⟨p1,l1,rfl,a1,b1⟩:=O i m e1;obtain⟨p2,l2,rfl,a2,b2⟩:=O j R e2;obtain rfl:J=Value.ref p1:=x;obtain rfl:F=Value.ref p2:=U;exact Ou (A:=X.A.in1) (by show X.A.units+1+100<cLine;omega) I1 a1 a2 b1 b2 X.prog X.w E' Q' B
 · have en:vs=[]:=VZ.mp (by rw[M];simpa using e);refine⟨d,H,I.kept λb o q=>kp b o (λz=>?_) (Vv _ q),rd,W en⟩;have a:b=s.heap.objs.size:=by simpa using z
   exact absurd (VD q) (by rw[a];exact Wo _)
 · rw[show its.toArray.size-1=vs.length-1 by rw[VE,M],Yw]at pv;obtain⟨m,e1,x⟩:=lV l pv;refine⟨m,H,I.kept λb o q=>kp b o (λz=>?_) (Vv _ q),x,V _ e1⟩;have a:b=s.heap.objs.size:=by simpa using z
   exact absurd (VD q) (by rw[a];exact Wo _)
end L2
namespace Mi
open PySem L2
inductive D where
 |non|bl (b:Bool)|int (i:Int)|str (x:Str)|ty (n:String)
 |lst (xs:List D)|tup (xs:List D)|scr (xs:List D)
 |dK (ks:List az) (vs:List D)|dT (ks:List (List az)) (vs:List D)
 |obj (c:Nat) (ns:List Str) (vs:List D)
abbrev X0:=List (Option D)
inductive Res (W:Type) where
 |ok (a:W)|exc (c:Nat)|bad
inductive Out (W:Type) where
 |ok (a:W) (T:X0)|exc (c:Nat) (T:X0)|bad
inductive SO where
 |nx (T:X0)|rt (d:D) (T:X0)|bk (T:X0)|ct (T:X0)|exc (c:Nat) (T:X0)|bad
@[simp] def Res.bind{W X:Type}:Res W->(W->Res X)->Res X
 |.ok a,f=>f a
 |.exc c,_=>.exc c
 |.bad,_=>.bad
@[simp] def Res.calm{W:Type}:Res W->Res W
 |.ok a=>.ok a
 |_=>.bad
@[simp] def Out.bind{W X:Type}:Out W->(W->X0->Out X)->Out X
 |.ok a T,f=>f a T
 |.exc c T,_=>.exc c T
 |.bad,_=>.bad
@[simp] def Res.up{W:Type}(T:X0):Res W->Out W
 |.ok a=>.ok a T
 |.exc c=>.exc c T
 |.bad=>.bad
def rg{W:Type}(l:List (Option W))(i:Nat):Option W:=(l[i]?).join
@[simp] def vr(i:Nat):X0->Res D:=λT=>match rg T i with|some d=>.ok d|none=>.bad
def ay(d:D):X0->Res D:=λ_=>.ok d
def un(f:D->Res D)(a:X0->Res D):X0->Res D:=λT=>(a T).bind f
def bn(f:D->D->Res D)(a b:X0->Res D):X0->Res D:=λT=>(a T).bind λx=>(b T).bind λy=>f x y
def ac:Nat:=1000000
def iI(g:Int->Int->Int):D->D->Res D | .int i,.int j=>.ok (.int (g i j))|_,_=>.bad
def iB(g:Int->Int->Bool):D->D->Res D | .int i,.int j=>.ok (.bl (g i j))|_,_=>.bad
def iC(C:Int->Int->Bool)(g:Int->Int->Int):D->D->Res D | .int i,.int j=>if C i j=true then .ok (.int (g i j)) else .bad|_,_=>.bad
def jt:=iI λi j=>i+j
def oT:=iI λi j=>i-j
def qV:=iC (λi j=>decide ((-(2 ^ 64)<i/\i<2 ^ 64)\/(-(2 ^ 64)<j/\j<2 ^ 64))) λi j=>i*j
def cO:=iC (λ_ j=>decide (0<j/\j<1073741824)) λi j=>i / j
def bR:=iC (λ_ j=>decide (0<j)) λi j=>i%j
def BS:=iC (λ_ j=>decide (0<=j)) λi j=>i / 2 ^ j.toNat
def oW:=iI λi j=>if j<i then j else i
def oX:=iI λi j=>if j>i then j else i
def GH:=iB λi j=>decide (i<j)
def I9:=iB λi j=>decide (j<i)
def Uo:=iB λi j=>decide (j<=i)
@[simp] theorem TH(i j:Int):jt (.int i) (.int j)=.ok (.int (i+j)):=rfl
@[simp] theorem Qx(i j:Int):oT (.int i) (.int j)=.ok (.int (i-j)):=rfl
@[simp] theorem Dx(i j:Int):qV (.int i) (.int j)=if (-(2 ^ 64)<i/\i<2 ^ 64)\/(-(2 ^ 64)<j/\j<2 ^ 64) then .ok (.int (i*j)) else .bad:=by simp[qV,iC]
@[simp] theorem A5(i j:Int):cO (.int i) (.int j)=if 0<j/\j<1073741824 then .ok (.int (i / j)) else .bad:=by simp[cO,iC]
@[simp] theorem DB(i j:Int):bR (.int i) (.int j)=if 0<j then .ok (.int (i%j)) else .bad:=by simp[bR,iC]
@[simp] theorem BR(i j:Int):BS (.int i) (.int j)=if 0<=j then .ok (.int (i / 2 ^ j.toNat)) else .bad:=by simp[BS,iC]
@[simp] theorem SA(i j:Int):oW (.int i) (.int j)=.ok (.int (if j<i then j else i)):=rfl
@[simp] theorem SC(i j:Int):oX (.int i) (.int j)=.ok (.int (if j>i then j else i)):=rfl
@[simp] theorem Uj(i j:Int):GH (.int i) (.int j)=.ok (.bl (decide (i<j))):=rfl
@[simp] theorem Ul(i j:Int):I9 (.int i) (.int j)=.ok (.bl (decide (j<i))):=rfl
@[simp] theorem Um(i j:Int):Uo (.int i) (.int j)=.ok (.bl (decide (j<=i))):=rfl
def Iv:D->Res D | .int i=>.ok (.int (-i))|_=>.bad
def NH:D->Res D | .bl b=>.ok (.bl (!b))|_=>.bad
def sR(neg:Bool):D->D->Res D
 |.int i,.int j=>.ok (.bl (neg.xor (decide (i=j))))
 |.str i,.str j=>.ok (.bl (neg.xor (decide (i=j))))
 |.bl i,.bl j=>.ok (.bl (neg.xor (decide (i=j))))
 |.non,.int _=>.ok (.bl neg)
 |.int _,.non=>.ok (.bl neg)
 |.non,.non=>.ok (.bl (!neg))
 |_,_=>.bad
def mO:D->Bool | .non=>true|_=>false
def jH:D->Res D
 |.lst xs=>.ok (.int xs.length)
 |.tup xs=>.ok (.int xs.length)
 |.scr xs=>.ok (.int xs.length)
 |_=>.bad
def Jv(xs:List D)(i:Int):Res D:=match j8 xs i with|some d=>.ok d|none=>.bad
def ES:D->D->Res D | .lst xs,.int i=>Jv xs i | .scr xs,.int i=>Jv xs i|_,_=>.bad
def yR:D->D->Res D | .tup xs,.int i=>Jv xs i|_,_=>.bad
def F9:D->D->Res D | .lst xs,.lst ys=>if xs.length+ys.length<=ac then .ok (.lst (xs++ys)) else .bad|_,_=>.bad
def gm:D->Res D | .lst xs=>.ok (.lst xs) | .scr xs=>.ok (.lst xs) | .tup xs=>.ok (.lst xs)|_=>.bad
def dX:D->Option az | .int i=>some (.inl i) | .str x=>some (.inr x)|_=>none
def bq:List D->Option (List az)
 |[]=>some []
 |d::r=>match dX d,bq r with|some k,some a=>some (k::a)|_,_=>none
section
variable{W:Type}[DecidableEq W]
def aT:List W->List D->W->Option D
 |k::a,d::ds,j=>if k=j then some d else aT a ds j
 |_,_,_=>none
def bX(a:List W)(j:W):Bool:=a.any λk=>decide (k=j)
def g9:List W->List D->W->D->List D
 |k::a,d::ds,j,x=>(if k=j then x else d)::g9 a ds j x
 |_,_,_,_=>[]
def c7:List W->List D->W->D->List D
 |k::a,d::ds,j,x=>if k=j then x::ds else d::c7 a ds j x
 |_,_,_,_=>[]
end
def i0:D->D->Option (Option D)
 |.dT a vs,.tup k=>(bq k).map λk=>aT a vs k
 |.dK a vs,k=>(dX k).map λk=>aT a vs k
 |_,_=>none
def lD(d k:D):Res D:=match i0 d k with|some (some x)=>.ok x|_=>.bad
def lR(neg:Bool)(k d:D):Res D:=match i0 d k with|some x=>.ok (.bl (neg.xor x.isSome))|none=>.bad
def fB(d k x:D):Res D:=match i0 d k with|some (some y)=>.ok y|some none=>.ok x|none=>.bad
def qa:D->D->D->Option D
 |.dT a vs,.tup k,x=>(bq k).bind λk=>if a.length<ac then some (if bX a k=true then .dT a (g9 a vs k x) else .dT (a++[k]) (vs++[x])) else none
 |.dK a vs,k,x=>(dX k).bind λk=>if a.length<ac then some (if bX a k=true then .dK a (g9 a vs k x) else .dK (a++[k]) (vs++[x])) else none
 |_,_,_=>none
def bb(c:Nat)(f:Str):D->Res D
 |.obj a ns vs=>if a=c then (match aT ns vs f with|some x=>.ok x|none=>.bad) else .bad
 |_=>.bad
def k9(a:Nat)(f:Str)(x:D):D->Option D
 |.obj c ns vs=>if c=a/\ns.length<900 then some (if bX ns f=true then .obj c ns (c7 ns vs f x) else .obj c (ns++[f]) (vs++[x])) else none
 |_=>none
def Qs:D->Res Bool | .bl b=>.ok b|_=>.bad
def ax:X0->Res (List D):=λ_=>.ok []
def ai(a:X0->Res D)(r:X0->Res (List D)):X0->Res (List D):=λT=>(a T).bind λx=>(r T).bind λxs=>.ok (x::xs)
def ke(r:X0->Res (List D)):X0->Res D:=λT=>(r T).bind λxs=>if xs.length<=ac then .ok (.lst xs) else .bad
def gU(r:X0->Res (List D)):X0->Res D:=λT=>(r T).bind λxs=>if xs.length<=ac then .ok (.tup xs) else .bad
def cz(T:X0)(a:List Nat):X0:=a.map λj=>rg T j
def aI(a:X0->Res Bool)(te:X0->Res D)(cap:X0):List D->Res (List D)
 |[]=>.ok []
 |d::r=>(a (some d::cap)).calm.bind λc=>if c=true then (te (some d::cap)).calm.bind λx=>(aI a te cap r).bind λxs=>.ok (x::xs) else aI a te cap r
def fc(src:X0->Res (List D))(b:List Nat)(a:X0->Res Bool)(te:X0->Res D):X0->Res D:=λT=>(src T).bind λxs=>if xs.length<ac then (aI a te (cz T b) xs).bind λys=>.ok (.lst ys) else .bad
def i9(a:X0->Res D):X0->Res (List D):=λT=>(a T).bind λd=>match d with | .lst xs=>.ok xs | .scr xs=>.ok xs|_=>.bad
def rng(lo hi:Int):List D:=(List.range (hi-lo).toNat).map λi:Nat=>D.int (lo+i)
def vX(a b:X0->Res D):X0->Res (List D):=λT=>(a T).bind λx=>(b T).bind λy=>match x,y with
 |.int i,.int j=>if -(2 ^ 62)<=i/\i<2 ^ 62/\-(2 ^ 62)<=j/\j<2 ^ 62 then .ok (rng i j) else .bad
 |_,_=>.bad
def cZ(b:X0->Res D):X0->Res (List D):=vX (ay (.int 0)) b
def ah(a b:X0->SO):X0->SO:=λT=>match a T with | .nx G=>b G | o=>o
def bj:X0->SO:=λT=>.nx T
def Hi:X0->SO:=λT=>.rt .non T
@[simp] def fG{W:Type}:Out W->(W->X0->SO)->SO
 |.ok a T,f=>f a T
 |.exc c T,_=>.exc c T
 |.bad,_=>.bad
abbrev MD:=X0->Out D
def aw{W:Type}(a:X0->Res W):X0->Out W:=λT=>(a T).up T
def bA(a:MD):X0->SO:=λT=>fG (a T) λd G=>.rt d G
def au(a:MD):X0->SO:=λT=>fG (a T) λ_ G=>.nx G
def aV(i:Nat)(a:MD):X0->SO:=λT=>fG (a T) λd G=>.nx (G.set i (some d))
def gN(c:X0->Out Bool)(a b:X0->SO):X0->SO:=λT=>fG (c T) λt G=>if t=true then a G else b G
def rp(b:D->X0->Option X0)(a:X0->SO):List D->X0->SO
 |[],T=>.nx T
 | d::ds,T=>match b d T with
   |none=>.bad
   | some c=>match a c with
     |.nx G=>rp b a ds G
     |.ct G=>rp b a ds G
     |.bk G=>.nx G
     |o=>o
def dt(src:X0->Out (List D))(b:D->X0->Option X0)(a:X0->SO):X0->SO:=λT=>fG (src T) λxs G=>rp b a xs G
def xG(c:X0->Out Bool)(a:X0->SO):Nat->X0->SO
 |0,_=>.bad
 | n+1,T=>fG (c T) λt b=>if t=true then (match a b with
    |.nx G=>xG c a n G
    |.ct G=>xG c a n G
    |.bk G=>.nx G
    |o=>o) else .nx b
def sP(i:Nat):D->X0->Option X0:=λd T=>some (T.set i (some d))
def GT(i j:Nat):D->X0->Option X0:=λd T=>match d with | .tup [x,y]=>some ((T.set i (some x)).set j (some y))|_=>none
def run(k:Nat)(a:X0->SO)(ds:List D):Out D:=match a (ds.map some++List.replicate (k-ds.length) none) with
 |.nx T=>.ok .non T
 |.rt d T=>.ok d T
 |.exc c T=>.exc c T
 |_=>.bad
structure Cm where
 f:Nat->Addr
 K:F0
 tb:Tbs
instance:CoeFun Cm λ_=>Nat->Addr:=⟨Cm.f⟩
def SqF(K:F0)(B:Hp)(a:Addr)(xs:List V):Prop:=(∃o,B a=some (.frz o (.lst xs)))\/
 ∃(o:Obj) (its:Array Value) (n:Nat),K.lookup a=some o/\o.cls=.type "list" /\ o.dict=none/\o.data=.seq its n/\its.size<=sizeLine/\Vals xs its.toList
theorem SqF.mono{K:F0}{B S:Hp}{a:Addr}{xs:List V}(h:SqF K B a xs)(e:Same B S):SqF K S a xs:=by
 rcases h with ⟨o,h⟩|h
 ·exact .inl ⟨o,e _ _ h⟩
 ·exact .inr h
theorem SqF.sq{K:F0}{H:Hp}{a:Addr}{xs:List V}(h:SqF K H a xs):SqL K H a xs:=by
 rcases h with ⟨o,h⟩|h
 ·exact .inl (.inr ⟨o,h⟩)
 ·exact .inr h
theorem lY{B S:Hp}{a:Addr}{u:HO}(e:Same B S)(h:Rd B a u):Rd S a u:=by
 rcases h with h|⟨o,h⟩
 ·exact .inl (e _ _ h)
 ·exact .inr ⟨o,e _ _ h⟩
section
variable(Y:Cm)
mutual
def Dn(B:Hp):D->V->Prop
 |.non,v=>v=.non
 |.bl b,v=>v=.bl b
 |.int i,v=>v=.int i
 |.str x,v=>v=.str x
 |.ty n,v=>v=.ty n
 |.lst ds,v=>∃a xs,v=.ref a/\B a=some (.lst xs)/\Dns B ds xs
 |.scr ds,v=>∃a xs,v=.ref a/\SqF Y.K B a xs/\Dns B ds xs
 |.tup ds,v=>∃a xs,v=.ref a/\B a=some (.tup xs)/\Dns B ds xs
 |.dK d ds,v=>∃(a:Addr) (kvs:List (az×V)),v=.ref a/\B a=some (.dK kvs)/\kvs.map (·.1)=d/\Dns B ds (kvs.map (·.2))
 |.dT d ds,v=>∃(a:Addr) (kvs:List (List az×V)),v=.ref a/\Rd B a (.dT kvs)/\kvs.map (·.1)=d/\Dns B ds (kvs.map (·.2))
 |.obj c ns ds,v=>∃(a dx:Addr) (fs:List (Str×V)),v=.ref a/\B a=some (.ins (Y c) dx fs)/\fs.map (·.1)=ns/\Dns B ds (fs.map (·.2))
def Dns(B:Hp):List D->List V->Prop
 |[],xs=>xs=[]
 |d::ds,xs=>∃x r,xs=x::r/\Dn B d x/\Dns B ds r
end
inductive Sh where
 |fz|ct (s:Sh)|ob (fs:List (Str×Sh))
mutual
def Ow(B H:Hp):D->Sh->V->List Addr->Prop
 |d,.fz,v,A=>Dn Y B d v/\A=[]
 |.lst ds,.ct s,v,A=>∃a xs b,v=.ref a/\H a=some (.lst xs)/\A=a::b/\Ows B H ds s xs b
 |.dK e ds,.ct s,v,A=>∃(a:Addr) (kvs:List (az×V)) (b:List Addr),v=.ref a/\H a=some (.dK kvs)/\kvs.map (·.1)=e/\A=a::b/\Ows B H ds s (kvs.map (·.2)) b
 |.dT e ds,.ct s,v,A=>∃(a:Addr) (kvs:List (List az×V)) (b:List Addr),v=.ref a/\H a=some (.dT kvs)/\kvs.map (·.1)=e/\A=a::b/\Ows B H ds s (kvs.map (·.2)) b
 |.obj c ns ds,.ob fs,v,A=>∃(a dx:Addr) (xs:List (Str×V)) (b:List Addr),v=.ref a/\H a=some (.ins (Y c) dx xs)/\xs.map (·.1)=ns/\A=a::b/\Owf B H ds ns fs (xs.map (·.2)) b
 |_,_,_,_=>False
def Ows(B H:Hp):List D->Sh->List V->List Addr->Prop
 |[],_,xs,A=>xs=[]/\A=[]
 |d::ds,s,xs,A=>∃x r A1 a,xs=x::r/\A=A1++a/\Ow B H d s x A1/\Ows B H ds s r a
def Owf(B H:Hp):List D->List Str->List (Str×Sh)->List V->List Addr->Prop
 |[],_,_,xs,A=>xs=[]/\A=[]
 |d::ds,ns,fs,xs,A=>∃n a x r A1 b,ns=n::a/\xs=x::r/\A=A1++b/\Ow B H d ((fs.lookup n).getD .fz) x A1/\Owf B H ds a fs r b
end
inductive Md where
 |F|R|O (s:Sh)
def LoV(B U H:Hp)(m:Md)(d:D)(v:V)(A:List Addr):Prop:=
 match m with
 |.F=>Dn Y B d v/\A=[]
 |.R=>Dn Y U d v/\A=[]
 |.O sh=>Ow Y B H d sh v A
def Lo(B U H:Hp)(m:Md)(o:Option D)(s:Option V)(A:List Addr):Prop:=
 match o with
 |none=>A=[]
 |some d=>∃v,s=some v/\LoV Y B U H m d v A
structure Rel (ms:List Md) (B U:Hp) (As:Nat->List Addr) (Z:St) (H:Hp) (T:X0):Prop where
 bu:Same B U
 uh:Same U H
 nd:∀i,(As i).Nodup
 dj:∀i j a,i≠j->a∈As i->a∉As j
 un:∀i a,a∈As i->U a=none
 lo:∀i,Lo Y B U H (ms.getD i .F) (rg T i) (rg Z i) (As i)
 len:T.length=Z.length
 tb:∀p∈Y.tb,∃l,B p.1=some (.tbl l)/\p.2∈l
end
def cX(o:HO):Prop:=∃xs,o=.tup xs
structure Ex (B U S M:Hp):Prop where
 b:Same B S
 u:Same U M
 nb:∀a o,S a=some o->B a=some o\/U a=none\/cX o
theorem Ex.refl(B U:Hp):Ex B U B U:=⟨Same.refl _,Same.refl _,λ_ _ h=>.inl h⟩
theorem Ex.trans{B U I U1 e d:Hp}(a:Ex B U I U1)(b:Ex I U1 e d):Ex B U e d:=
 ⟨a.b.trans b.b,a.u.trans b.u,λc o h=>by
  rcases b.nb c o h with h|h|h
  ·exact a.nb c o h
  ·exact .inr (.inl (a.u.free h))
  ·exact .inr (.inr h)⟩
section
variable{Y:Cm}
def nd:HO->Prop
 |.dT _=>False
 |.frz _ (.dT _)=>False
 |_=>True
def Hm(G a:Hp):Prop:=(∀b x,G b=some x->nd x->a b=some x)/\∀b k,Rd G b (.dT k)->Rd a b (.dT k)
mutual
theorem Dn.imp{B S:Hp}(e:Hm B S):∀{d:D} {v:V},Dn Y B d v->Dn Y S d v:=by
 intro d v h;cases d <;> rw[Dn]at h ⊢ <;> first | exact h | (obtain⟨a,xs,r,c,b⟩:=h;first | exact⟨a,xs,r,e.1 _ _ c trivial,Dns.imp e b⟩ | exact⟨a,xs,r,e.1 _ _ c trivial,b.1,Dns.imp e b.2⟩ | exact⟨a,xs,r,e.2 _ _ c,b.1,Dns.imp e b.2⟩ | exact⟨a,xs,r,c.imp (λ⟨o,q⟩=>⟨o,e.1 _ _ q trivial⟩) id,Dns.imp e b⟩) | (obtain⟨a,dx,xs,r,c,b,f⟩:=h;exact⟨a,dx,xs,r,e.1 _ _ c trivial,b,Dns.imp e f⟩)
theorem Dns.imp{B S:Hp}(e:Hm B S):∀{ds:List D} {xs:List V},Dns Y B ds xs->Dns Y S ds xs
 |[],_,h=>by rw[Dns]at h ⊢;exact h
 | d::ds,_,h=>by
   rw[Dns]at h ⊢;obtain⟨x,r,h0,b,a⟩:=h;exact⟨x,r,h0,Dn.imp e b,Dns.imp e a⟩
end
theorem Hm.of{B S:Hp}(e:Same B S):Hm B S:=⟨λb x q _=>e b x q,λ_ _=>lY e⟩
theorem Dn.mono{B S:Hp}(e:Same B S){d:D}{v:V}:Dn Y B d v->Dn Y S d v:=Dn.imp (.of e)
theorem Dns.mono{B S:Hp}(e:Same B S){ds:List D}{xs:List V}:Dns Y B ds xs->Dns Y S ds xs:=Dns.imp (.of e)
theorem Dns.len{B:Hp}:∀{ds:List D} {xs:List V},Dns Y B ds xs->ds.length=xs.length
 |[],_,h=>by rw[Dns]at h;subst h;rfl
 | d::ds,_,h=>by
   rw[Dns]at h;obtain⟨x,r,rfl,_,a⟩:=h;rw[Vx,Vx,Dns.len a]
theorem Dns.get{B:Hp}:∀{ds:List D} {xs:List V} {i:Nat} {d:D},Dns Y B ds xs->ds[i]?=some d->∃x,xs[i]?=some x/\Dn Y B d x
 |[],_,_,_,_,e=>by cases e
 | d::ds,_,i,d',h,e=>by
   rw[Dns]at h;obtain⟨x,r,rfl,b,a⟩:=h;cases i with
   |zero=>cases e;exact⟨x,rfl,b⟩
   |succ i=>exact Dns.get (i:=i) a (by simpa using e)
theorem Dns.geti{B:Hp}:∀{ds:List D} {xs:List V} {i:Nat} {x:V},Dns Y B ds xs->xs[i]?=some x->∃d,ds[i]?=some d/\Dn Y B d x
 |[],_,_,_,h,e=>by rw[Dns]at h;subst h;cases e
 | d::ds,_,i,c,h,e=>by
   rw[Dns]at h;obtain⟨x,r,rfl,b,a⟩:=h;cases i with
   |zero=>cases e;exact⟨d,rfl,b⟩
   |succ i=>exact Dns.geti (i:=i) a (by simpa using e)
theorem Dns.append{B:Hp}:∀{ds a:List D} {xs ys:List V},Dns Y B ds xs->Dns Y B a ys->Dns Y B (ds++a) (xs++ys)
 |[],_,_,_,h,k=>by rw[Dns]at h;subst h;exact k
 | d::ds,_,_,_,h,k=>by
   rw[Dns]at h;obtain⟨x,r,rfl,c,b⟩:=h;rw[Xe,Xe,Dns];exact⟨x,_,rfl,c,Dns.append b k⟩
theorem Dns.one{B:Hp}{d:D}{v:V}(h:Dn Y B d v):Dns Y B [d] [v]:=by
 rw[Dns];exact⟨v,[],rfl,h,by rw[Dns]⟩
theorem Dns.drop{B:Hp}:∀{ds:List D} {xs:List V} (n:Nat),Dns Y B ds xs->Dns Y B (ds.drop n) (xs.drop n)
 |[],_,n,h=>by rw[Dns]at h;subst h;rw[List.drop_nil,List.drop_nil,Dns]
 | d::ds,_,n,h=>by
   cases n with
   |zero=>exact h
   |succ n=>
     rw[Dns]at h;obtain⟨x,r,rfl,b,a⟩:=h;exact Dns.drop n a
theorem Dns.erase{B:Hp}:∀{ds:List D} {xs:List V} (n:Nat),Dns Y B ds xs->Dns Y B (ds.eraseIdx n) (xs.eraseIdx n)
 |[],_,n,h=>by rw[Dns]at h;subst h;rw[List.eraseIdx_nil,List.eraseIdx_nil,Dns]
 | d::ds,_,n,h=>by
   rw[Dns]at h;obtain⟨x,r,rfl,b,a⟩:=h;cases n with
   |zero=>exact a
   |succ n=>
     rw[Wa,Wa,Dns];exact⟨x,_,rfl,b,Dns.erase n a⟩
theorem Dns.set{B:Hp}{d':D}{v:V}(hd:Dn Y B d' v):∀{ds:List D} {xs:List V} (n:Nat),Dns Y B ds xs->Dns Y B (ds.set n d') (xs.set n v)
 |[],_,n,h=>by rw[Dns]at h;subst h;rw[List.set_nil,List.set_nil,Dns]
 | d::ds,_,n,h=>by
   rw[Dns]at h;obtain⟨x,r,rfl,b,a⟩:=h;cases n with
   |zero=>rw[XQ,XQ,Dns];exact⟨v,r,rfl,hd,a⟩
   |succ n=>
     rw[XR,XR,Dns];exact⟨x,_,rfl,b,Dns.set hd n a⟩
mutual
theorem Ow.imp{B S H H':Hp}(e:∀{d v},Dn Y B d v->Dn Y S d v):∀{d:D} {s:Sh} {v:V} {A:List Addr},(∀a∈A,H' a=H a)->Ow Y B H d s v A->Ow Y S H' d s v A:=by
 intro d s v A k h;cases s with
 |fz=>rw[Ow]at h ⊢;exact⟨e h.1,h.2⟩
 |ct s=>cases d <;> first | (simp[Ow]at h;done) | (rw[Ow]at h ⊢;obtain⟨a,xs,j,r,i,g,f⟩:=h;subst g;exact⟨a,xs,j,r,by rw[k a Vt];exact i,rfl,Ows.imp e (λb c=>k b (Vu _ c)) f⟩) | (rw[Ow]at h ⊢;obtain⟨a,xs,j,r,i,g,f,l⟩:=h;subst f;exact⟨a,xs,j,r,by rw[k a Vt];exact i,g,rfl,Ows.imp e (λb c=>k b (Vu _ c)) l⟩)
 |ob fs=>cases d <;> first | (simp[Ow]at h;done) | (rw[Ow]at h ⊢;obtain⟨a,dx,xs,j,r,i,g,f,l⟩:=h;subst f;exact⟨a,dx,xs,j,r,by rw[k a Vt];exact i,g,rfl,Owf.imp e (λb c=>k b (Vu _ c)) l⟩)
theorem Ows.imp{B S H H':Hp}(e:∀{d v},Dn Y B d v->Dn Y S d v):∀{ds:List D} {s:Sh} {xs:List V} {A:List Addr},(∀a∈A,H' a=H a)->Ows Y B H ds s xs A->Ows Y S H' ds s xs A
 |[],_,_,_,_,h=>by rw[Ows]at h ⊢;exact h
 | d::ds,s,xs,A,k,h=>by
   rw[Ows]at h ⊢;obtain⟨x,r,A1,j,h0,i,g,f⟩:=h;subst i;exact⟨x,r,A1,j,h0,rfl,Ow.imp e (λb c=>k b (VB _ c)) g,Ows.imp e (λb c=>k b (Vs _ c)) f⟩
theorem Owf.imp{B S H H':Hp}(e:∀{d v},Dn Y B d v->Dn Y S d v):∀{ds:List D} {ns:List Str} {fs:List (Str×Sh)} {xs:List V} {A:List Addr},(∀a∈A,H' a=H a)->Owf Y B H ds ns fs xs A->Owf Y S H' ds ns fs xs A
 |[],_,_,_,_,_,h=>by rw[Owf]at h ⊢;exact h
 | d::ds,ns,fs,xs,A,k,h=>by
   rw[Owf]at h ⊢;obtain⟨n,c,x,r,A1,m,g,h0,l,j,i⟩:=h;subst l;exact⟨n,c,x,r,A1,m,g,h0,rfl,Ow.imp e (λb f=>k b (VB _ f)) j,Owf.imp e (λb f=>k b (Vs _ f)) i⟩
end
section
variable{B S H H':Hp}(e:Same B S){A:List Addr}(k:∀a∈A,H' a=H a){s:Sh}
include e k
theorem Ow.mono{d:D}{v:V}:Ow Y B H d s v A->Ow Y S H' d s v A:=Ow.imp (Dn.mono e) k
theorem Ows.mono{ds:List D}{xs:List V}:Ows Y B H ds s xs A->Ows Y S H' ds s xs A:=Ows.imp (Dn.mono e) k
theorem Owf.mono{ds:List D}{ns:List Str}{fs:List (Str×Sh)}{xs:List V}:Owf Y B H ds ns fs xs A->Owf Y S H' ds ns fs xs A:=Owf.imp (Dn.mono e) k
end
end
section
variable{Y:Cm}
mutual
theorem Ow.dn{B H G:Hp}(e:Same B G):∀{d:D} {s:Sh} {v:V} {A:List Addr},(∀a∈A,∀o,H a=some o->G a=some o)->Ow Y B H d s v A->Dn Y G d v:=by
 intro d s v A k h;cases s with
 |fz=>rw[Ow]at h;exact h.1.mono e
 |ct s=>cases d <;> first | (simp[Ow]at h;done) | (rw[Ow]at h;obtain⟨a,xs,l,r,i,c,g⟩:=h;subst c;rw[Dn];exact⟨a,xs,r,k a Vt _ i,Ows.dn e (λb f=>k b (Vu _ f)) g⟩) | (rw[Ow]at h;obtain⟨a,xs,l,r,i,c,g,j⟩:=h;subst g;rw[Dn];have q:=Ows.dn e (λb f=>k b (Vu _ f)) j;have p:=k a Vt _ i;first | exact⟨a,xs,r,p,c,q⟩ | exact⟨a,xs,r,.inl p,c,q⟩)
 |ob fs=>cases d <;> first | (simp[Ow]at h;done) | (rw[Ow]at h;obtain⟨a,dx,xs,l,r,i,c,g,j⟩:=h;subst g;rw[Dn];exact⟨a,dx,xs,r,k a Vt _ i,c,Owf.dn e (λb f=>k b (Vu _ f)) j⟩)
theorem Ows.dn{B H G:Hp}(e:Same B G):∀{ds:List D} {s:Sh} {xs:List V} {A:List Addr},(∀a∈A,∀o,H a=some o->G a=some o)->Ows Y B H ds s xs A->Dns Y G ds xs
 |[],_,_,_,_,h=>by rw[Ows]at h;rw[Dns];exact h.1
 | d::ds,s,xs,A,k,h=>by
   rw[Ows]at h;obtain⟨x,r,A1,j,h0,i,g,f⟩:=h;subst i;rw[Dns];exact⟨x,r,h0,Ow.dn e (λb c=>k b (VB _ c)) g,Ows.dn e (λb c=>k b (Vs _ c)) f⟩
theorem Owf.dn{B H G:Hp}(e:Same B G):∀{ds:List D} {ns:List Str} {fs:List (Str×Sh)} {xs:List V} {A:List Addr},(∀a∈A,∀o,H a=some o->G a=some o)->Owf Y B H ds ns fs xs A->Dns Y G ds xs
 |[],_,_,_,_,_,h=>by rw[Owf]at h;rw[Dns];exact h.1
 | d::ds,ns,fs,xs,A,k,h=>by
   rw[Owf]at h;obtain⟨n,f,x,r,A1,m,l,h0,j,i,g⟩:=h;subst j;rw[Dns];exact⟨x,r,h0,Ow.dn e (λb c=>k b (VB _ c)) i,Owf.dn e (λb c=>k b (Vs _ c)) g⟩
end
mutual
theorem Ow.at2{B H:Hp}:∀{d:D} {s:Sh} {v:V} {A:List Addr} {a:Addr},Ow Y B H d s v A->a∈A->∃o,H a=some o/\¬ cX o:=by
 intro d s v A a h m;cases s with
 |fz=>rw[Ow]at h;rw[h.2]at m;cases m
 |ct s=>cases d <;> first | (simp[Ow]at h;done) | (rw[Ow]at h;obtain⟨b,xs,j,r,f,i,c⟩:=h;subst i;exact(VA.mp m).elim (λe=>by subst e;exact⟨_,f,λ⟨_,z⟩=>nomatch z⟩) (Ows.at2 c)) | (rw[Ow]at h;obtain⟨b,xs,j,r,f,i,c,g⟩:=h;subst c;exact(VA.mp m).elim (λe=>by subst e;exact⟨_,f,λ⟨_,z⟩=>nomatch z⟩) (Ows.at2 g))
 |ob fs=>cases d <;> first | (simp[Ow]at h;done) | (rw[Ow]at h;obtain⟨b,dx,xs,j,r,f,i,c,g⟩:=h;subst c;exact(VA.mp m).elim (λe=>by subst e;exact⟨_,f,λ⟨_,z⟩=>nomatch z⟩) (Owf.at2 g))
theorem Ows.at2{B H:Hp}:∀{ds:List D} {s:Sh} {xs:List V} {A:List Addr} {a:Addr},Ows Y B H ds s xs A->a∈A->∃o,H a=some o/\¬ cX o
 |[],_,_,_,_,h,m=>by rw[Ows]at h;rw[h.2]at m;cases m
 | d::ds,s,xs,A,a,h,m=>by
   rw[Ows]at h;obtain⟨x,r,A1,f,h0,e,c,b⟩:=h;subst e;rcases Vy.mp m with m|m
   ·exact Ow.at2 c m
   ·exact Ows.at2 b m
theorem Owf.at2{B H:Hp}:∀{ds:List D} {ns:List Str} {fs:List (Str×Sh)} {xs:List V} {A:List Addr} {a:Addr},Owf Y B H ds ns fs xs A->a∈A->∃o,H a=some o/\¬ cX o
 |[],_,_,_,_,_,h,m=>by rw[Owf]at h;rw[h.2]at m;cases m
 | d::ds,ns,fs,xs,A,a,h,m=>by
   rw[Owf]at h;obtain⟨n,b,x,r,A1,i,g,h0,f,e,c⟩:=h;subst f;rcases Vy.mp m with m|m
   ·exact Ow.at2 e m
   ·exact Owf.at2 c m
end
theorem Ow.at{B H:Hp}{d:D}{s:Sh}{v:V}{A:List Addr}{a:Addr}(h:Ow Y B H d s v A)(m:a∈A):∃o,H a=some o:=let ⟨o,e,_⟩:=Ow.at2 h m;⟨o,e⟩
theorem Owf.at{B H:Hp}{ds:List D}{ns:List Str}{fs:List (Str×Sh)}{xs:List V}{A:List Addr}{a:Addr}(h:Owf Y B H ds ns fs xs A)(m:a∈A):∃o,H a=some o:=let ⟨o,e,_⟩:=Owf.at2 h m;⟨o,e⟩
theorem Ows.of{B H:Hp}:∀{ds:List D} {xs:List V},Dns Y B ds xs->Ows Y B H ds .fz xs []
 |[],_,h=>by rw[Dns]at h;rw[Ows];exact⟨h,rfl⟩
 | d::ds,_,h=>by
   rw[Dns]at h;obtain⟨x,r,h0,b,a⟩:=h;rw[Ows];exact⟨x,r,[],[],h0,rfl,by rw[Ow];exact⟨b,rfl⟩,Ows.of a⟩
theorem Ows.fz{B H:Hp}:∀{ds:List D} {xs:List V} {A:List Addr},Ows Y B H ds .fz xs A->Dns Y B ds xs/\A=[]
 |[],_,_,h=>by rw[Ows]at h;rw[Dns];exact h
 | d::ds,_,_,h=>by
   rw[Ows]at h;obtain⟨x,r,A1,g,h0,f,a,e⟩:=h;rw[Ow]at a;obtain⟨c,b⟩:=Ows.fz e;rw[Dns];exact⟨⟨x,r,h0,a.1,c⟩,by rw[f,a.2,b];rfl⟩
theorem Lo.at2{B U H:Hp}{m:Md}{o:Option D}{s:Option V}{A:List Addr}{a:Addr}(h:Lo Y B U H m o s A)(b:a∈A):∃o,H a=some o/\¬ cX o:=by
 unfold Lo at h;cases o with
 |none=>simp only at h;rw[h]at b;cases b
 |some d=>
   obtain⟨v,_,h⟩:=h;cases m with
   |F=>have h:Dn Y B d v/\A=[]:=h;rw[h.2]at b;cases b
   |R=>have h:Dn Y U d v/\A=[]:=h;rw[h.2]at b;cases b
   |O sh=>exact Ow.at2 h b
theorem Lo.at{B U H:Hp}{m:Md}{o:Option D}{s:Option V}{A:List Addr}{a:Addr}(h:Lo Y B U H m o s A)(b:a∈A):∃o,H a=some o:=let ⟨o,e,_⟩:=h.at2 b;⟨o,e⟩
theorem Lo.mono{B U H S M H':Hp}{m:Md}{o:Option D}{s:Option V}{A:List Addr}(h:Lo Y B U H m o s A)(e:Same B S)(f:Same U M)(k:∀a∈A,H' a=H a):Lo Y S M H' m o s A:=by
 unfold Lo at h ⊢;cases o with
 |none=>exact h
 |some d=>
   obtain⟨v,b,h⟩:=h;refine⟨v,b,?_⟩;cases m with
   |F=>exact⟨h.1.mono e,h.2⟩
   |R=>exact⟨h.1.mono f,h.2⟩
   |O sh=>exact Ow.mono e k h
variable{ms:List Md}{B U H S M H':Hp}{As:Nat->List Addr}{Z:St}{T:X0}
theorem Rel.at(R:Rel Y ms B U As Z H T){i:Nat}{a:Addr}(h:a∈As i):∃o,H a=some o:=(R.lo i).at h
theorem Rel.nt(R:Rel Y ms B U As Z H T){i:Nat}{a:Addr}{o:HO}(h:a∈As i)(e:H a=some o)(z:cX o):False:=by
 obtain⟨o',b,n⟩:=(R.lo i).at2 h;rw[e]at b;cases b;exact n z
theorem Rel.fresh(R:Rel Y ms B U As Z H T){p:Addr}(h:H p=none)(i:Nat):p∉As i:=λm=>by
 obtain⟨o,e⟩:=R.at m;rw[h]at e;cases e
theorem Rel.grow(R:Rel Y ms B U As Z H T)(e:Same B S)(f:Same U M)(g:Same H H')(bu:Same S M)(uh:Same M H')(un:∀i a,a∈As i->M a=none):Rel Y ms S M As Z H' T:=
 ⟨bu,uh,R.nd,R.dj,un,λi=>(R.lo i).mono e f λa b=>by
  obtain⟨o,q⟩:=R.at b
  rw[q,g a o q],R.len,λp hp=>let ⟨l,d,c⟩:=R.tb p hp;⟨l,e _ _ d,c⟩⟩
theorem Rel.bh(R:Rel Y ms B U As Z H T):Same B H:=R.bu.trans R.uh
theorem Rel.new(R:Rel Y ms B U As Z H T){p:Addr}{o:HO}(h:H p=none):Rel Y ms B U As Z (upd H p o) T:=
 R.grow (Same.refl _) (Same.refl _) (Gd.bo h) R.bu (R.uh.trans (Gd.bo h)) R.un
theorem pq{G a:Hp}{p:Addr}{o:HO}(e:Same G a):Same (upd G p o) (upd a p o):=λb u q=>by
 by_cases z:b=p
 ·subst z;rw[ao]at q ⊢;exact q
 ·rw[am z]at q ⊢;exact e b u q
theorem Rel.newB(R:Rel Y ms B U As Z H T){p:Addr}{o:HO}(h:H p=none):Rel Y ms (upd B p o) (upd U p o) As Z (upd H p o) T:=
 R.grow (Gd.bo (R.bh.free h)) (Gd.bo (R.uh.free h)) (Gd.bo h) (pq R.bu) (pq R.uh) λi a b=>by
  rw[am (λz:a=p=>R.fresh h i (z▸b))];exact R.un i a b
theorem Ex.newB(R:Rel Y ms B U As Z H T){p:Addr}{o:HO}(h:H p=none):Ex B U (upd B p o) (upd U p o):=
 ⟨Gd.bo (R.bh.free h),Gd.bo (R.uh.free h),λa u q=>by
  by_cases z:a=p
  ·subst z;exact .inr (.inl (R.uh.free h))
  ·rw[am z]at q;exact .inl q⟩
def frz(B H:Hp)(A:List Addr):Hp:=λa=>if a∈A then H a else B a
theorem bE{A:List Addr}(e:Same B H):Same B (frz B H A):=λa o q=>by
 unfold frz;split
 ·exact e a o q
 ·exact q
theorem rn{A:List Addr}(e:Same B H):Same (frz B H A) H:=λa o q=>by
 unfold frz at q;split at q
 ·exact q
 ·exact e a o q
theorem mT{A:List Addr}(e:Same B U):Same (frz B H A) (frz U H A):=λa o q=>by
 unfold frz at q ⊢;split
 ·rename_i z;rw[Vo z]at q;exact q
 ·rename_i z;rw[on z]at q;exact e a o q
end
abbrev KT(W X:Type):=W->X->Hp->Hp->Hp->List Addr->Prop
inductive Kd where
 |F|U|X
def hp:Kd->Hp->Hp->Hp->Hp
 |.F,B,_,_=>B
 |.U,_,U,_=>U
 |.X,_,_,H=>H
structure Gw (B U H S M H':Hp):Prop extends Ex B U S M where
 h:Same H H'
 fr:∀a o,M a=some o->U a=some o\/H a=none\/cX o
theorem Gw.refl(B U H:Hp):Gw B U H B U H:=⟨Ex.refl _ _,Same.refl _,λ_ _ h=>.inl h⟩
theorem Gw.trans{B U H I U1 H1 f d e:Hp}(a:Gw B U H I U1 H1)(b:Gw I U1 H1 f d e):Gw B U H f d e:=
 ⟨a.toEx.trans b.toEx,a.h.trans b.h,λc o h=>by
  rcases b.fr c o h with h|h|h
  ·exact a.fr c o h
  ·exact .inr (.inl (a.h.free h))
  ·exact .inr (.inr h)⟩
structure New (N:List Addr) (H U:Hp) (As:Nat->List Addr):Prop where
 nd:N.Nodup
 fr:∀a∈N,H a=none
 un:∀a∈N,U a=none
theorem New.nil{H U:Hp}{As:Nat->List Addr}:New [] H U As:=⟨Wg,λ_ h=>(nomatch h),λ_ h=>(nomatch h)⟩
section
variable(Y:Cm)
def Cn(G H:Hp):D->V->Prop
 |.lst ds,v=>∃a xs,v=.ref a/\H a=some (.lst xs)/\Dns Y G ds xs
 |.scr ds,v=>∃a xs,v=.ref a/\SqF Y.K H a xs/\Dns Y G ds xs
 |.tup ds,v=>∃a xs,v=.ref a/\H a=some (.tup xs)/\Dns Y G ds xs
 |.dK b ds,v=>∃(a:Addr) (kvs:List (az×V)),v=.ref a/\H a=some (.dK kvs)/\kvs.map (·.1)=b/\Dns Y G ds (kvs.map (·.2))
 |.dT b ds,v=>∃(a:Addr) (kvs:List (List az×V)),v=.ref a/\Rd H a (.dT kvs)/\kvs.map (·.1)=b/\Dns Y G ds (kvs.map (·.2))
 |.obj c ns ds,v=>∃(a dx:Addr) (fs:List (Str×V)),v=.ref a/\H a=some (.ins (Y c) dx fs)/\fs.map (·.1)=ns/\Dns Y G ds (fs.map (·.2))
 |d,v=>Dn Y G d v
def KR(k:Kd):KT D V:=λd v B U H _=>Dn Y (hp k B U H) d v
def KC(k:Kd):KT D V:=λd v B U H _=>Cn Y (hp k B U H) H d v
def KO(s:Sh):KT D V:=λd v B U H N=>Ow Y B H d s v N
def KB:KT Bool Bool:=λb c _ _ _ _=>b=c
def KL(k:Kd):KT (List D) (List V):=λd v B U H _=>Dns Y (hp k B U H) d v
def Po{W X:Type}(K:KT W X)(E:XK)(ms:List Md)(B U:Hp)(As:Nat->List Addr)(Z:St)(H:Hp)(T:X0)(r:Res W)(Q:X->Hp->Prop):Prop:=
 match r with
 |.ok d=>∀v S M H' N,Rel Y ms S M As Z H' T->Gw B U H S M H'->New N H M As->K d v S M H' N->Q v H'
 |.exc c=>∀S M H',Rel Y ms S M As Z H' T->Gw B U H S M H'->∀a,E (.ref (Y c)) a H'
 |.bad=>False
def PJ{W X:Type}(K:KT W X)(E:XK)(ms:List Md)(t:St->Hp->(X->Hp->Prop)->Prop)(m:X0->Res W):Prop:=
 ∀B U As Z H T Q,Rel Y ms B U As Z H T->Po Y K E ms B U As Z H T (m T) Q->t Z H Q
end
section
variable{Y:Cm}{E:XK}{ms:List Md}{B U H:Hp}{As:Nat->List Addr}{Z:St}{T:X0}
theorem New.up{N:List Addr}{H1:Hp}(h:New N H1 U As)(s:Same H H1):New N H U As:=⟨h.nd,λa b=>s.free (h.fr a b),h.un⟩
theorem Po.at{W X:Type}{K:KT W X}{I U1 H1:Hp}{r:Res W}{Q:X->Hp->Prop}(P:Po Y K E ms B U As Z H T r Q)(e:Gw B U H I U1 H1):Po Y K E ms I U1 As Z H1 T r Q:=by
 cases r with
 |ok d=>exact λv S M H' N b a f k=>P v S M H' N b (e.trans a) (f.up e.h) k
 |exc c=>exact λS M H' b a=>P S M H' b (e.trans a)
 |bad=>exact P
theorem PJ.bnd{W X M L:Type}{f:KT W X}{d:KT M L}{ta:St->Hp->(X->Hp->Prop)->Prop}{b:X0->Res W}(j:PJ Y f E ms ta b)(R:Rel Y ms B U As Z H T){k:W->Res M}{Q:L->Hp->Prop}
 (P:Po Y d E ms B U As Z H T ((b T).bind k) Q) {a:X->Hp->Prop}
 (h:∀x v I U1 H1 N,b T=.ok x->Rel Y ms I U1 As Z H1 T->Gw B U H I U1 H1->New N H U1 As->f x v I U1 H1 N->Po Y d E ms I U1 As Z H1 T (k x) Q->a v H1):ta Z H a:=by
 refine j B U As Z H T a R ?_;cases e:b T with
 |ok x=>
   rw[e]at P;exact λv I U1 H1 N l e1 g i=>h x v I U1 H1 N e l e1 g i (Po.at (r:=k x) P e1)
 |exc c=>rw[e]at P;exact P
 |bad=>rw[e]at P;exact P
theorem fq{k:Kd}{I U1 H1:Hp}(e:Gw B U H I U1 H1):Same (hp k B U H) (hp k I U1 H1):=by
 cases k with
 |F=>exact e.b
 |U=>exact e.u
 |X=>exact e.h
theorem Cn.mono{G j H H':Hp}(e:Same G j)(f:Same H H'){d:D}{v:V}(h:Cn Y G H d v):Cn Y j H' d v:=by
 cases d with
 |lst ds=>obtain⟨a,xs,r,g,b⟩:=h;exact⟨a,xs,r,f _ _ g,b.mono e⟩
 |scr ds=>obtain⟨a,xs,r,g,b⟩:=h;exact⟨a,xs,r,g.mono f,b.mono e⟩
 |tup ds=>obtain⟨a,xs,r,g,b⟩:=h;exact⟨a,xs,r,f _ _ g,b.mono e⟩
 |dK k ds=>obtain⟨a,xs,r,g,b,i⟩:=h;exact⟨a,xs,r,f _ _ g,b,i.mono e⟩
 |dT k ds=>obtain⟨a,xs,r,g,b,i⟩:=h;exact⟨a,xs,r,lY f g,b,i.mono e⟩
 |obj c ns ds=>obtain⟨a,dx,xs,r,g,b,i⟩:=h;exact⟨a,dx,xs,r,f _ _ g,b,i.mono e⟩
 |non=>exact Dn.mono e h
 |bl _=>exact Dn.mono e h
 |int _=>exact Dn.mono e h
 |str _=>exact Dn.mono e h
 |ty _=>exact Dn.mono e h
theorem Dn.cn{G H:Hp}(f:Same G H){d:D}{v:V}(h:Dn Y G d v):Cn Y G H d v:=by
 cases d with
 |lst ds=>rw[Dn]at h;obtain⟨a,xs,r,e,b⟩:=h;exact⟨a,xs,r,f _ _ e,b⟩
 |scr ds=>rw[Dn]at h;obtain⟨a,xs,r,e,b⟩:=h;exact⟨a,xs,r,e.mono f,b⟩
 |tup ds=>rw[Dn]at h;obtain⟨a,xs,r,e,b⟩:=h;exact⟨a,xs,r,f _ _ e,b⟩
 |dK i ds=>rw[Dn]at h;obtain⟨a,xs,r,e,b,g⟩:=h;exact⟨a,xs,r,f _ _ e,b,g⟩
 |dT i ds=>rw[Dn]at h;obtain⟨a,xs,r,e,b,g⟩:=h;exact⟨a,xs,r,lY f e,b,g⟩
 |obj c ns ds=>rw[Dn]at h;obtain⟨a,dx,xs,r,e,b,g⟩:=h;exact⟨a,dx,xs,r,f _ _ e,b,g⟩
 |non=>exact h
 |bl _=>exact h
 |int _=>exact h
 |str _=>exact h
 |ty _=>exact h
theorem Rel.hp(R:Rel Y ms B U As Z H T)(k:Kd):Same (hp k B U H) H:=by
 cases k with
 |F=>exact R.bh
 |U=>exact R.uh
 |X=>exact Same.refl _
theorem PJ.imp{W X:Type}{K b:KT W X}{t:St->Hp->(X->Hp->Prop)->Prop}{m:X0->Res W}(h:PJ Y K E ms t m)(f:∀B U As Z H T d v N,Rel Y ms B U As Z H T->K d v B U H N->b d v B U H N):PJ Y b E ms t m:=by
 intro B U As Z H T Q R P;refine h B U As Z H T Q R ?_;cases e:m T with
 |ok d=>rw[e]at P;exact λv S M H' N a i g k=>P v S M H' N a i g (f _ _ _ _ _ _ _ _ _ a k)
 |exc c=>rw[e]at P;exact P
 |bad=>rw[e]at P;exact P
section
variable{t:TE}{m:X0->Res D}{k:Kd}{s:Sh}
theorem fu(h:PJ Y (KR Y .F) E ms t m):PJ Y (KR Y .U) E ms t m:=h.imp λ_ _ _ _ _ _ _ _ _ R q=>Dn.mono R.bu q
theorem ux(h:PJ Y (KR Y .U) E ms t m):PJ Y (KR Y .X) E ms t m:=h.imp λ_ _ _ _ _ _ _ _ _ R q=>Dn.mono R.uh q
theorem fx(h:PJ Y (KR Y .F) E ms t m):PJ Y (KR Y .X) E ms t m:=ux (fu h)
theorem rc(h:PJ Y (KR Y k) E ms t m):PJ Y (KC Y k) E ms t m:=h.imp λ_ _ _ _ _ _ _ _ _ R q=>Dn.cn (R.hp k) q
theorem Rel.freeze{A:List Addr}(R:Rel Y ms B U As Z H T)(h:∀a∈A,U a=none/\∀i,a∉As i):Rel Y ms (Mi.frz B H A) (Mi.frz U H A) As Z H T/\Ex B U (Mi.frz B H A) (Mi.frz U H A):=by
 refine⟨R.grow (bE R.bh) (bE R.uh) (Same.refl _) (mT R.bu) (rn R.uh) λi a b=>?_,bE R.bh,bE R.uh,λa o q=>?_⟩
 · unfold Mi.frz;split
   ·rename_i z;exact absurd b ((h a z).2 i)
   ·exact R.un i a b
 · unfold Mi.frz at q;split at q
   ·rename_i z;exact .inr (.inl (h a z).1)
   ·exact .inl q
theorem Rel.apart(R:Rel Y ms B U As Z H T){N:List Addr}{M:Hp}(n:New N H M As):∀a∈N,∀i,a∉As i:=λa b i=>R.fresh (n.fr a b) i
theorem oF(h:PJ Y (KO Y s) E ms t m):PJ Y (KR Y .F) E ms t m:=by
 intro B U As Z H T Q R P;refine h B U As Z H T Q R ?_;cases e:m T with
 |ok d=>
   rw[e]at P;intro v S M H' N i g f j;obtain⟨R2,k⟩:=i.freeze λa b=>⟨f.un a b,R.apart f a b⟩;refine P v _ _ H' [] R2 ⟨g.toEx.trans k,g.h,λa o q=>?_⟩ New.nil (Ow.dn (bE i.bh) (λa b o q=>?_) j)
   · unfold Mi.frz at q;split at q
     ·rename_i z;exact .inr (.inl (f.fr a z))
     ·exact g.fr a o q
   ·unfold Mi.frz;rw[if_pos b];exact q
 |exc c=>rw[e]at P;exact P
 |bad=>rw[e]at P;exact P
theorem oc(h:PJ Y (KO Y (.ct .fz)) E ms t m):PJ Y (KC Y .F) E ms t m:=rc (oF h)
end
theorem bM{W:Type}{l:List (Option W)}{i:Nat}{x:W}(h:rg l i=some x):l[i]?=some (some x):=by
 unfold rg at h;cases e:l[i]? with
 |none=>rw[e]at h;cases h
 |some o=>rw[e]at h;exact congrArg some h
theorem qJ{K:KT D V}{i:Nat}(f:∀(B U:Hp) (A:List Addr) (H:Hp) (d:D) (v:V) (s:Option V),Same B U->Same U H->Lo Y B U H (ms.getD i .F) (some d) s A->s=some v->K d v B U H []):PJ Y K E ms (bI i) (vr i):=by
 intro B U As Z H T Q R P;unfold vr at P;have l:=R.lo i;cases e:rg T i with
 |none=>rw[e]at P;exact P.elim
 |some d=>
   rw[e]at P l;obtain⟨v,a,q⟩:=id l;exact⟨v,bM a,P v B U H [] R (Gw.refl _ _ _) New.nil (f B U _ H d v _ R.bu R.uh l a)⟩
theorem gk{B U H:Hp}{m:Md}{d:D}{v:V}{s:Option V}{A:List Addr}(l:Lo Y B U H m (some d) s A)(b:s=some v):LoV Y B U H m d v A:=by
 obtain⟨w,a,q⟩:=l;rw[b]at a;cases a;exact q
theorem xF{i:Nat}(b:ms.getD i .F= .F):PJ Y (KR Y .F) E ms (bI i) (vr i):=qJ λB U As H d v s _ _ l a=>by
 rw[b]at l;exact(gk l a).1
theorem xR{i:Nat}(b:ms.getD i .F= .R):PJ Y (KR Y .U) E ms (bI i) (vr i):=qJ λB U As H d v s _ _ l a=>by
 rw[b]at l;exact(gk l a).1
theorem xO{i:Nat}{sh:Sh}(c:ms.getD i .F= .O sh):PJ Y (KR Y .X) E ms (bI i) (vr i):=qJ λB U As H d v s b u l a=>by
 rw[c]at l;exact Ow.dn (b.trans u) (λ_ _ _ q=>q) (gk l a)
theorem Ow.cn{B H:Hp}{d:D}{v:V}{A:List Addr}(f:Same B H)(h:Ow Y B H d (.ct .fz) v A):Cn Y B H d v:=by
 cases d with
 |lst ds=>rw[Ow]at h;obtain⟨a,xs,i,r,b,c,g⟩:=h;exact⟨a,xs,r,b,(Ows.fz g).1⟩
 |dK j ds=>rw[Ow]at h;obtain⟨a,xs,i,r,b,c,g,e⟩:=h;exact⟨a,xs,r,b,c,(Ows.fz e).1⟩
 |dT j ds=>rw[Ow]at h;obtain⟨a,xs,i,r,b,c,g,e⟩:=h;exact⟨a,xs,r,.inl b,c,(Ows.fz e).1⟩
 |_=>simp[Ow]at h
theorem xC{i:Nat}(c:ms.getD i .F= .O (.ct .fz)):PJ Y (KC Y .F) E ms (bI i) (vr i):=qJ λB U As H d v s b u l a=>by
 rw[c]at l;exact Ow.cn (b.trans u) (gk l a)
theorem UT{d:D}{v:V}(h:∀G,Dn Y G d v):PJ Y (KR Y .F) E ms (tC v) (ay d):=λB U As Z H T Q R P=>P v B U H [] R (Gw.refl _ _ _) New.nil (h _)
theorem pI{i:Int}:PJ Y (KR Y .F) E ms (tC (.int i)) (ay (.int i)):=UT λ_=>by rw[Dn]
theorem pB{b:Bool}:PJ Y (KR Y .F) E ms (tC (.bl b)) (ay (.bl b)):=UT λ_=>by rw[Dn]
theorem pN:PJ Y (KR Y .F) E ms (tC .non) (ay .non):=UT λ_=>by rw[Dn]
end
def ud(neg:Bool)(x y:D):Res D:=if mO y=true then .ok (.bl (neg.xor (mO x))) else .bad
def dk(m:X0->Res D):X0->Res Bool:=λT=>(m T).bind Qs
def Bp(a b:X0->Res Bool):X0->Res Bool:=λT=>(a T).bind λc=>if c=true then b T else .ok false
def Ic(a b:X0->Res Bool):X0->Res Bool:=λT=>(a T).bind λc=>if c=true then .ok true else b T
section
variable{Y:Cm}{E:XK}{ms:List Md}
def S2(Y:Cm)(r:R2)(f:D->D->Res D):Prop:=∀H x y v u,Dn Y H x v->Dn Y H y u->match f x y with
 |.ok d=>∃w,(∀G,Dn Y G d w)/\∀Q:VK,Q w H->r v u H Q
 |.exc _=>False
 |.bad=>True
def S1(Y:Cm)(r:V->Hp->VK->Prop)(f:D->Res D):Prop:=∀H x v,Dn Y H x v->match f x with
 |.ok d=>∃w,(∀G,Dn Y G d w)/\∀Q:VK,Q w H->r v H Q
 |.exc _=>False
 |.bad=>True
section
variable{r:R2}{r1:V->Hp->VK->Prop}{rb:List V->Hp->VK->Prop}{f:D->D->Res D}{f1:D->Res D}{ta tb:TE}{ma mb:X0->Res D}
theorem MS(h:S2 Y r f)(j:PJ Y (KR Y .X) E ms ta ma)(i:PJ Y (KR Y .X) E ms tb mb):PJ Y (KR Y .F) E ms (sQ r ta tb) (bn f ma mb):=by
 intro B U As Z H T Q R P;refine j.bnd R P λx v I U1 H1 W _ o e1 z J p=>i.bnd o p λy u s n b A _ R2 l t m a=>?_;have q:=h b x y v u (Dn.mono l.h J) m;cases e:f x y with
 |ok d=>
   rw[e]at q a;obtain⟨w,g,k⟩:=q;exact k Q (a w s n b [] R2 (Gw.refl _ _ _) New.nil (g _))
 |exc c=>rw[e]at q;exact q.elim
 |bad=>rw[e]at a;exact a.elim
theorem Ri(h:S1 Y r1 f1)(f:PJ Y (KR Y .X) E ms ta ma):PJ Y (KR Y .F) E ms (Ux r1 ta) (un f1 ma):=by
 intro B U As Z H T Q R P;refine f.bnd R P λx v I U1 H1 W _ g e1 i J a=>?_;have q:=h H1 x v J;cases e:f1 x with
 |ok d=>
   rw[e]at q a;obtain⟨w,b,k⟩:=q;exact k Q (a w I U1 H1 [] g (Gw.refl _ _ _) New.nil (b _))
 |exc c=>rw[e]at q;exact q.elim
 |bad=>rw[e]at a;exact a.elim
theorem J1(h:S1 Y (λv H Q=>rb [v] H Q) f1)(a:PJ Y (KR Y .X) E ms ta ma):PJ Y (KR Y .F) E ms (xL rb (aA ta bx)) (un f1 ma):=Ri h a
theorem J0(h:S2 Y (λv u H Q=>rb [v,u] H Q) f)(b:PJ Y (KR Y .X) E ms ta ma)(a:PJ Y (KR Y .X) E ms tb mb):PJ Y (KR Y .F) E ms (xL rb (aA ta (aA tb bx))) (bn f ma mb):=MS h b a
end
theorem S2.imp{r a:R2}{f:D->D->Res D}(h:S2 Y r f)(k:∀x y H Q,r x y H Q->a x y H Q):S2 Y a f:=by
 intro H x y v u g b;have q:=h H x y v u g b;cases e:f x y with
 |ok d=>
   rw[e]at q;obtain⟨w,i,q⟩:=q;exact⟨w,i,λQ z=>k _ _ _ _ (q Q z)⟩
 |exc c=>rw[e]at q;exact q
 |bad=>trivial
theorem T9{g:Int->Int->Int}:S2 Y (yw λi j=>.int (g i j)) (iI g):=by
 intro H x y v u b a;cases x with
 |int i=>
   cases y with
   |int j=>
     rw[Dn]at b;rw[Dn]at a;subst b a;exact⟨.int (g i j),λ_=>by rw[Dn],λQ q=>⟨i,j,rfl,rfl,q⟩⟩
   |_=>trivial
 |_=>trivial
theorem UI{g:Int->Int->Bool}:S2 Y (yw λi j=>.bl (g i j)) (iB g):=by
 intro H x y v u b a;cases x with
 |int i=>
   cases y with
   |int j=>
     rw[Dn]at b;rw[Dn]at a;subst b a;exact⟨.bl (g i j),λ_=>by rw[Dn],λQ q=>⟨i,j,rfl,rfl,q⟩⟩
   |_=>trivial
 |_=>trivial
theorem T8{C:Int->Int->Prop}{c:Int->Int->Bool}{g:Int->Int->Int}(d:∀i j,c i j=true->C i j):S2 Y (rI C λi j=>.int (g i j)) (iC c g):=by
 intro H x y v u b a;cases x with
 |int i=>
   cases y with
   |int j=>
     rw[Dn]at b;rw[Dn]at a;subst b a;unfold iC;dsimp only;by_cases z:c i j=true
     ·rw[Vo z];exact⟨.int (g i j),λ_=>by rw[Dn],λQ q=>⟨i,j,rfl,rfl,d i j z,q⟩⟩
     ·rw[on z];trivial
   |_=>trivial
 |_=>trivial
theorem QV:S2 Y (yw λi j=>.int (i+j)) jt:=T9
theorem QB:S2 Y (yw λi j=>.int (i-j)) oT:=T9
theorem UC:S2 Y (yw λi j=>.bl (decide (i<j))) GH:=UI
theorem UF:S2 Y (yw λi j=>.bl (decide (j<i))) I9:=UI
theorem UG:S2 Y (yw λi j=>.bl (decide (j<=i))) Uo:=UI
theorem QI:S2 Y (rI CMul λi j=>.int (i*j)) qV:=T8 λ_ _ h=>by simpa [CMul] using h
theorem L3:S2 Y (rI P8 λi j=>.int (i / j)) cO:=T8 λ_ _ h=>by simpa [P8] using h
theorem QJ:S2 Y (rI (λ_ j=>0<j) λi j=>.int (i%j)) bR:=T8 λ_ _ h=>Xq h
theorem QC:S2 Y (rI (λ_ j=>0<=j) λi j=>.int (i / 2 ^ j.toNat)) BS:=T8 λ_ _ h=>Xq h
theorem QK:S2 Y (λv u H Q=>∃i j,[v,u]=[.int i,.int j]/\Q (.int (if j<i then j else i)) H) oW:=(T9 (g:=λi j=>if j<i then j else i)).imp λx y H Q ⟨i,j,c,b,a⟩=>⟨i,j,by rw[c,b],a⟩
theorem QO:S2 Y (λv u H Q=>∃i j,[v,u]=[.int i,.int j]/\Q (.int (if j>i then j else i)) H) oX:=(T9 (g:=λi j=>if j>i then j else i)).imp λx y H Q ⟨i,j,c,b,a⟩=>⟨i,j,by rw[c,b],a⟩
theorem QH:S1 Y (rU λi=>.int (-i)) Iv:=by
 intro H x v a;cases x with
 |int i=>
   rw[Dn]at a;subst a;exact⟨.int (-i),λ_=>by rw[Dn],λQ q=>⟨i,rfl,q⟩⟩
 |_=>trivial
theorem JQ(neg:Bool):S2 Y (λx y H Q=>LU x y=true/\Q (.bl (neg.xor (decide (x=y)))) H) (sR neg):=by
 intro H x y v u b a;cases x with
 |int i=>
   cases y with
   |int j=>
     rw[Dn]at b;rw[Dn]at a;subst b a;exact⟨_,λ_=>by rw[Dn],λQ q=>⟨rfl,by simpa using q⟩⟩
   |non=>
     rw[Dn]at b;rw[Dn]at a;subst b a;exact⟨_,λ_=>by rw[Dn],λQ q=>⟨rfl,by simpa using q⟩⟩
   |_=>trivial
 |str i=>
   cases y with
   |str j=>
     rw[Dn]at b;rw[Dn]at a;subst b a;exact⟨_,λ_=>by rw[Dn],λQ q=>⟨rfl,by simpa using q⟩⟩
   |_=>trivial
 |bl i=>
   cases y with
   |bl j=>
     rw[Dn]at b;rw[Dn]at a;subst b a;exact⟨_,λ_=>by rw[Dn],λQ q=>⟨rfl,by simpa using q⟩⟩
   |_=>trivial
 |non=>
   cases y with
   |int j=>
     rw[Dn]at b;rw[Dn]at a;subst b a;exact⟨_,λ_=>by rw[Dn],λQ q=>⟨rfl,by simpa using q⟩⟩
   |non=>
     rw[Dn]at b;rw[Dn]at a;subst b a;exact⟨_,λ_=>by rw[Dn],λQ q=>⟨rfl,by simpa using q⟩⟩
   |_=>trivial
 |_=>cases y<;>trivial
theorem UH:S2 Y rEq (sR false):=(JQ false).imp λx y H Q h=>⟨h.1,by simpa using h.2⟩
theorem UA:S2 Y rNe (sR true):=(JQ true).imp λx y H Q h=>⟨h.1,by simpa using h.2⟩
theorem Dn.non{G:Hp}{d:D}{v:V}(h:Dn Y G d v):decide (v=.non)=mO d:=by
 cases d with
 |non=>rw[Dn]at h;subst h;rfl
 |bl _=>rw[Dn]at h;subst h;rfl
 |int _=>rw[Dn]at h;subst h;rfl
 |str _=>rw[Dn]at h;subst h;rfl
 |ty _=>rw[Dn]at h;subst h;rfl
 |lst _=>rw[Dn]at h;obtain⟨a,xs,e,_⟩:=h;subst e;rfl
 |scr _=>rw[Dn]at h;obtain⟨a,xs,e,_⟩:=h;subst e;rfl
 |tup _=>rw[Dn]at h;obtain⟨a,xs,e,_⟩:=h;subst e;rfl
 |dK _ _=>rw[Dn]at h;obtain⟨a,xs,e,_⟩:=h;subst e;rfl
 |dT _ _=>rw[Dn]at h;obtain⟨a,xs,e,_⟩:=h;subst e;rfl
 |obj _ _ _=>rw[Dn]at h;obtain⟨a,dx,xs,e,_⟩:=h;subst e;rfl
theorem UD:S2 Y (λx y H Q=>y=.non/\Q (.bl (decide (x=.non))) H) (ud false):=by
 intro H x y v u b a;unfold ud;by_cases e:mO y=true
 · rw[Vo e]
   have:decide (u=.non)=true:=by rw[Dn.non a];exact e
   refine⟨_,λ_=>by rw[Dn],λQ q=>⟨Xq this,?_⟩⟩;rw[Dn.non b];simpa using q
 ·rw[on e];trivial
theorem QP:S1 Y (λv H Q=>∃p ys,[v]=[.ref p]/\(SqL Y.K H p ys\/SqT Y.K H p ys)/\Q (.int ys.length) H) jH:=by
 intro H x v b;cases x with
 |lst ds=>
   rw[Dn]at b;obtain⟨a,xs,rfl,d,c⟩:=b;exact⟨.int ds.length,λ_=>by rw[Dn],λQ q=>⟨a,xs,rfl,.inl (SqL.of d),by rw[<-c.len];exact q⟩⟩
 |scr ds=>
   rw[Dn]at b;obtain⟨a,xs,rfl,d,c⟩:=b;exact⟨.int ds.length,λ_=>by rw[Dn],λQ q=>⟨a,xs,rfl,.inl d.sq,by rw[<-c.len];exact q⟩⟩
 |tup ds=>
   rw[Dn]at b;obtain⟨a,xs,rfl,d,c⟩:=b;exact⟨.int ds.length,λ_=>by rw[Dn],λQ q=>⟨a,xs,rfl,.inr (SqT.of d),by rw[<-c.len];exact q⟩⟩
 |_=>trivial
theorem Rm{ta:TE}{a:X0->Res D}(d:PJ Y (KR Y .X) E ms ta a):PJ Y (KR Y .F) E ms (BJ ta) (un NH a):=by
 intro B U As Z H T Q R P;refine d.bnd R P λx v I U1 H1 W _ e e1 f J c=>?_;cases x with
 |bl b=>
   have J:Dn Y H1 (.bl b) v:=J;rw[Dn]at J;exact⟨b,J,c _ I U1 H1 [] e (Gw.refl _ _ _) New.nil (show Dn Y _ (.bl (!b)) _ by rw[Dn])⟩
 |_=>exact c.elim
theorem JY{t:TE}{m:X0->Res D}(h:PJ Y (KR Y .X) E ms t m):PJ Y KB E ms (λZ H Q=>t Z H λx H1=>∃c,x=.bl c/\Q c H1) (dk m):=by
 intro B U As Z H T Q R P;refine h.bnd R P λx v I U1 H1 W _ d e1 e J a=>?_;cases x with
 |bl b=>
   have J:Dn Y H1 (.bl b) v:=J;rw[Dn]at J;exact⟨b,J,a _ I U1 H1 [] d (Gw.refl _ _ _) New.nil rfl⟩
 |_=>exact a.elim
theorem UP{t:TE}{m:X0->Res D}(h:PJ Y (KR Y .X) E ms t m):PJ Y KB E ms (tB t) (dk m):=JY h
theorem UO{t:TE}{m:X0->Res D}(h:PJ Y (KR Y .X) E ms t m):PJ Y KB E ms (kY t) (dk m):=JY h
theorem Mg{t u:TT}{m n:X0->Res Bool}(h:PJ Y KB E ms t m)(k:PJ Y KB E ms u n):PJ Y KB E ms (LM t u) (Bp m n):=by
 intro B U As Z H T Q R P;refine h.bnd R P λx v I U1 H1 W _ a e1 c J b=>?_;cases J;cases x with
 |true=>exact k I U1 As Z H1 T Q a b
 |false=>exact b _ I U1 H1 [] a (Gw.refl _ _ _) New.nil rfl
theorem Q5{t u:TT}{m n:X0->Res Bool}(h:PJ Y KB E ms t m)(k:PJ Y KB E ms u n):PJ Y KB E ms (Uz t u) (Ic m n):=by
 intro B U As Z H T Q R P;refine h.bnd R P λx v I U1 H1 W _ a e1 c J b=>?_;cases J;cases x with
 |false=>exact k I U1 As Z H1 T Q a b
 |true=>exact b _ I U1 H1 [] a (Gw.refl _ _ _) New.nil rfl
end
section
variable{Y:Cm}{E:XK}{ms:List Md}{K:F0}
theorem cA{n:Nat}(h:n<=ac):n<sizeLine:=by
 have:=sizeLine_eq
 unfold ac at h;omega
theorem zO{G:Hp}{ds:List D}{xs:List V}{i:Int}{d:D}(h:Dns Y G ds xs)(e:j8 ds i=some d):∃v,j8 xs i=some v/\Dn Y G d v:=by
 unfold j8 at e ⊢;rw[<-h.len];cases q:mN ds.length i with
 |none=>rw[q]at e;cases e
 |some j=>
   rw[q]at e;exact h.get e
theorem Rr{k:Kd}{ta tb:TE}{s p:X0->Res D}(A:PJ Y (KC Y k) E ms ta s)(z:PJ Y (KR Y .X) E ms tb p):PJ Y (KR Y k) E ms (sQ (Hl Y.K) ta tb) (bn ES s p):=by
 intro B U As Z H T Q R P;refine A.bnd R P λx v I U1 H1 W _ F e1 M J G=>z.bnd F G λy u o n j N _ R2 t L b g=>?_;have c:=Cn.mono (fq t) t.h J;have b:Dn Y j y u:=b
 have f:∀(ds:List D) (i:Int),Po Y (KR Y k) E ms o n As Z j T (Jv ds i) Q->∀xs,Dns Y (hp k o n j) ds xs->∃w,j8 xs i=some w/\Q w j:=λds i P3 xs h=>by
  unfold Jv at P3;cases q:j8 ds i with
  |none=>rw[q]at P3;exact P3.elim
  |some d=>
    rw[q]at P3;obtain⟨w,e,C⟩:=zO h q;exact⟨w,e,P3 w o n j [] R2 (Gw.refl _ _ _) New.nil C⟩
 cases x with
 |lst ds=>
   cases y with
   |int i=>
     rw[Dn]at b;obtain⟨a,xs,r,m,l⟩:=c;obtain⟨w,e,q⟩:=f ds i g xs l;exact⟨a,xs,i,w,r,b,SqL.of m,e,q⟩
   |_=>exact g.elim
 |scr ds=>
   cases y with
   |int i=>
     rw[Dn]at b;obtain⟨a,xs,r,m,l⟩:=c;obtain⟨w,e,q⟩:=f ds i g xs l;exact⟨a,xs,i,w,r,b,m.sq,e,q⟩
   |_=>exact g.elim
 |_=>cases y<;>exact g.elim
theorem Rq{k:Kd}{ta tb:TE}{j g:X0->Res D}(s:PJ Y (KC Y k) E ms ta j)(p:PJ Y (KR Y .X) E ms tb g):PJ Y (KR Y k) E ms (sQ (CA K) ta tb) (bn yR j g):=by
 intro B U As Z H T Q R P;refine s.bnd R P λx v I U1 H1 W _ C e1 L J F=>p.bnd C F λy u n m f M _ R2 l G b e=>?_;have c:=Cn.mono (fq l) l.h J;have b:Dn Y f y u:=b;cases x with
 |tup ds=>
   cases y with
   |int i=>
     rw[Dn]at b;obtain⟨a,xs,r,z,t⟩:=c;have P3:Po Y (KR Y k) E ms n m As Z f T (Jv ds i) Q:=e;unfold Jv at P3;cases q:j8 ds i with
     |none=>rw[q]at P3;exact P3.elim
     |some d=>
       rw[q]at P3;obtain⟨w,o,A⟩:=zO t q;exact⟨a,xs,i,w,r,b,SqT.of z,o,P3 w n m f [] R2 (Gw.refl _ _ _) New.nil A⟩
   |_=>exact e.elim
 |_=>cases y<;>exact e.elim
theorem ON{k:Kd}:PJ Y (KL Y k) E ms bx ax:=λB U As Z H T Q R P=>P [] B U H [] R (Gw.refl _ _ _) New.nil (show Dns Y _ [] [] by rw[Dns])
theorem Je{k:Kd}{ta:TE}{a:TA}{c:X0->Res D}{b:X0->Res (List D)}(e:PJ Y (KR Y k) E ms ta c)(d:PJ Y (KL Y k) E ms a b):PJ Y (KL Y k) E ms (aA ta a) (ai c b):=by
 intro B U As Z H T Q R P;refine e.bnd R P λx v I U1 H1 W _ i e1 p J l=>d.bnd i l λy u n h m q _ R2 f o g j=>?_;refine j (v::u) n h m [] R2 (Gw.refl _ _ _) New.nil ?_;show Dns Y _ (x::y) (v::u);rw[Dns];exact⟨v,u,rfl,Dn.mono (fq f) J,g⟩
variable{B U H:Hp}{As:Nat->List Addr}{Z:St}{T:X0}
theorem Gw.newO(R:Rel Y ms B U As Z H T){p:Addr}{o:HO}(h:H p=none):Gw B U H B U (upd H p o):=⟨Ex.refl _ _,Gd.bo h,λ_ _ q=>.inl q⟩
theorem Gw.newB(R:Rel Y ms B U As Z H T){p:Addr}{o:HO}(h:H p=none):Gw B U H (upd B p o) (upd U p o) (upd H p o):=⟨Ex.newB R h,Gd.bo h,λa u q=>by
 by_cases z:a=p
 ·subst z;exact .inr (.inl h)
 ·rw[am z]at q;exact .inl q⟩
theorem New.one(R:Rel Y ms B U As Z H T){p:Addr}(h:H p=none):New [p] H U As:=⟨by simp,λa b=>by rw[VF.mp b];exact h,λa b=>by rw[VF.mp b];exact R.uh.free h⟩
theorem dR(R:Rel Y ms B U As Z H T){ds:List D}{xs:List V}{Q:VK}(P:Po Y (KO Y (.ct .fz)) E ms B U As Z H T (.ok (.lst ds)) Q)(h:Dns Y B ds xs){p:Addr}(hp:H p=none):Q (.ref p) (upd H p (.lst xs)):=
 P (.ref p) B U _ [p] (R.new hp) (Gw.newO R hp) (New.one R hp) (by
  show Ow Y B _ (.lst ds) (.ct .fz) (.ref p) [p];rw[Ow]
  exact⟨p,xs,[],rfl,ao,rfl,Ows.of h⟩)
theorem tW(R:Rel Y ms B U As Z H T){ds:List D}{xs:List V}{Q:VK}(P:Po Y (KR Y .F) E ms B U As Z H T (.ok (.tup ds)) Q)(h:Dns Y B ds xs){p:Addr}(hp:H p=none):Q (.ref p) (upd H p (.tup xs)):=
 P (.ref p) _ _ _ [] (R.newB hp) (Gw.newB R hp) New.nil (by
  show Dn Y (upd B p (.tup xs)) (.tup ds) (.ref p);rw[Dn]
  exact⟨p,xs,rfl,ao,h.mono (Gd.bo (R.bh.free hp))⟩)
section
variable{t:TA}{m:X0->Res (List D)}
theorem Rn(h:PJ Y (KL Y .F) E ms t m):PJ Y (KO Y (.ct .fz)) E ms (GU t) (ke m):=by
 intro B U As Z H T Q R P;refine h.bnd R P λds xs I U1 H1 W _ b e1 c J a=>?_;by_cases z:ds.length<=ac
 ·rw[Vo z]at a;have J:Dns Y I ds xs:=J;exact⟨Wj (cA (by rw[<-J.len];exact z)),λp hp=>dR b a J hp⟩
 ·rw[on z]at a;exact a.elim
theorem Rj(h:PJ Y (KL Y .F) E ms t m):PJ Y (KR Y .F) E ms (BH t) (gU m):=by
 intro B U As Z H T Q R P;refine h.bnd R P λds xs I U1 H1 W _ b e1 c J a=>?_;by_cases z:ds.length<=ac
 ·rw[Vo z]at a;have J:Dns Y I ds xs:=J;exact⟨Wj (cA (by rw[<-J.len];exact z)),λp hp=>tW b a J hp⟩
 ·rw[on z]at a;exact a.elim
end
theorem Rt:PJ Y (KO Y (.ct .fz)) E ms vT (ay (.dT [] [])):=by
 intro B U As Z H T Q R P p hp;refine P (.ref p) B U _ [p] (R.new hp) (Gw.newO R hp) (New.one R hp) ?_;show Ow Y B _ (.dT [] []) (.ct .fz) (.ref p) [p];rw[Ow];exact⟨p,[],[],rfl,ao,rfl,rfl,Ows.of (by rw[Wq,Dns])⟩
theorem Ru:PJ Y (KO Y (.ct .fz)) E ms vU (ay (.dK [] [])):=by
 intro B U As Z H T Q R P p hp;refine P (.ref p) B U _ [p] (R.new hp) (Gw.newO R hp) (New.one R hp) ?_;show Ow Y B _ (.dK [] []) (.ct .fz) (.ref p) [p];rw[Ow];exact⟨p,[],[],rfl,ao,rfl,rfl,Ows.of (by rw[Wq,Dns])⟩
theorem Pv{G:Hp}{x y:D}{v u:V}(k:Cn Y G H x v)(j:Cn Y G H y u){C:Res D->Prop}(e:C .bad->False)(P:C (F9 x y)){Q:VK}
 (h:∀ds c xs ys,Dns Y G (ds++c) (xs++ys)->C (.ok (.lst (ds++c)))->∀p,H p=none->Q (.ref p) (upd H p (.lst (xs++ys)))):L9 v u H Q:=by
 cases x with
 |lst ds=>
   cases y with
   |lst c=>
     obtain⟨a,xs,r,m,g⟩:=k;obtain⟨b,ys,i,l,f⟩:=j;have d:C (if ds.length+c.length<=ac then .ok (.lst (ds++c)) else .bad):=P;by_cases z:ds.length+c.length<=ac
     ·rw[Vo z]at d;exact⟨a,b,xs,ys,r,i,m,l,Wj (cA (by rw[<-g.len,<-f.len];exact z)),h ds c xs ys (g.append f) d⟩
     ·rw[on z]at d;exact(e d).elim
   |_=>exact(e P).elim
 |_=>cases y<;>exact(e P).elim
theorem Rw{ta tb:TE}{c a:X0->Res D}(g:PJ Y (KC Y .F) E ms ta c)(f:PJ Y (KC Y .F) E ms tb a):PJ Y (KO Y (.ct .fz)) E ms (sQ L9 ta tb) (bn F9 c a):=by
 intro B U As Z H T Q R P;refine g.bnd R P λx v I U1 H1 W _ k e1 q J m=>f.bnd k m λy u e j n t _ R2 d o i l=>?_;exact Pv (G:=e) (Cn.mono d.b d.h J) i (C:=λr=>Po Y (KO Y (.ct .fz)) E ms e j As Z n T r Q) (λh=>h) l λds s xs ys h P3 p hp=>dR R2 P3 h hp
theorem AO{G:Hp}{x:D}{v:V}(d:Cn Y G H x v){C:Res D->Prop}(e:C .bad->False)(P:C (gm x)){Q:VK}
 (h:∀ds xs,Dns Y G ds xs->C (.ok (.lst ds))->∀p,H p=none->Q (.ref p) (upd H p (.lst xs))):∃p ys,[v]=[.ref p]/\(SqL Y.K H p ys\/SqT Y.K H p ys)/\∀l,H l=none->Q (.ref l) (upd H l (.lst ys)):=by
 cases x with
 |lst ds=>
   obtain⟨a,xs,r,c,b⟩:=d;exact⟨a,xs,by rw[r],.inl (SqL.of c),h ds xs b P⟩
 |scr ds=>
   obtain⟨a,xs,r,c,b⟩:=d;exact⟨a,xs,by rw[r],.inl c.sq,h ds xs b P⟩
 |tup ds=>
   obtain⟨a,xs,r,c,b⟩:=d;exact⟨a,xs,by rw[r],.inr (SqT.of c),h ds xs b P⟩
 |_=>exact(e P).elim
theorem MZ{ta:TE}{a:X0->Res D}(b:PJ Y (KC Y .F) E ms ta a):
 PJ Y (KO Y (.ct .fz)) E ms (xL (λxs H Q=>∃p ys,xs=[.ref p]/\(SqL Y.K H p ys\/SqT Y.K H p ys)/\∀l,H l=none->Q (.ref l) (upd H l (.lst ys))) (aA ta bx)) (un gm a):=by
 intro B U As Z H T Q R P;refine b.bnd R P λx v I U1 H1 W _ c e1 e J d=>?_;exact AO (G:=I) J (C:=λr=>Po Y (KO Y (.ct .fz)) E ms I U1 As Z H1 T r Q) (λh=>h) d λds xs h P3 p hp=>dR c P3 h hp
def BE:D->Res D | .lst xs=>.ok (.tup xs)|_=>.bad
theorem H0{ta:TE}{b:X0->Res D}(d:PJ Y (KC Y .F) E ms ta b):
 PJ Y (KR Y .F) E ms (xL (λxs H Q=>∃p ys,xs=[.ref p]/\((SqL K H p ys/\∀l,H l=none->Q (.ref l) (upd H l (.tup ys)))\/(SqT K H p ys/\Q (.ref p) H))) (aA ta bx)) (un BE b):=by
 intro B U As Z H T Q R P;refine d.bnd R P λx v I U1 H1 W _ g e1 h J c=>?_;cases x with
 |lst ds=>
   obtain⟨a,xs,r,f,e⟩:=J;exact⟨a,xs,by rw[r],.inl ⟨SqL.of f,λp hp=>tW g c e hp⟩⟩
 |_=>exact c.elim
theorem eI{G:Hp}:∀{ds:List D} {xs:List V} {k:List az},bq ds=some k->Dns Y G ds xs->xs=k.map kV
 |[],_,_,e,h=>by rw[Dns]at h;cases e;rw[h];rfl
 | d::ds,_,k,e,h=>by
   rw[Dns]at h;obtain⟨x,r,rfl,a,c⟩:=h;unfold bq at e;cases q:dX d with
   |none=>rw[q]at e;cases e
   |some g=>
     cases b:bq ds with
     |none=>rw[q,b]at e;cases e
     |some f=>
       rw[q,b]at e;cases e;rw[eI b c,Vq];congr 1;cases d with
       |int i=>cases q;rw[Dn]at a;exact a
       |str x=>cases q;rw[Dn]at a;exact a
       |_=>cases q
theorem mL{G:Hp}{d:D}{v:V}{k:az}(e:dX d=some k)(h:Dn Y G d v):v=kV k:=by
 cases d with
 |int i=>cases e;rw[Dn]at h;exact h
 |str x=>cases e;rw[Dn]at h;exact h
 |_=>cases e
def OI(Y:Cm)(G:Hp):Option D->Option V->Prop
 |some d,r=>∃v,r=some v/\Dn Y G d v
 |none,r=>r=none
section
variable{W:Type}[DecidableEq W]
theorem fQ{G:Hp}:∀{kvs:List (W×V)} {ds:List D} (j:W),Dns Y G ds (kvs.map (·.2))->OI Y G (aT (kvs.map (·.1)) ds j) (cJ kvs j)
 | [],ds,j,h=>by
   cases ds with
   |nil=>exact BC
   |cons d ds=>rw[Dns]at h;obtain⟨x,r,e,_⟩:=h;cases e
 | p::kvs,ds,j,h=>by
   cases ds with
   |nil=>rw[Dns]at h;cases h
   |cons d ds=>
     rw[List.map_cons,Dns]at h;obtain⟨x,r,e,b,a⟩:=h;cases e;rw[List.map_cons];unfold aT;by_cases q:p.1=j
     ·rw[Vo q];exact⟨p.2,jx q,b⟩
     ·rw[on q,jy q];exact fQ j a
end
theorem jL{G:Hp}{d k:D}{v u:V}{o:Option D}(hd:Cn Y G H d v)(h:Dn Y H k u)(e:i0 d k=some o):∃a r,v=.ref a/\LC H a/\DGet H a u r/\OI Y G o r:=by
 cases d with
 |dT g vs=>
   obtain⟨a,kvs,rfl,f,j,i⟩:=hd;cases k with
   |tup p=>
     have e:(bq p).map (λk=>aT g vs k)=some o:=e;obtain⟨c,n,m⟩:=VJ.mp e;rw[Dn]at h;obtain⟨b,xs,rfl,s,q⟩:=h;have ex:=eI n q;subst ex;refine⟨a,cJ kvs c,rfl,.inr ⟨kvs,f⟩,.inr ⟨kvs,_,_,f,rfl,s,rfl⟩,?_⟩;have l:=fQ (W:=List az) c i;rw[j,m]at l;exact l
   |_=>cases e
 |dK g vs=>
   obtain⟨a,kvs,rfl,f,j,i⟩:=hd;have e:(dX k).map (λk=>aT g vs k)=some o:=by cases k<;>exact e
   obtain⟨c,n,m⟩:=VJ.mp e;have ex:=mL n h;subst ex;refine⟨a,cJ kvs c,rfl,.inl ⟨kvs,.inl f⟩,DGet.k f,?_⟩;have l:=fQ (W:=az) c i;rw[j,m]at l;exact l
 |_=>cases k<;>cases e
theorem M6{k:Kd}{e c:TE}{f mk:X0->Res D}(hd:PJ Y (KC Y k) E ms e f)(j:PJ Y (KR Y .X) E ms c mk):PJ Y (KR Y k) E ms (BK e c) (bn lD f mk):=by
 intro B U As Z H T Q R P;refine hd.bnd R P λx v I U1 H1 W _ t e1 G J z=>j.bnd t z λy u C s A K _ R2 i F p b=>?_;unfold lD at b;cases q:i0 x y with
 |none=>rw[q]at b;exact b.elim
 |some o=>
   obtain⟨a,r,m,_,g,l⟩:=jL (Cn.mono (fq i) i.h J) p q;cases o with
   |none=>rw[q]at b;exact b.elim
   |some d=>
     rw[q]at b;obtain⟨w,rfl,n⟩:=l;exact⟨a,w,m,g,b w C s A [] R2 (Gw.refl _ _ _) New.nil n⟩
theorem Rv{k:Kd}{e c:TE}{f mk:X0->Res D}(i:PJ Y (KR Y .X) E ms c mk)(hd:PJ Y (KC Y k) E ms e f):PJ Y (KR Y .F) E ms (LL c e) (bn (lR false) mk f):=by
 intro B U As Z H T Q R P;refine i.bnd R P λy u I U1 H1 W _ s e1 G J t=>hd.bnd s t λx v A p z K _ R2 m C n b=>?_;unfold lR at b;cases q:i0 x y with
 |none=>rw[q]at b;exact b.elim
 |some o=>
   rw[q]at b;obtain⟨a,r,j,_,g,l⟩:=jL n (Dn.mono m.h J) q;refine⟨a,r,j,g,b _ A p z [] R2 (Gw.refl _ _ _) New.nil ?_⟩;show Dn Y _ (.bl (false.xor o.isSome)) _;rw[Dn];cases o with
   |none=>rw[show r=none from l];rfl
   |some d=>obtain⟨w,rfl,_⟩:=l;rfl
theorem M5{k:Kd}{e c:TE}{f mk:X0->Res D}(i:PJ Y (KR Y .X) E ms c mk)(hd:PJ Y (KC Y k) E ms e f):PJ Y (KR Y .F) E ms (qy c e) (bn (lR true) mk f):=by
 intro B U As Z H T Q R P;refine i.bnd R P λy u I U1 H1 W _ s e1 G J t=>hd.bnd s t λx v A p z K _ R2 m C n b=>?_;unfold lR at b;cases q:i0 x y with
 |none=>rw[q]at b;exact b.elim
 |some o=>
   rw[q]at b;obtain⟨a,r,j,_,g,l⟩:=jL n (Dn.mono m.h J) q;refine⟨a,r,j,g,b _ A p z [] R2 (Gw.refl _ _ _) New.nil ?_⟩;show Dn Y _ (.bl (true.xor o.isSome)) _;rw[Dn];cases o with
   |none=>rw[show r=none from l];rfl
   |some d=>obtain⟨w,rfl,_⟩:=l;rfl
def ue:D->Bool | .dT _ _=>true | .dK _ _=>true|_=>false
theorem Cn.dic{G:Hp}{d:D}{v:V}(h:Cn Y G H d v)(e:ue d=true):∃a,v=.ref a/\LC H a:=by
 cases d with
 |dT c vs=>obtain⟨a,kvs,r,b,_⟩:=h;exact⟨a,r,.inr ⟨kvs,b⟩⟩
 |dK c vs=>obtain⟨a,kvs,r,b,_⟩:=h;exact⟨a,r,.inl ⟨kvs,.inl b⟩⟩
 |_=>cases e
def yY(b mk a:X0->Res D):X0->Res D:=λT=>(b T).bind λd=>if ue d=true then (mk T).bind λk=>(a T).bind λx=>fB d k x else .bad
theorem Ia{k:Kd}{m j i:TE}{p mk n:X0->Res D}(hd:PJ Y (KC Y k) E ms m p)(N:PJ Y (KR Y .X) E ms j mk)(M:PJ Y (KR Y k) E ms i n):PJ Y (KR Y k) E ms (vV m j i) (yY p mk n):=by
 intro B U As Z H T Q R P;refine hd.bnd R P λx v I U1 H1 W _ R1 e1 n1 J e=>?_;by_cases z:ue x=true
 · rw[if_pos z]at e;obtain⟨a,s,O⟩:=Cn.dic J z;refine⟨a,s,O,N.bnd R1 e λy u B2 U2 H2 N2 _ R2 t n2 d2 P2=>M.bnd R2 P2 λw K G A F N3 _ C f n3 V P3=>?_⟩;unfold fB at P3;have c:=Cn.mono (fq (t.trans f)) (t.trans f).h J;cases q:i0 x y with
   |none=>rw[q]at P3;exact P3.elim
   |some o=>
     rw[q]at P3;obtain⟨a',r,b,_,g,l⟩:=jL c (Dn.mono f.h d2) q;rw[s]at b;cases b;cases o with
     |none=>
       refine⟨r,g,?_⟩;rw[show r=none from l];exact P3 K G A F [] C (Gw.refl _ _ _) New.nil V
     |some d=>
       obtain⟨L,rfl,S⟩:=l;exact⟨_,g,P3 L G A F [] C (Gw.refl _ _ _) New.nil S⟩
 ·rw[on z]at e;exact e.elim
def mR(a mk:X0->Res D):X0->Res D:=λT=>(a T).bind λd=>if ue d=true then (mk T).bind λk=>fB d k .non else .bad
theorem Ib{k:Kd}{i f:TE}{j mk:X0->Res D}(hd:PJ Y (KC Y k) E ms i j)(A:PJ Y (KR Y .X) E ms f mk):PJ Y (KR Y k) E ms (vW i f) (mR j mk):=by
 intro B U As Z H T Q R P;refine hd.bnd R P λx v I U1 H1 W _ K e1 M J e=>?_;by_cases z:ue x=true
 · rw[if_pos z]at e;obtain⟨a,m,C⟩:=Cn.dic J z;refine⟨a,m,C,A.bnd K e λy u t p s O _ R2 n L G P3=>?_⟩;unfold fB at P3;have c:=Cn.mono (fq n) n.h J;cases q:i0 x y with
   |none=>rw[q]at P3;exact P3.elim
   |some o=>
     rw[q]at P3;obtain⟨N,r,b,_,g,l⟩:=jL c G q;rw[m]at b;cases b;cases o with
     |none=>
       refine⟨r,g,?_⟩;rw[show r=none from l];exact P3 .non t p s [] R2 (Gw.refl _ _ _) New.nil (show Dn Y _ .non .non by rw[Dn])
     |some d=>
       obtain⟨w,rfl,F⟩:=l;exact⟨_,g,P3 w t p s [] R2 (Gw.refl _ _ _) New.nil F⟩
 ·rw[on z]at e;exact e.elim
end
section
variable{Y:Cm}{E:XK}{ms:List Md}{K:F0}{B U H:Hp}{As:Nat->List Addr}{Z:St}{T:X0}
theorem mE{G:Hp}:∀{fs:List (Str×V)} {ds:List D} {f:Str} {d:D},Dns Y G ds (fs.map (·.2))->aT (fs.map (·.1)) ds f=some d->∃v,fs.lookup f=some v/\Dn Y G d v
 |[],ds,f,d,h,e=>by cases ds<;>cases e
 | p::fs,ds,f,d,h,e=>by
   cases ds with
   |nil=>cases e
   |cons d0 ds=>
     rw[List.map_cons,Dns]at h;obtain⟨x,r,e0,c,b⟩:=h;cases e0;rw[List.map_cons]at e;unfold aT at e;by_cases q:p.1=f
     ·rw[Vo q]at e;cases e;exact⟨p.2,by rw[V1,<-q,WL],c⟩
     · rw[on q]at e;obtain⟨v,a,g⟩:=mE b e
       have:(f==p.1)=false:=V5.mpr λz=>q z.symm
       exact⟨v,by rw[V1,this];exact a,g⟩
theorem Owf.get{B H:Hp}{sh:List (Str×Sh)}:∀{fs:List (Str×V)} {ds:List D} {A:List Addr} {f:Str} {d:D},Owf Y B H ds (fs.map (·.1)) sh (fs.map (·.2)) A->aT (fs.map (·.1)) ds f=some d->
 ∃v A1,fs.lookup f=some v/\Ow Y B H d ((sh.lookup f).getD .fz) v A1/\∀a∈A1,a∈A
 |[],ds,A,f,d,h,e=>by cases ds<;>cases e
 | p::fs,ds,A,f,d,h,e=>by
   cases ds with
   |nil=>cases e
   |cons d0 ds=>
     rw[List.map_cons,List.map_cons,Owf]at h;obtain⟨n,i,x,r,A1,t,k,h0,o,c,m⟩:=h;cases k;cases h0;subst o;rw[List.map_cons]at e;unfold aT at e;by_cases q:p.1=f
     ·rw[Vo q]at e;cases e;rw[q]at c;exact⟨p.2,A1,by rw[V1,<-q,WL],c,λa b=>VB _ b⟩
     · rw[on q]at e;obtain⟨v,s,j,g,l⟩:=Owf.get m e
       have:(f==p.1)=false:=V5.mpr λz=>q z.symm
       exact⟨v,s,by rw[V1,this];exact j,g,λa b=>Vs _ (l a b)⟩
theorem rs{c:Nat}{f:Str}{x d:D}(h:bb c f x=.ok d):∃ns vs,x=.obj c ns vs/\aT ns vs f=some d:=by
 cases x with
 |obj a ns vs=>
   unfold bb at h;dsimp only at h;by_cases e:a=c
   · rw[Vo e]at h;subst e;cases q:aT ns vs f with
     |none=>rw[q]at h;cases h
     |some y=>rw[q]at h;cases h;exact⟨ns,vs,rfl,q⟩
   ·rw[on e]at h;cases h
 |_=>cases h
theorem mV{c:Nat}{f:Str}{x:D}{e:Nat}(h:bb c f x=.exc e):False:=by
 cases x with
 |obj a ns vs=>
   have h:(if a=c then (match aT ns vs f with|some x=>Res.ok x|none=>.bad) else .bad)=.exc e:=h;by_cases e:a=c
   ·rw[Vo e]at h;cases q:aT ns vs f<;>(rw[q]at h;cases h)
   ·rw[on e]at h;cases h
 |_=>cases h
theorem Rs{k:Kd}{c:Nat}{f:Str}{ta:TE}{g:X0->Res D}(j:Cls K (Y c))(i:NoAttr K (Y c) f)(m:PJ Y (KC Y k) E ms ta g):PJ Y (KR Y k) E ms (l6 K ta f) (un (bb c f) g):=by
 intro B U As Z H T Q R P;refine m.bnd R P λx v I U1 H1 W _ s e1 t J b=>?_;cases e:bb c f x with
 |ok d=>
   rw[e]at b;obtain⟨ns,vs,rfl,l⟩:=rs e;obtain⟨a,dx,fs,r,p,o,n⟩:=J;subst o;obtain⟨w,h,q⟩:=mE n l;exact⟨a,_,dx,fs,w,r,p,j,i,h,b w I U1 H1 [] s (Gw.refl _ _ _) New.nil q⟩
 |exc u=>exact(mV e).elim
 |bad=>rw[e]at b;exact b.elim
theorem M0{g:KT D V}{c:Nat}{f:Str}{i:Nat}{sh:List (Str×Sh)}(p:Cls K (Y c))(m:NoAttr K (Y c) f)(n:ms.getD i .F= .O (.ob sh))
 (o:∀B U H d v A,Same B U->Same U H->Ow Y B H d ((sh.lookup f).getD .fz) v A->g d v B U H []):PJ Y g E ms (l6 K (bI i) f) (un (bb c f) (vr i)):=by
 intro B U As Z H T Q R P;have l:=R.lo i;rw[n]at l;unfold un vr at P;cases e:rg T i with
 |none=>rw[e]at P;exact P.elim
 |some d0=>
   rw[e]at P l;obtain⟨v,k,q⟩:=l;replace P:Po Y g E ms B U As Z H T (bb c f d0) Q:=P;refine⟨v,bM k,?_⟩;cases b:bb c f d0 with
   |ok d=>
     rw[b]at P;obtain⟨ns,vs,rfl,l⟩:=rs b;have q:Ow Y B H (.obj c ns vs) (.ob sh) v (As i):=q;rw[Ow]at q;obtain⟨a,dx,fs,z,r,u,t,x,s⟩:=q;subst t;obtain⟨w,A1,j,h,_⟩:=Owf.get s l;exact⟨a,_,dx,fs,w,r,u,p,m,j,P w B U H [] R (Gw.refl _ _ _) New.nil (o B U H d w A1 R.bu R.uh h)⟩
   |exc y=>exact(mV b).elim
   |bad=>rw[b]at P;exact P.elim
theorem M3{c:Nat}{f:Str}{i:Nat}{sh:List (Str×Sh)}(j:Cls K (Y c))(e:NoAttr K (Y c) f)(g:ms.getD i .F= .O (.ob sh))(h:(sh.lookup f).getD .fz=.ct .fz):PJ Y (KC Y .F) E ms (l6 K (bI i) f) (un (bb c f) (vr i)):=
 M0 j e g λB U H d v A b u a=>by
  rw[h]at a;exact Ow.cn (b.trans u) a
def Bs(J:It)(H:Hp)(vs:List V):Prop:=∀a,Same H a->(∀i,vs.length<=i->J.stop i a)/\(∀i,i<vs.length->J.go i a)/\∀i x H',i<vs.length->J.yld i a x H'->H'=a/\vs[i]?=some x
def KI(Y:Cm)(k g:Kd):KT (List D) It:=λds J B U H _=>∃vs,Bs J (hp g B U H) vs/\Dns Y (hp k B U H) ds vs
theorem iK{a:Addr}{xs:List V}(h:H a=some (.lst xs)\/SqF K H a xs):Bs (Qq K a) H xs:=λb s=>by
 have q:SqL K b a xs:=by
  rcases h with h|h
  ·exact .inl (.inl (s _ _ h))
  ·exact(h.mono s).sq
 exact⟨λi hi=>⟨xs,q,hi⟩,λi hi=>⟨xs,xs[i],q,VH hi⟩,λi x H' hi y=>⟨y.1,y.2 xs q⟩⟩
theorem uc(lo:Int)(n:Nat):Bs (T4 lo n) H ((List.range n).map λi:Nat=>V.int (lo+i)):=λb s=>by
 have a:((List.range n).map λi:Nat=>V.int (lo+i)).length=n:=by rw[Vr,Xp]
 refine⟨λi hi=>by rw[a]at hi;exact hi,λi hi=>by rw[a]at hi;exact hi,λi x H' hi y=>⟨y.1,?_⟩⟩;rw[a]at hi;rw[VN,Xg hi,y.2];rfl
theorem rH{G:Hp}(lo:Int):∀n:Nat,Dns Y G ((List.range n).map λi:Nat=>D.int (lo+i)) ((List.range n).map λi:Nat=>V.int (lo+i))
 |0=>by rw[List.range_zero,Wq,Wq,Dns]
 | n+1=>by
   rw[List.range_succ,V7,V7];exact(rH lo n).append (Dns.one (by rw[Dn]))
theorem OG{k:Kd}{ta:TE}{e:X0->Res D}(g:PJ Y (KC Y k) E ms ta e):PJ Y (KI Y k .X) E ms (iY Y.K ta) (i9 e):=by
 intro B U As Z H T Q R P;refine g.bnd R P λx v I U1 H1 W _ f e1 h J d=>?_;cases x with
 |lst ds=>
   obtain⟨a,xs,r,b,c⟩:=J;exact⟨a,r,⟨xs,SqL.of b⟩,d _ I U1 H1 [] f (Gw.refl _ _ _) New.nil ⟨xs,iK (.inl b),c⟩⟩
 |scr ds=>
   obtain⟨a,xs,r,b,c⟩:=J;exact⟨a,r,⟨xs,b.sq⟩,d _ I U1 H1 [] f (Gw.refl _ _ _) New.nil ⟨xs,iK (.inr b),c⟩⟩
 |_=>exact d.elim
theorem yV{k:Kd}{ta:TE}{f:X0->Res D}(g:PJ Y (KR Y k) E ms ta f):PJ Y (KI Y k k) E ms (iY Y.K ta) (i9 f):=by
 intro B U As Z H T Q R P;refine g.bnd R P λx v I U1 H1 W _ c e1 h J e=>?_;have J:Dn Y (hp k I U1 H1) x v:=J;cases x with
 |lst ds=>
   rw[Dn]at J;obtain⟨a,xs,r,b,d⟩:=J;exact⟨a,r,⟨xs,SqL.of (c.hp k _ _ b)⟩,e _ I U1 H1 [] c (Gw.refl _ _ _) New.nil ⟨xs,iK (.inl b),d⟩⟩
 |scr ds=>
   rw[Dn]at J;obtain⟨a,xs,r,b,d⟩:=J;exact⟨a,r,⟨xs,(b.mono (c.hp k)).sq⟩,e _ I U1 H1 [] c (Gw.refl _ _ _) New.nil ⟨xs,iK (.inr b),d⟩⟩
 |_=>exact e.elim
theorem U6{g:Kd}{ta tb:TE}{e d:X0->Res D}(l:PJ Y (KR Y .X) E ms ta e)(k:PJ Y (KR Y .X) E ms tb d):PJ Y (KI Y .F g) E ms (EX (aA ta (aA tb bx))) (vX e d):=by
 intro B U As Z H T Q R P;refine l.bnd R P λx v I U1 H1 W _ m e1 p J n=>k.bnd m n λy u h f c r _ R2 q o b a=>?_;have J:Dn Y H1 x v:=J;have b:Dn Y c y u:=b;cases x with
 |int i=>
   cases y with
   |int j=>
     rw[Dn]at J;rw[Dn]at b;subst J b;have a:Po Y (KI Y .F g) E ms h f As Z c T (if -(2 ^ 62)<=i/\i<2 ^ 62/\-(2 ^ 62)<=j/\j<2 ^ 62 then .ok (rng i j) else .bad) Q:=a;by_cases z:-(2 ^ 62)<=i/\i<2 ^ 62/\-(2 ^ 62)<=j/\j<2 ^ 62
     ·rw[Vo z]at a;exact⟨i,j,rfl,z,a _ h f c [] R2 (Gw.refl _ _ _) New.nil ⟨_,uc i _,rH i _⟩⟩
     ·rw[on z]at a;exact a.elim
   |_=>exact a.elim
 |_=>cases y<;>exact a.elim
theorem U7{g:Kd}{tb:TE}{c:X0->Res D}(k:PJ Y (KR Y .X) E ms tb c):PJ Y (KI Y .F g) E ms (EY (aA tb bx)) (cZ c):=by
 intro B U As Z H T Q R P
 have P:Po Y (KI Y .F g) E ms B U As Z H T ((c T).bind λy=>match D.int 0,y with
  |.int i,.int j=>if -(2 ^ 62)<=i/\i<2 ^ 62/\-(2 ^ 62)<=j/\j<2 ^ 62 then .ok (rng i j) else .bad
  |_,_=>.bad) Q:=P
 refine k.bnd R P λy u h f d n _ R2 m l b a=>?_;have b:Dn Y d y u:=b;cases y with
 |int j=>
   rw[Dn]at b;subst b;have a:Po Y (KI Y .F g) E ms h f As Z d T (if -(2 ^ 62)<=(0:Int)/\(0:Int)<2 ^ 62/\-(2 ^ 62)<=j/\j<2 ^ 62 then .ok (rng 0 j) else .bad) Q:=a;by_cases z:-(2 ^ 62)<=(0:Int)/\(0:Int)<2 ^ 62/\-(2 ^ 62)<=j/\j<2 ^ 62
   · rw[Vo z]at a;refine⟨j,rfl,z.2.2.1,z.2.2.2,a _ h f d [] R2 (Gw.refl _ _ _) New.nil ?_⟩;have e:(j-0).toNat=j.toNat:=by rw[Int.sub_zero]
     unfold rng;rw[e];exact⟨_,uc 0 _,rH 0 _⟩
   ·rw[on z]at a;exact a.elim
 |_=>exact a.elim
theorem x6{W:Type}{l:List (Option W)}{x:Option W}{i:Nat}:rg (x::l) (i+1)=rg l i:=by unfold rg;rw[List.getElem?_cons_succ]
theorem x5{W:Type}{l:List (Option W)}{x:Option W}:rg (x::l) 0=x:=by unfold rg;rw[List.getElem?_cons_zero];rfl
theorem B5{W:Type}{l:List (Option W)}{a:List Nat}{j:Nat}:rg (a.map λi=>rg l i) j=match a[j]? with|some i=>rg l i|none=>none:=by
 unfold rg;rw[List.getElem?_map];cases a[j]?<;>rfl
theorem tU:∀{l:List Nat} {i j:Nat},l.Nodup->(a:i<l.length)->(b:j<l.length)->l[i]=l[j]->i=j
 |[],_,_,_,a,_,_=>by simp at a
 |x::l,0,0,_,_,_,_=>rfl
 | x::l,0,j+1,nd,a,b,e=>by
   have c:j<l.length:=by simpa using b
   exact absurd (show x∈l from by rw[show x=l[j] from e];exact Yi c) (VM.mp nd).1
 | x::l,i+1,0,nd,a,b,e=>by
   have c:i<l.length:=by simpa using a
   exact absurd (show x∈l from by rw[show x=l[i] from e.symm];exact Yi c) (VM.mp nd).1
 | x::l,i+1,j+1,nd,a,b,e=>by
   rw[tU (VM.mp nd).2 (by simpa using a) (by simpa using b) e]
def Vg(As:Nat->List Addr)(a:List Nat):Nat->List Addr
 |0=>[]
 |j+1=>match a[j]? with|some i=>As i|none=>[]
def ia(m:Md)(ms:List Md)(a:List Nat):List Md:=m::a.map λi=>ms.getD i .F
theorem Rel.inner(R:Rel Y ms B U As Z H T){b:List Nat}(k:b.Nodup){m:Md}{d:D}{v:V}(hd:Lo Y B U H m (some d) (some v) []):
 Rel Y (ia m ms b) B U (Vg As b) (some v::gb Z b) H (some d::cz T b) where
 bu:=R.bu
 uh:=R.uh
 nd:=λi=>by
  cases i with
  |zero=>exact Wg
  |succ j=>
    show(match b[j]? with|some i=>As i|none=>[]).Nodup;cases b[j]? with
    |none=>exact Wg
    |some i=>exact R.nd i
 dj:=λi j a h c f=>by
  cases i with
  |zero=>cases c
  |succ i=>
    cases j with
    |zero=>cases f
    |succ j=>
      have c:a∈(match b[i]? with|some i=>As i|none=>[]):=c;have f:a∈(match b[j]? with|some i=>As i|none=>[]):=f;cases g:b[i]? with
      |none=>rw[g]at c;cases c
      |some x=>
        cases l:b[j]? with
        |none=>rw[l]at f;cases f
        |some y=>
          rw[g]at c;rw[l]at f;by_cases e:x=y
          · subst e;obtain⟨p,e1⟩:=VI.mp g;obtain⟨o,n⟩:=VI.mp l
            have:=tU k p o (e1.trans n.symm)
            exact h (by rw[this])
          ·exact R.dj x y a e c f
 tb:=R.tb
 un:=λi a c=>by
  cases i with
  |zero=>cases c
  |succ i=>
    have c:a∈(match b[i]? with|some i=>As i|none=>[]):=c;cases g:b[i]? with
    |none=>rw[g]at c;cases c
    |some x=>rw[g]at c;exact R.un x a c
 lo:=λi=>by
  cases i with
  |zero=>
    rw[x5,x5];exact hd
  |succ j=>
    rw[x6,x6];unfold gb cz;have e1:rg (b.map λj=>rg T j) j=match b[j]? with|some i=>rg T i|none=>none:=B5
    have n:rg (b.map λj=>(Z[j]?).join) j=match b[j]? with|some i=>rg Z i|none=>none:=B5
    rw[e1,n];show Lo Y B U H ((m::b.map λi=>ms.getD i .F).getD (j+1) .F) _ _ (match b[j]? with|some i=>As i|none=>[]);rw[WI,VL,VN];cases b[j]? with
    |none=>exact rfl
    |some i=>exact R.lo i
 len:=by
  rw[Vx,Vx,gb,cz,Vr,Vr]
theorem Rel.poke(R:Rel Y ms B U As Z H T){p:Addr}{o:HO}(b:U p=none)(c:∀i,p∉As i):Rel Y ms B U As Z (upd H p o) T:=
 ⟨R.bu,λa u q=>by rw[am (aL q b)];exact R.uh a u q,R.nd,R.dj,R.un,λi=>(R.lo i).mono (Same.refl _) (Same.refl _) λa h=>am (λz:a=p=>c i (z▸h)),R.len,R.tb⟩
theorem iM{W:Type}{l:List W}{i:Nat}{x:W}(h:l[i]?=some x):l.drop i=x::l.drop (i+1):=by
 obtain⟨b,a⟩:=VI.mp h;rw[Xf b,a]
theorem Jo{k M:Kd}{m0:Md}{S:KT D V}{f:List Nat}{ti:TT}{te:TE}{mi:X0->Res Bool}{me:X0->Res D}(hix:f.Nodup)(h0:∀B U H d v,Same B U->Same U H->Dn Y (hp k B U H) d v->Lo Y B U H m0 (some d) (some v) [])
 (hti:PJ Y KB E0 (ia m0 ms f) ti mi) (hte:PJ Y (KR Y M) E0 (ia m0 ms f) te me)
 (fin:∀B U As Z H T I U1 H1 Q n ys p,Rel Y ms I U1 As Z H1 T->Gw B U H I U1 H1->H p=none->U1 p=none->(∀i,p∉As i)->H1 p=some (.lst ys)->Dns Y (hp M I U1 H1) n ys->Po Y S E ms B U As Z H T (.ok (.lst n)) Q->Q (.ref p) H1)
 (hk':M= .F\/M= .U) {As:Nat->List Addr} {Z:St} {T:X0} {Q:VK} {ds:List D} {J:It} {I U1 H1:Hp} {vs:List V} (R1:Rel Y ms I U1 As Z H1 T) (hJ:Bs J H1 vs) (hd:Dns Y (hp k I U1 H1) ds vs)
 (P1:Po Y S E ms I U1 As Z H1 T (if ds.length<ac then (aI mi me (cz T f) ds).bind λr=>.ok (.lst r) else .bad) Q) (p:Addr) (hp:H1 p=none):vE J (λv=>some v::gb Z f) ti te p H1 Q:=by
 by_cases z:ds.length<ac
 · rw[Vo z]at P1;have hvl:ds.length=vs.length:=hd.len;have hpA:∀i,p∉As i:=λi=>R1.fresh hp i
   have G:∀{t l L B3 P H3:Hp},Gw t l L B3 P H3->Same (Mi.hp M t l (λ_=>none)) (Mi.hp M B3 P (λ_=>none)):=λg=>by
    rcases hk' with e|e<;>subst e
    ·exact g.b
    ·exact g.u
   have hpe:∀{t l L:Hp},Mi.hp M t l L=Mi.hp M t l (λ_=>none):=λ{t l L}=>by rcases hk' with e|e<;>subst e<;>rfl
   refine⟨λi m ys L=>i<=ds.length/\m=ds.length-i/\L p=some (.lst ys)/\ys.length<=i/\∃t l n,Rel Y ms t l As Z L T/\Gw I U1 H1 t l L/\l p=none/\Dns Y (Mi.hp M t l (λ_=>none)) n ys/\
    Po Y S E ms I U1 As Z H1 T ((aI mi me (cz T f) (ds.drop i)).bind λr=>.ok (.lst (n++r))) Q,⟨ds.length,Wr _,rfl,ao,VG _,I,U1,[],R1.new hp,Gw.newO R1 hp,R1.uh.free hp,by rw[Dns],P1⟩,?_⟩
   rintro i m ys L ⟨hi,rfl,W,hle,t,l,n,R2,g2,u2,dz,w⟩;have C:=hJ L g2.h;refine⟨W,WA hle (cA (Wj (WA hi z))),?_⟩;by_cases hlt:i<ds.length
   · refine .inr ⟨C.2.1 i (by omega),λv H3 hyl=>?_⟩;obtain⟨rfl,ev⟩:=C.2.2 i v H3 (by omega) hyl;obtain⟨d,ed,dd⟩:=hd.geti ev;rw[iM ed,aI]at w;have RI:=R2.inner hix (h0 t l H3 d v R2.bu R2.uh (Dn.mono (fq g2) dd));refine hti t l _ _ H3 _ _ RI ?_;cases eb:mi (some d::cz T f) with
     |ok c=>
       rw[eb]at w;intro b B3 P H4 N3 K s n3 hb;cases hb
       have up3:P p=none:=by
        cases q:P p with
        |none=>rfl
        |some o=>
          rcases s.fr p o q with z|z|⟨xs,z⟩
          ·rw[u2]at z;cases z
          ·rw[W]at z;cases z
          ·subst z;have:=K.uh p _ q;rw[s.h _ _ W]at this;cases this
       have R3:Rel Y ms B3 P As Z H4 T:=R2.grow s.b s.u s.h K.bu K.uh λj a N=>by
        cases q:P a with
        |none=>rfl
        |some o=>
          rcases s.fr a o q with z|z|z
          ·rw[R2.un j a N]at z;cases z
          ·obtain⟨o',A⟩:=R2.at N;rw[z]at A;cases A
          ·obtain⟨o',A⟩:=R2.at N;have e1:=s.h _ _ A;rw[K.uh a _ q]at e1;cases e1;exact(R2.nt N A z).elim
       cases c with
       |false=>
         rw[on VC];exact⟨ds.length-(i+1),by omega,hlt,rfl,s.h _ _ W,by omega,B3,P,n,R3,g2.trans s,up3,dz.mono (G s),w⟩
       |true=>
         rw[Vo rfl];refine hte B3 P _ _ H4 _ _ K ?_;cases ee:me (some d::cz T f) with
         |ok x=>
           have P3:Po Y S E ms I U1 As Z H1 T (((me (some d::cz T f)).calm.bind λx=>(aI mi me (cz T f) (ds.drop (i+1))).bind λxs=>.ok (x::xs)).bind λr=>.ok (.lst (n++r))) Q:=w;rw[ee]at P3;intro y B4 X H5 N4 R O n4 hx;have y5:H5 p=some (.lst ys):=O.h _ _ (s.h _ _ W)
           have up4:X p=none:=by
            cases q:X p with
            |none=>rfl
            |some o=>
              rcases O.fr p o q with z|z|⟨xs,z⟩
              ·rw[up3]at z;cases z
              ·rw[s.h _ _ W]at z;cases z
              ·subst z;have:=R.uh p _ q;rw[y5]at this;cases this
           have R4:Rel Y ms B4 X As Z H5 T:=R3.grow O.b O.u O.h R.bu R.uh λj a N=>by
            cases q:X a with
            |none=>rfl
            |some o=>
              rcases O.fr a o q with z|z|z
              ·rw[R3.un j a N]at z;cases z
              ·obtain⟨o',A⟩:=R3.at N;rw[z]at A;cases A
              ·obtain⟨o',A⟩:=R3.at N;have e1:=O.h _ _ A;rw[R.uh a _ q]at e1;cases e1;exact(R3.nt N A z).elim
           have g5:Gw I U1 H1 B4 X (upd H5 p (.lst (ys++[y]))):=by
            have g:=(g2.trans s).trans O;exact⟨g.toEx,λa o q=>by rw[am (aL q hp)];exact g.h a o q,g.fr⟩
           refine⟨y5,ds.length-(i+1),by omega,hlt,rfl,ao,by rw[Vw,Wz];omega,B4,X,n++[x],R4.poke up4 hpA,g5,up4,(dz.mono (G (s.trans O))).append (Dns.one ?_),?_⟩
           ·have hx:Dn Y (Mi.hp M B4 X H5) x y:=hx;rw[hpe]at hx;exact hx
           · cases eg:aI mi me (cz T f) (ds.drop (i+1)) with
             |ok r=>
               rw[eg]at P3;show Po Y S E ms I U1 As Z H1 T (.ok (.lst (n++[x]++r))) Q;rw[Wk];exact P3
             |exc c=>rw[eg]at P3;exact P3
             |bad=>rw[eg]at P3;exact P3
         |exc c=>
           have P3:Po Y S E ms I U1 As Z H1 T (((me (some d::cz T f)).calm.bind λx=>(aI mi me (cz T f) (ds.drop (i+1))).bind λxs=>.ok (x::xs)).bind λr=>.ok (.lst (n++r))) Q:=w;rw[ee]at P3;exact P3.elim
         |bad=>
           have P3:Po Y S E ms I U1 As Z H1 T (((me (some d::cz T f)).calm.bind λx=>(aI mi me (cz T f) (ds.drop (i+1))).bind λxs=>.ok (x::xs)).bind λr=>.ok (.lst (n++r))) Q:=w;rw[ee]at P3;exact P3.elim
     |exc c=>rw[eb]at w;exact w.elim
     |bad=>rw[eb]at w;exact w.elim
   · have e:i=ds.length:=by omega
     subst e;rw[Xx,aI]at w;refine .inl ⟨C.1 _ (by omega),?_⟩;have P3:Po Y S E ms I U1 As Z H1 T (.ok (.lst (n++[]))) Q:=w;rw[V3]at P3;exact fin I U1 As Z H1 T t l L Q n ys p R2 g2 hp u2 hpA W (by rw[hpe];exact dz) P3
 ·rw[on z]at P1;exact P1.elim
theorem zM{k b:Kd}{c:Md}{o:KT D V}{m:TI}{a:List Nat}{n:TT}{te:TE}{src:X0->Res (List D)}{mi:X0->Res Bool}{me:X0->Res D}
 (q:PJ Y (KI Y k .X) E ms m src) (h:a.Nodup) (h0:∀B U H d v,Same B U->Same U H->Dn Y (hp k B U H) d v->Lo Y B U H c (some d) (some v) [])
 (e:PJ Y KB E0 (ia c ms a) n mi) (f:PJ Y (KR Y b) E0 (ia c ms a) te me)
 (j:∀B U As Z H T I U1 H1 Q l ys p,Rel Y ms I U1 As Z H1 T->Gw B U H I U1 H1->H p=none->U1 p=none->(∀i,p∉As i)->H1 p=some (.lst ys)->Dns Y (hp b I U1 H1) l ys->Po Y o E ms B U As Z H T (.ok (.lst l)) Q->Q (.ref p) H1)
 (g:b= .F\/b= .U):PJ Y o E ms (gY m a n te) (fc src a mi me):=by
 intro B U As Z H T Q R P;refine q.bnd R P λds J I U1 H1 W _ s e1 u ⟨vs,r,hd⟩ t p hp=>?_;exact Jo h h0 e f j g s r hd t p hp
theorem SK{B U H:Hp}{d:D}{v:V}(_:Same B U)(_:Same U H)(h:Dn Y (hp .F B U H) d v):Lo Y B U H .F (some d) (some v) []:=⟨v,rfl,h,rfl⟩
theorem inU{B U H:Hp}{d:D}{v:V}(_:Same B U)(_:Same U H)(h:Dn Y (hp .U B U H) d v):Lo Y B U H .R (some d) (some v) []:=⟨v,rfl,h,rfl⟩
theorem SR{B U:Hp}{As:Nat->List Addr}{Z:St}{H:Hp}{T:X0}{I U1 H1:Hp}{Q:VK}{b:List D}{ys:List V}{p:Addr}(R:Rel Y ms I U1 As Z H1 T)(g:Gw B U H I U1 H1)(hp:H p=none)(u:U1 p=none)(c:∀i,p∉As i)(h:H1 p=some (.lst ys))
 (d:Dns Y (Mi.hp .F I U1 H1) b ys) (P:Po Y (KO Y (.ct .fz)) E ms B U As Z H T (.ok (.lst b)) Q):Q (.ref p) H1:=
 P (.ref p) I U1 H1 [p] R g ⟨by simp,λa q=>by rw[VF.mp q];exact hp,λa q=>by rw[VF.mp q];exact u⟩ (by
  show Ow Y I H1 (.lst b) (.ct .fz) (.ref p) [p];rw[Ow]
  exact⟨p,ys,[],rfl,h,rfl,Ows.of d⟩)
section
variable{wi:TI}{ix:List Nat}{ti:TT}{te:TE}{src:X0->Res (List D)}{mi:X0->Res Bool}{me:X0->Res D}
theorem Mc:PJ Y KB E ms LJ (λ_=>.ok true):=λB U As Z H T Q R P=>P _ B U H [] R (Gw.refl _ _ _) New.nil rfl
theorem C6(d:PJ Y (KI Y .F .X) E ms wi src)(c:ix.Nodup)(a:PJ Y KB E0 (ia .F ms ix) ti mi)(b:PJ Y (KR Y .F) E0 (ia .F ms ix) te me):PJ Y (KO Y (.ct .fz)) E ms (gY wi ix ti te) (fc src ix mi me):=
 zM d c (λ_ _ _ _ _=>SK) a b (λ_ _ _ _ _ _ _ _ _ _ _ _ _=>SR) (.inl rfl)
theorem C4(d:PJ Y (KI Y .U .X) E ms wi src)(c:ix.Nodup)(a:PJ Y KB E0 (ia .R ms ix) ti mi)(b:PJ Y (KR Y .F) E0 (ia .R ms ix) te me):PJ Y (KO Y (.ct .fz)) E ms (gY wi ix ti te) (fc src ix mi me):=
 zM d c (λ_ _ _ _ _=>inU) a b (λ_ _ _ _ _ _ _ _ _ _ _ _ _=>SR) (.inl rfl)
end
end
structure NewM (N:List Addr) (U:Hp) (As:Nat->List Addr):Prop where
 nd:N.Nodup
 un:∀a∈N,U a=none
 ap:∀a∈N,∀i,a∉As i
theorem NewM.nil{U:Hp}{As:Nat->List Addr}:NewM [] U As:=⟨Wg,λ_ h=>(nomatch h),λ_ h=>(nomatch h)⟩
def Kp(pr:Nat->Bool)(Z a:St):Prop:=∀j,pr j=true->rg a j=rg Z j
theorem Kp.refl(pr:Nat->Bool)(Z:St):Kp pr Z Z:=λ_ _=>rfl
theorem Kp.trans{pr:Nat->Bool}{Z d c:St}(a:Kp pr Z d)(b:Kp pr d c):Kp pr Z c:=λj h=>(b j h).trans (a j h)
section
variable(Y:Cm)
def Mo{W X:Type}(K:KT W X)(E:XK)(ms:List Md)(B U:Hp)(Z:St)(r:Out W)(Q:X->Hp->Prop):Prop:=
 match r with
 |.ok d G=>∀v S M J H' N,Rel Y ms S M J Z H' G->Ex B U S M->NewM N M J->K d v S M H' N->Q v H'
 |.exc c G=>∀S M J H',Rel Y ms S M J Z H' G->Ex B U S M->∀a,E (.ref (Y c)) a H'
 |.bad=>False
def MJ{W X:Type}(K:KT W X)(E:XK)(ms:List Md)(t:St->Hp->(X->Hp->Prop)->Prop)(m:X0->Out W):Prop:=
 ∀B U As Z H T Q,Rel Y ms B U As Z H T->Mo Y K E ms B U Z (m T) Q->t Z H Q
def So(E:XK)(e:KT D V)(pr:Nat->Bool)(ms:List Md)(B U:Hp)(Z:St)(r:SO)(D:Ends):Prop:=
 match r with
 |.nx G=>∀a S M J H',Rel Y ms S M J a H' G->Ex B U S M->Kp pr Z a->D.nx a H'
 |.bk G=>∀a S M J H',Rel Y ms S M J a H' G->Ex B U S M->Kp pr Z a->D.bk a H'
 |.ct G=>∀a S M J H',Rel Y ms S M J a H' G->Ex B U S M->Kp pr Z a->D.ct a H'
 |.rt d G=>∀v a S M J H' N,Rel Y ms S M J a H' G->Ex B U S M->Kp pr Z a->NewM N M J->e d v S M H' N->D.rt v H'
 |.exc c G=>∀a S M J H',Rel Y ms S M J a H' G->Ex B U S M->Kp pr Z a->∀b,E (.ref (Y c)) b H'
 |.bad=>False
def SJ(E:XK)(a:KT D V)(pr:Nat->Bool)(ms:List Md)(t:TS)(m:X0->SO):Prop:=
 ∀B U As Z H T D,Rel Y ms B U As Z H T->So Y E a pr ms B U Z (m T) D->t D Z H
end
section
variable{Y:Cm}{E:XK}{Kr:KT D V}{pr:Nat->Bool}{ms:List Md}{K:F0}{B U H I U1 H1:Hp}{As:Nat->List Addr}{Z σ1:St}{T:X0}
theorem Mo.at{W X:Type}{K:KT W X}{r:Out W}{Q:X->Hp->Prop}(P:Mo Y K E ms B U Z r Q)(e:Ex B U I U1):Mo Y K E ms I U1 Z r Q:=by
 cases r with
 |ok d G=>exact λv S M J H' N b a f k=>P v S M J H' N b (e.trans a) f k
 |exc c G=>exact λS M J H' b a=>P S M J H' b (e.trans a)
 |bad=>exact P
theorem So.at{r:SO}{D:Ends}(P:So Y E Kr pr ms B U Z r D)(e:Ex B U I U1)(k:Kp pr Z σ1):So Y E Kr pr ms I U1 σ1 r D:=by
 cases r with
 |nx G=>exact λa S M J H' g f b=>P a S M J H' g (e.trans f) (k.trans b)
 |bk G=>exact λa S M J H' g f b=>P a S M J H' g (e.trans f) (k.trans b)
 |ct G=>exact λa S M J H' g f b=>P a S M J H' g (e.trans f) (k.trans b)
 |rt d G=>exact λv a S M J H' N g f b=>P v a S M J H' N g (e.trans f) (k.trans b)
 |exc c G=>exact λa S M J H' g f b=>P a S M J H' g (e.trans f) (k.trans b)
 |bad=>exact P
theorem upM{W X:Type}{K:KT W X}{t:St->Hp->(X->Hp->Prop)->Prop}{m:X0->Res W}(h:PJ Y K E ms t m):MJ Y K E ms t (λT=>(m T).up T):=by
 intro B U As Z H T Q R P;replace P:Mo Y K E ms B U Z ((m T).up T) Q:=P;refine h B U As Z H T Q R ?_;cases e:m T with
 |ok d=>
   rw[e]at P;exact λv S M H' N a g n k=>P v S M As H' N a g.toEx ⟨n.nd,n.un,R.apart n⟩ k
 |exc c=>
   rw[e]at P;exact λS M H' a g=>P S M As H' a g.toEx
 |bad=>rw[e]at P;exact P
theorem moF{s:Sh}{t:TE}{m:X0->Out D}(h:MJ Y (KO Y s) E ms t m):MJ Y (KR Y .F) E ms t m:=by
 intro B U As Z H T Q R P;refine h B U As Z H T Q R ?_;cases e:m T with
 |ok d G=>
   rw[e]at P;intro v S M J H' N g k f i;obtain⟨R2,j⟩:=g.freeze λa b=>⟨f.un a b,f.ap a b⟩;refine P v _ _ J H' [] R2 (k.trans j) NewM.nil (Ow.dn (bE g.bh) (λa b o q=>?_) i);unfold Mi.frz;rw[if_pos b];exact q
 |exc c G=>rw[e]at P;exact P
 |bad=>rw[e]at P;exact P
theorem MJ.bnd{W X M L:Type}{g:KT W X}{f:KT M L}{ta:St->Hp->(X->Hp->Prop)->Prop}{d:X0->Out W}(l:MJ Y g E ms ta d)(R:Rel Y ms B U As Z H T){k:W->X0->Out M}{Q:L->Hp->Prop}
 (P:Mo Y f E ms B U Z ((d T).bind k) Q) {a:X->Hp->Prop}
 (h:∀x G v I U1 b H1 N,Rel Y ms I U1 b Z H1 G->Ex B U I U1->NewM N U1 b->g x v I U1 H1 N->Mo Y f E ms I U1 Z (k x G) Q->a v H1):ta Z H a:=by
 refine l B U As Z H T a R ?_;cases e:d T with
 |ok x G=>
   rw[e]at P;exact λv I U1 b H1 N m e1 i j=>h x G v I U1 b H1 N m e1 i j (Mo.at (r:=k x G) P e1)
 |exc c G=>rw[e]at P;exact P
 |bad=>rw[e]at P;exact P
theorem MJ.bndS{W X:Type}{f:KT W X}{ta:St->Hp->(X->Hp->Prop)->Prop}{d:X0->Out W}(j:MJ Y f E ms ta d)(R:Rel Y ms B U As Z H T){k:W->X0->SO}{D:Ends}
 (P:So Y E Kr pr ms B U Z (fG (d T) k) D) {a:X->Hp->Prop}
 (h:∀x G v I U1 b H1 N,Rel Y ms I U1 b Z H1 G->Ex B U I U1->NewM N U1 b->f x v I U1 H1 N->So Y E Kr pr ms I U1 Z (k x G) D->a v H1):ta Z H a:=by
 refine j B U As Z H T a R ?_;cases e:d T with
 |ok x G=>
   rw[e]at P;exact λv I U1 b H1 N m e1 g i=>h x G v I U1 b H1 N m e1 g i (So.at (r:=k x G) P e1 (Kp.refl _ _))
 |exc c G=>rw[e]at P;exact λS M J H' n l=>P Z S M J H' n l (Kp.refl _ _)
 |bad=>rw[e]at P;exact P
theorem c6{W:Type}{l:List (Option W)}{i j:Nat}{x:Option W}:rg (l.set i x) j=if i=j/\i<l.length then x else rg l j:=by
 unfold rg;rw[List.getElem?_set];by_cases e:i=j
 · subst e;by_cases h:i<l.length
   ·rw[Vo rfl,Vo h,Vo ⟨rfl,h⟩];rfl
   ·rw[Vo rfl,on h,on λz=>h z.2,VP (by omega)]
 ·rw[on e,on λz=>e z.1]
theorem Rel.store(R:Rel Y ms B U As Z H T){i:Nat}{d:D}{v:V}{N:List Addr}(n:NewM N U As)(l:Lo Y B U H (ms.getD i .F) (some d) (some v) N):
 ∃J,Rel Y ms B U J (Z.set i (some v)) H (T.set i (some d)):=by
 by_cases hi:i<T.length
 · refine⟨λj=>if j=i then N else As j,R.bu,R.uh,λj=>?_,λj k a f b c=>?_,λj a b=>?_,λj=>?_,by rw[VS,VS];exact R.len,R.tb⟩
   · show(if j=i then N else As j).Nodup;split
     ·exact n.nd
     ·exact R.nd j
   · replace b:a∈(if j=i then N else As j):=b;replace c:a∈(if k=i then N else As k):=c;split at b
     · split at c
       ·rename_i h g;exact f (h.trans g.symm)
       ·exact n.ap a b k c
     · split at c
       ·exact n.ap a c j b
       ·exact R.dj j k a f b c
   · replace b:a∈(if j=i then N else As j):=b;split at b
     ·exact n.un a b
     ·exact R.un j a b
   · rw[c6,c6];show Lo Y B U H (ms.getD j .F) _ _ (if j=i then N else As j);by_cases e:i=j
     ·subst e;rw[Vo ⟨rfl,hi⟩,Vo ⟨rfl,by rw[<-R.len];exact hi⟩,Vo rfl];exact l
     ·rw[on λz=>e z.1,on λz=>e z.1,on λz=>e z.symm];exact R.lo j
 ·have g:=R.len;have e1:Z.set i (some v)=Z:=X8 (by omega);have m:T.set i (some d)=T:=X8 (by omega);rw[e1,m];exact⟨As,R⟩
theorem Kp.set{i:Nat}{x:Option V}(h:pr i=false):Kp pr Z (Z.set i x):=λj a=>by
 rw[c6,on];rintro⟨e,_⟩;rw[e,a]at h;cases h
theorem JO{f:KT D V}{i:Nat}{te:TE}{m:X0->Out D}(h:MJ Y f E ms te m)(n:∀B U H d v N,f d v B U H N->∃a,(a=[]\/a=N)/\Lo Y B U H (ms.getD i .F) (some d) (some v) a)(hp:pr i=false):SJ Y E Kr pr ms (l7 te (b7 i)) (aV i m):=by
 intro B U As Z H T D R P;refine h.bndS R P λx G v I U1 c H1 N p e1 j k q=>?_;obtain⟨a,o,l⟩:=n I U1 H1 x v N k
 have g:NewM a U1 c:=by
  rcases o with e|e
  ·subst e;exact NewM.nil
  ·subst e;exact j
 obtain⟨b,R2⟩:=p.store g l;exact q _ I U1 b H1 R2 (Ex.refl _ _) (Kp.set hp)
theorem LW{i:Nat}{te:TE}{m:X0->Out D}(h:MJ Y (KR Y .F) E ms te m)(a:ms.getD i .F= .F)(hp:pr i=false):SJ Y E Kr pr ms (l7 te (b7 i)) (aV i m):=
 JO h (λB U H d v N k=>⟨[],.inl rfl,by rw[a];exact⟨v,rfl,k,rfl⟩⟩) hp
theorem LV{i:Nat}{s:Sh}{te:TE}{m:X0->Out D}(h:MJ Y (KO Y s) E ms te m)(a:ms.getD i .F= .O s)(hp:pr i=false):SJ Y E Kr pr ms (l7 te (b7 i)) (aV i m):=
 JO h (λB U H d v N k=>⟨N,.inr rfl,by rw[a];exact⟨v,rfl,k⟩⟩) hp
theorem QG:SJ Y E Kr pr ms kZ bj:=λB U As Z H T D R P=>P Z B U As H R (Ex.refl _ _) (Kp.refl _ _)
theorem QD{t u:TS}{m n:X0->SO}(h:SJ Y E Kr pr ms t m)(k:SJ Y E Kr pr ms u n):SJ Y E Kr pr ms (lN t u) (ah m n):=by
 intro B U As Z H T D R P;refine h B U As Z H T _ R ?_;unfold ah at P;cases e:m T with
 |nx G=>rw[e]at P;exact λa S M J H' f b kp=>k S M J a H' G D f (So.at P b kp)
 |bk G=>rw[e]at P;exact P
 |ct G=>rw[e]at P;exact P
 |rt d G=>rw[e]at P;exact P
 |exc c G=>rw[e]at P;exact P
 |bad=>rw[e]at P;exact P
theorem L4{d:KT D V}{te:TE}{m:X0->Out D}(h:MJ Y d E ms te m):SJ Y E Kr pr ms (iT te) (au m):=by
 intro B U As Z H T D R P;refine h.bndS R P λx G v I U1 a H1 N b e1 e f c=>?_;exact c Z I U1 a H1 b (Ex.refl _ _) (Kp.refl _ _)
theorem QE{te:TE}{m:X0->Out D}(h:MJ Y Kr E ms te m):SJ Y E Kr pr ms (LK te) (bA m):=by
 intro B U As Z H T D R P;refine h.bndS R P λx G v I U1 a H1 N d e1 b c e=>?_;exact e v Z I U1 a H1 N d (Ex.refl _ _) (Kp.refl _ _) b c
theorem LX(h:∀B U H,Kr .non .non B U H []):SJ Y E Kr pr ms BI Hi:=λB U As Z H T D R P=>P .non Z B U As H [] R (Ex.refl _ _) (Kp.refl _ _) NewM.nil (h _ _ _)
theorem UE{c:TT}{t u:TS}{mc:X0->Out Bool}{m n:X0->SO}(f:MJ Y KB E ms c mc)(h:SJ Y E Kr pr ms t m)(k:SJ Y E Kr pr ms u n):SJ Y E Kr pr ms (sY c t u) (gN mc m n):=by
 intro B U As Z H T D R P;refine f.bndS R P λx G v I U1 a H1 N b e1 g e d=>?_;cases e;cases x with
 |true=>exact h I U1 a Z H1 G D b d
 |false=>exact k I U1 a Z H1 G D b d
theorem Hg:SJ Y E Kr pr ms vP (λ_=>.bad):=λ_ _ _ _ _ _ _ _ P=>P
def TJ(Y:Cm)(k:Kd)(pr:Nat->Bool)(ms:List Md)(g:TG)(c:D->X0->Option X0):Prop:=∀B U As Z H T d v a Q,Rel Y ms B U As Z H T->Dn Y (hp k B U H) d v->c d T=some a->(∀σ1 b,Rel Y ms B U b σ1 H a->Kp pr Z σ1->Q σ1 H)->g v Z H Q
theorem tgF{i:Nat}(c:ms.getD i .F= .F)(hp:pr i=false):TJ Y .F pr ms (b7 i) (sP i):=by
 intro B U As Z H T d v b Q R hd e h;cases e;obtain⟨a,R2⟩:=R.store (i:=i) (d:=d) (v:=v) NewM.nil (by rw[c];exact⟨v,rfl,hd,rfl⟩);exact h _ a R2 (Kp.set hp)
theorem tgR{i:Nat}(c:ms.getD i .F= .R)(hp:pr i=false):TJ Y .U pr ms (b7 i) (sP i):=by
 intro B U As Z H T d v b Q R hd e h;cases e;obtain⟨a,R2⟩:=R.store (i:=i) (d:=d) (v:=v) NewM.nil (by rw[c];exact⟨v,rfl,hd,rfl⟩);exact h _ a R2 (Kp.set hp)
theorem Uw{i:Nat}(b:ms.getD i .F= .R)(hp:pr i=false):TJ Y .F pr ms (b7 i) (sP i):=λB U As Z H T d v a Q R hd e h=>tgR b hp B U As Z H T d v a Q R (Dn.mono R.bu hd) e h
theorem tg2{k:Kd}{i j:Nat}(hi:TJ Y k pr ms (b7 i) (sP i))(w:TJ Y k pr ms (b7 j) (sP j)):TJ Y k pr ms (OJ K 2 (yZ (b7 i) (yZ (b7 j) OL))) (GT i j):=by
 intro B U As Z H T d v p Q R hd e h;cases d with
 |tup ds=>
   rcases ds with _|⟨x,_|⟨y,_|⟨z,ds⟩⟩⟩
   ·cases e
   ·cases e
   ·cases e;rw[Dn]at hd;obtain⟨a,xs,rfl,A,o⟩:=hd;rw[Dns]at o;obtain⟨f,r,rfl,u,n⟩:=o;rw[Dns]at n;obtain⟨b,D,rfl,t,m⟩:=n;rw[Dns]at m;subst m;refine⟨a,[f,b],rfl,SqT.of (R.hp k _ _ A),rfl,f,[b],rfl,?_⟩;refine hi B U As Z H T x f _ _ R u rfl λσ1 l C s=>⟨b,[],rfl,?_⟩;exact w B U l σ1 H _ y b _ _ C t rfl λc g R2 q=>⟨rfl,h c g R2 (s.trans q)⟩
   ·cases e
 |_=>cases e
theorem QR{k:Kd}{wi:TI}{g:TG}{tb:TS}{src:X0->Out (List D)}{Q:D->X0->Option X0}{j:X0->SO}(hs:MJ Y (KI Y k .U) E ms wi src)(hk:k= .F\/k= .U)(hg:TJ Y k pr ms g Q)(hb:SJ Y E Kr pr ms tb j):
 SJ Y E Kr pr ms (vQ wi g tb) (dt src Q j):=by
 intro B U As Z H T D R P;refine hs.bndS R P λds ρ0 J I U1 As1 H1 N R1 e1 n1 ⟨vs,hJ,hd⟩ P1=>?_;have hvl:ds.length=vs.length:=hd.len
 have hp1:∀{q p H2:Hp},Ex I U1 q p->Same (hp k I U1 H1) (hp k q p H2):=λe=>by
  rcases hk with z|z<;>subst z
  ·exact e.b
  ·exact e.u
 refine⟨λi m s H'=>i<=ds.length/\m=ds.length-i/\∃q p o h,Rel Y ms q p o s H' h/\Ex I U1 q p/\Kp pr Z s/\So Y E Kr pr ms I U1 Z (rp Q j (ds.drop i) h) D,⟨_,Wr _,rfl,I,U1,As1,ρ0,R1,Ex.refl _ _,Kp.refl _ _,P1⟩,?_⟩;rintro i m s H' ⟨hi,rfl,q,p,o,h,R2,G,M,a⟩;have hj:=hJ H' (G.u.trans R2.uh);by_cases V:i<ds.length
 · refine .inr ⟨hj.2.1 i (by omega),λr W=>i+1<=ds.length/\∃q p o h,Rel Y ms q p o r W h/\Ex I U1 q p/\Kp pr Z r/\So Y E Kr pr ms I U1 Z (rp Q j (ds.drop (i+1)) h) D,λr W ⟨h1,h2⟩=>⟨ds.length-(i+1),by omega,h1,rfl,h2⟩,λx Hx hy=>?_⟩;obtain⟨rfl,ev⟩:=hj.2.2 i x Hx (by omega) hy;obtain⟨d,ed,dd⟩:=hd.geti ev;rw[iM ed,rp]at a;cases et:Q d h with
   |none=>rw[et]at a;exact a.elim
   |some K=>
     rw[et]at a;refine hg q p o s Hx h d x K _ R2 (Dn.mono (hp1 G) dd) et λX As3 R3 S=>?_;refine hb q p As3 X Hx K _ R3 ?_;dsimp only at a;cases O:j K with
     |nx n=>
       rw[O]at a;exact λl C y f L A w t=>⟨V,C,y,f,n,A,G.trans w,(M.trans S).trans t,a⟩
     |ct n=>
       rw[O]at a;exact λl C y f L A w t=>⟨V,C,y,f,n,A,G.trans w,(M.trans S).trans t,a⟩
     |bk n=>
       rw[O]at a;exact λl C y f L A w t=>a l C y f L A (G.trans w) ((M.trans S).trans t)
     |rt d n=>
       rw[O]at a;exact λv l C y f L N A w t=>a v l C y f L N A (G.trans w) ((M.trans S).trans t)
     |exc c n=>
       rw[O]at a;exact λl C y f L A w t=>a l C y f L A (G.trans w) ((M.trans S).trans t)
     |bad=>rw[O]at a;exact a.elim
 · have e:i=ds.length:=by omega
   subst e;rw[Xx,rp]at a;exact .inl ⟨hj.1 _ (by omega),a s q p o H' R2 G M⟩
theorem Hf{c:TT}{tb:TS}{mc:X0->Out Bool}{a:X0->SO}(n:Nat)(W:MJ Y KB E ms c mc)(X:SJ Y E Kr pr ms tb a):SJ Y E Kr pr ms (vO c tb) (xG mc a n):=by
 intro B U As Z H T D R P;refine⟨λm j H'=>∃S L F q,Rel Y ms S L F j H' q/\Ex B U S L/\Kp pr Z j/\So Y E Kr pr ms B U Z (xG mc a m q) D,⟨n,B,U,As,T,R,Ex.refl _ _,Kp.refl _ _,P⟩,?_⟩;rintro m j H' ⟨S,L,F,q,R2,A,z,f⟩;cases m with
 |zero=>exact f.elim
 |succ m=>
   rw[xG]at f;refine W S L F j H' q _ R2 ?_;cases e:mc q with
   |ok x r=>
     rw[e]at f;intro v Q K w O N M y n3 V;cases V;cases x with
     |false=>
       rw[on VC];exact f j Q K w O M (A.trans y) z
     |true=>
       rw[Vo rfl]
       have f:So Y E Kr pr ms B U Z (match a r with
        |.nx G=>xG mc a m G
        |.ct G=>xG mc a m G
        |.bk G=>.nx G
        |o=>o) D:=f
       refine⟨λp J=>∃l k b g,Rel Y ms l k b p J g/\Ex B U l k/\Kp pr Z p/\So Y E Kr pr ms B U Z (xG mc a m g) D,λp J h=>⟨m,Xb m,h⟩,?_⟩;refine X Q K w j O r _ M ?_;cases I:a r with
       |nx g=>
         rw[I]at f;exact λi l k b C u t s=>⟨l,k,b,g,u,(A.trans y).trans t,z.trans s,f⟩
       |ct g=>
         rw[I]at f;exact λi l k b C u t s=>⟨l,k,b,g,u,(A.trans y).trans t,z.trans s,f⟩
       |bk g=>
         rw[I]at f;exact λi l k b C u t s=>f i l k b C u ((A.trans y).trans t) (z.trans s)
       |rt d g=>
         rw[I]at f;exact λv i l k b C N u t s=>f v i l k b C N u ((A.trans y).trans t) (z.trans s)
       |exc c g=>
         rw[I]at f;exact λi l k b C u t s=>f i l k b C u ((A.trans y).trans t) (z.trans s)
       |bad=>rw[I]at f;exact f.elim
   |exc c r=>rw[e]at f;exact λQ K w O M y=>f j Q K w O M (A.trans y) z
   |bad=>rw[e]at f;exact f.elim
end
inductive Ap where
 |F|U|X|O (i:Nat)|Bo (i:Nat)
deriving DecidableEq
def cf:List Ap->Nat->X0->X0->X0
 |[],_,_,T=>T
 |.O i::r,j,a,T=>cf r (j+1) a (T.set i (rg a j))
 |_::r,j,a,T=>cf r (j+1) a T
def bQ(a:List Ap)(e:List D->Out D)(ds:List D)(T:X0):Out D:=match e ds with
 |.ok d b=>.ok d (cf a 0 b T)
 |.exc c b=>.exc c (cf a 0 b T)
 |.bad=>.bad
def eU(a:List D->Out D)(ds:List D):Res D:=match a ds with
 |.ok d _=>.ok d
 |.exc c _=>.exc c
 |.bad=>.bad
def fj(ms:List Md)(T:X0):X0:=(List.range ms.length).map λi=>match ms.getD i .F with | .O _=>rg T i|_=>none
section
variable(Y:Cm)
def vJ(ms:List Md)(e:KT D V)(b:List D->Out D):Sp:=λvs H Q E=>∃B U As ds,Rel Y ms B U As (vs.map some) H (ds.map some)/\vs.length=ms.length/\match b ds with
 |.ok d G=>∀v S M J H' N,Rel Y ms S M J (vs.map some) H' (fj ms G)->Ex B U S M->NewM N M J->e d v S M H' N->Q v H'
 |.exc c G=>∀S M J H',Rel Y ms S M J (vs.map some) H' (fj ms G)->Ex B U S M->∀a,E (.ref (Y c)) a H'
 |.bad=>False
def A1(p:Ap)(B U H:Hp)(Z:St)(T:X0)(d:D)(v:V):Prop:=match p with
 |.F=>Dn Y B d v
 |.U=>Dn Y U d v
 |.X=>Dn Y H d v
 |.O i=>rg Z i=some v/\rg T i=some d
 |.Bo i=>rg Z i=some v/\rg T i=some d
def Ag(B U H:Hp)(Z:St)(T:X0):List Ap->List D->List V->Prop
 |[],ds,vs=>ds=[]/\vs=[]
 |p::ps,ds,vs=>∃d a v vr,ds=d::a/\vs=v::vr/\A1 Y p B U H Z T d v/\Ag B U H Z T ps a vr
end
section
variable{Y:Cm}{E:XK}{ms:List Md}{B U H:Hp}{As:Nat->List Addr}{Z:St}{T:X0}
theorem A1.mono{p:Ap}{S M H':Hp}{d:D}{v:V}(h:A1 Y p B U H Z T d v)(g:Gw B U H S M H'):A1 Y p S M H' Z T d v:=by
 cases p with
 |F=>exact Dn.mono g.b h
 |U=>exact Dn.mono g.u h
 |X=>exact Dn.mono g.h h
 |O i=>exact h
 |Bo i=>exact h
def A1J(Y:Cm)(E:XK)(ms:List Md)(p:Ap)(t:TE)(m:X0->Res D):Prop:=∀B U As Z H T Q,Rel Y ms B U As Z H T->Po Y (λd v B U H _=>A1 Y p B U H Z T d v) E ms B U As Z H T (m T) Q->t Z H Q
def AJ(Y:Cm)(E:XK)(ms:List Md)(ps:List Ap)(t:TA)(m:X0->Res (List D)):Prop:=∀B U As Z H T Q,Rel Y ms B U As Z H T->Po Y (λd v B U H _=>Ag Y B U H Z T ps d v) E ms B U As Z H T (m T) Q->t Z H Q
theorem aF{t:TE}{m:X0->Res D}(h:PJ Y (KR Y .F) E ms t m):A1J Y E ms .F t m:=λB U As Z H T Q R P=>h B U As Z H T Q R P
theorem aU{t:TE}{m:X0->Res D}(h:PJ Y (KR Y .U) E ms t m):A1J Y E ms .U t m:=λB U As Z H T Q R P=>h B U As Z H T Q R P
theorem aX{t:TE}{m:X0->Res D}(h:PJ Y (KR Y .X) E ms t m):A1J Y E ms .X t m:=λB U As Z H T Q R P=>h B U As Z H T Q R P
theorem PM{i:Nat}{p:Ap}(hp:∀B U H Z T d v,rg Z i=some v->rg T i=some d->A1 Y p B U H Z T d v):A1J Y E ms p (bI i) (vr i):=by
 intro B U As Z H T Q R P;unfold vr at P;have l:=R.lo i;cases e:rg T i with
 |none=>rw[e]at P;exact P.elim
 |some d=>
   rw[e]at P l;obtain⟨v,a,q⟩:=l;exact⟨v,bM a,P v B U H [] R (Gw.refl _ _ _) New.nil (hp _ _ _ _ _ _ _ a e)⟩
theorem aO{i:Nat}:A1J Y E ms (.O i) (bI i) (vr i):=PM λ_ _ _ _ _ _ _ h k=>⟨h,k⟩
theorem TK:AJ Y E ms [] bx ax:=λB U As Z H T Q R P=>P [] B U H [] R (Gw.refl _ _ _) New.nil ⟨rfl,rfl⟩
theorem A1J.bnd{p:Ap}{M L:Type}{d:KT M L}{ta:TE}{b:X0->Res D}(g:A1J Y E ms p ta b)(R:Rel Y ms B U As Z H T){k:D->Res M}{Q:L->Hp->Prop}
 (P:Po Y d E ms B U As Z H T ((b T).bind k) Q) {a:V->Hp->Prop}
 (h:∀x v I U1 H1,Rel Y ms I U1 As Z H1 T->Gw B U H I U1 H1->A1 Y p I U1 H1 Z T x v->Po Y d E ms I U1 As Z H1 T (k x) Q->a v H1):ta Z H a:=by
 refine g B U As Z H T a R ?_;cases e:b T with
 |ok x=>
   rw[e]at P;exact λv I U1 H1 N i e1 j f=>h x v I U1 H1 i e1 f (Po.at (r:=k x) P e1)
 |exc c=>rw[e]at P;exact P
 |bad=>rw[e]at P;exact P
theorem AJ.bnd{ps:List Ap}{M L:Type}{d:KT M L}{ta:TA}{b:X0->Res (List D)}(g:AJ Y E ms ps ta b)(R:Rel Y ms B U As Z H T){k:List D->Res M}{Q:L->Hp->Prop}
 (P:Po Y d E ms B U As Z H T ((b T).bind k) Q) {a:List V->Hp->Prop}
 (h:∀x v I U1 H1,Rel Y ms I U1 As Z H1 T->Gw B U H I U1 H1->Ag Y I U1 H1 Z T ps x v->Po Y d E ms I U1 As Z H1 T (k x) Q->a v H1):ta Z H a:=by
 refine g B U As Z H T a R ?_;cases e:b T with
 |ok x=>
   rw[e]at P;exact λv I U1 H1 N i e1 j f=>h x v I U1 H1 i e1 f (Po.at (r:=k x) P e1)
 |exc c=>rw[e]at P;exact P
 |bad=>rw[e]at P;exact P
theorem PN{p:Ap}{ps:List Ap}{ta:TE}{a:TA}{c:X0->Res D}{b:X0->Res (List D)}(e:A1J Y E ms p ta c)(d:AJ Y E ms ps a b):AJ Y E ms (p::ps) (aA ta a) (ai c b):=by
 intro B U As Z H T Q R P;refine e.bnd R P λx v I U1 H1 i e1 J k=>d.bnd i k λy u m h l R2 f g j=>?_;exact j (v::u) m h l [] R2 (Gw.refl _ _ _) New.nil ⟨x,y,v,u,rfl,rfl,J.mono f,g⟩
def rA(ms:List Md)(pure:Bool):Ap->Md->Bool
 |.F,.F=>true
 |.F,.R=>true
 |.U,.R=>true
 |.X,.R=>pure
 |.Bo _,.R=>true
 |_,_=>false
theorem Ag.len:∀{ps:List Ap} {ds:List D} {vs:List V},Ag Y B U H Z T ps ds vs->ds.length=ps.length/\vs.length=ps.length
 |[],_,_,h=>by obtain⟨rfl,rfl⟩:=h;exact⟨rfl,rfl⟩
 | p::ps,_,_,h=>by
   obtain⟨d,a,v,vr,rfl,rfl,_,h⟩:=h
   have:=Ag.len h
   exact⟨by rw[Vx,Vx,this.1],by rw[Vx,Vx,this.2]⟩
theorem Ag.get:∀{ps:List Ap} {ds:List D} {vs:List V} {j:Nat} {p:Ap},Ag Y B U H Z T ps ds vs->ps[j]?=some p->∃d v,ds[j]?=some d/\vs[j]?=some v/\A1 Y p B U H Z T d v
 |[],_,_,_,_,_,e=>by cases e
 | p::ps,_,_,j,q,h,e=>by
   obtain⟨d,b,v,vr,rfl,rfl,a,h⟩:=h;cases j with
   |zero=>cases e;exact⟨d,v,rfl,rfl,a⟩
   |succ j=>exact Ag.get (j:=j) h (by simpa using e)
theorem dJ{W:Type}{l:List W}{i:Nat}:rg (l.map some) i=l[i]?:=by
 unfold rg;rw[List.getElem?_map];cases l[i]?<;>rfl
theorem Rel.read(R:Rel Y ms B U As Z H T){i:Nat}{d:D}{v:V}(a:rg Z i=some v)(hd:rg T i=some d):Dn Y H d v:=by
 have l:=R.lo i;rw[hd]at l;have q:=gk l a;cases e:ms.getD i .F with
 |F=>rw[e]at q;exact Dn.mono R.bh q.1
 |R=>rw[e]at q;exact Dn.mono R.uh q.1
 |O s=>rw[e]at q;exact Ow.dn R.bh (λ_ _ _ q=>q) q
theorem A1.read(R:Rel Y ms B U As Z H T){p:Ap}{d:D}{v:V}(h:A1 Y p B U H Z T d v):Dn Y H d v:=by
 cases p with
 |F=>exact Dn.mono R.bh h
 |U=>exact Dn.mono R.uh h
 |X=>exact h
 |O i=>exact R.read h.1 h.2
 |Bo i=>exact R.read h.1 h.2
def ov(B U:Hp):Hp:=λa=>match B a with|some o=>some o|none=>U a
theorem vp{f:List Md}{y:KT D V}{K:List D->Out D}{ps:List Ap}{ds:List D}{vs:List V}{Q:VK}(R:Rel Y ms B U As Z H T)(A:Ag Y B U H Z T ps ds vs)(hl:ps.length=f.length)
 (hf:∀(j:Nat) p,ps[j]?=some p->rA ms true p (f.getD j .F)=true) (hU:∀d v B U M H N,y d v B U H N->y d v B M H N) (P:Po Y y E ms B U As Z H T (eU K ds) Q):vJ Y f y K vs H Q E:=by
 have n:=A.len
 have Rc:Rel Y f B H (λ_=>[]) (vs.map some) H (ds.map some):=by
  refine⟨R.bh,Same.refl _,λ_=>Wg,λ_ _ _ _ h=>(nomatch h),λ_ _ h=>(nomatch h),λj=>?_,by rw[Vr,Vr,n.1,n.2],R.tb⟩;rw[dJ,dJ];cases e:ps[j]? with
  |none=>
    have:ps.length<=j:=WP.mp e
    rw[VP (by omega)];rfl
  |some p=>
    obtain⟨d,v,ed,ev,t⟩:=A.get e;rw[ed,ev];refine⟨v,rfl,?_⟩;have hr:=A1.read R t;have q:=hf j p e;cases X:f.getD j .F with
    |F=>
      rw[X]at q;cases p with
      |F=>exact⟨t,rfl⟩
      |_=>cases q
    |R=>exact⟨hr,rfl⟩
    |O s=>rw[X]at q;cases p<;>cases q
 refine⟨B,H,λ_=>[],ds,Rc,by omega,?_⟩
 have m:∀{S M H':Hp} {J:Nat->List Addr} {x:X0},Rel Y f S M J (vs.map some) H' x->Ex B H S M->Rel Y ms S (ov S U) As Z H' T/\Gw B U H S (ov S U) H':=λ{S M H' J x} l g=>by
  have same:∀a o,U a=some o->∀o',S a=some o'->o'=o:=λa o q o' w=>by
   have t:=g.u a o (R.uh a o q);have W:=l.bu a o' w;rw[t]at W;exact(VQ W).symm
  have L:Same U (ov S U):=λa o q=>by
   unfold ov;cases z:S a with
   |none=>exact q
   |some o'=>rw[same a o q o' z]
  have sh:Same H H':=g.u.trans l.uh
  have uh:Same (ov S U) H':=λa o q=>by
   unfold ov at q;cases z:S a with
   |none=>rw[z]at q;exact sh a o (R.uh a o q)
   |some o'=>rw[z]at q;cases q;exact l.bh a _ z
  have bu:Same S (ov S U):=λa o q=>by unfold ov;rw[q]
  have new:∀a o,S a=some o->B a=some o\/H a=none\/cX o:=g.nb;refine⟨R.grow g.b L sh bu uh λi a r=>?_,⟨g.b,L,λa o q=>?_⟩,sh,λa o q=>?_⟩
  · unfold ov;cases z:S a with
    |none=>exact R.un i a r
    |some o=>
      obtain⟨o',w⟩:=R.at r;rcases new a o z with q|q|q
      ·have:=R.bu a o q;rw[R.un i a r]at this;cases this
      ·rw[q]at w;cases w
      ·have e1:=sh _ _ w;rw[l.bh a o z]at e1;cases e1;exact(R.nt r w q).elim
  · rcases new a o q with q|q|q
    ·exact .inl q
    ·exact .inr (.inl (R.uh.free q))
    ·exact .inr (.inr q)
  · unfold ov at q;cases z:S a with
    |none=>rw[z]at q;exact .inl q
    |some o'=>
      rw[z]at q;cases q;rcases new a _ z with q|q
      ·exact .inl (R.bu a _ q)
      ·exact .inr q
 cases e:K ds with
 |ok d G=>
   unfold eU at P;rw[e]at P;intro v S M J H' N l g C k;obtain⟨R2,I⟩:=m l g;refine P v S _ H' N R2 I ⟨C.nd,λa r=>g.u.free (C.un a r),λa r=>?_⟩ (hU d v S M (ov S U) H' N k);unfold ov;have t:=C.un a r;cases z:S a with
   |none=>exact R.uh.free (g.u.free t)
   |some o=>have:=l.bu a o z;rw[t]at this;cases this
 |exc c G=>
   unfold eU at P;rw[e]at P;intro S M J H' l g;obtain⟨R2,I⟩:=m l g;exact P S _ H' R2 I
 |bad=>
   unfold eU at P;rw[e]at P;exact P
theorem hF{d:D}{v:V}{B U M H:Hp}{N:List Addr}(h:KR Y .F d v B U H N):KR Y .F d v B M H N:=h
theorem hO{s:Sh}{d:D}{v:V}{B U M H:Hp}{N:List Addr}(h:KO Y s d v B U H N):KO Y s d v B M H N:=h
theorem wq{a:List Md}{b:KT D V}{c:List D->Out D}{ps:List Ap}{t:TA}{m:X0->Res (List D)}(h:AJ Y E ms ps t m)(e:ps.length=a.length)
 (f:∀(j:Nat) p,ps[j]?=some p->rA ms true p (a.getD j .F)=true) (g:∀d v B U M H N,b d v B U H N->b d v B M H N):PJ Y b E ms (fH (vJ Y a b c) [] E t) (λT=>(m T).bind (eU c)):=by
 intro B U As Z H T Q R P;refine h.bnd R P λds vs I U1 H1 i e1 A k=>?_;rw[V3];exact vp i A e f g k
def aZ(c:Nat)(m:Str):D->Bool
 |.obj a ns _=>decide (a=c)&&!ns.contains m
 |_=>false
theorem li{m:Str}:∀{fs:List (Str×V)},(fs.map (·.1)).contains m=false->fs.lookup m=none
 |[],_=>rfl
 | p::fs,h=>by
   rw[Vq,List.contains_cons,Bool.or_eq_false_iff]at h;rw[V1,h.1];exact li h.2
theorem iH{c:Nat}{m:Str}{d:D}{v:V}(h:aZ c m d=true)(hd:Dn Y H d v):∃a dx fs,v=.ref a/\H a=some (.ins (Y c) dx fs)/\fs.lookup m=none:=by
 cases d with
 |obj g ns ds=>
   have h:(decide (g=c)&&!ns.contains m)=true:=h;rw[Xd]at h;have e:=Xq h.1;subst e;rw[Dn]at hd;obtain⟨a,dx,fs,r,f,b,_⟩:=hd;refine⟨a,dx,fs,r,f,li ?_⟩;rw[b];simpa using h.2
 |_=>cases h
theorem qK{c:Nat}{g:Str}{b:List Md}{f:KT D V}{k:List D->Out D}{p:Ap}{ps:List Ap}{ta:TE}{i:X0->Res D}{t:TA}{m:X0->Res (List D)}(u:A1J Y E ms p ta i)(h:AJ Y E ms ps t m)(r:(p::ps).length=b.length)
 (s:∀(j:Nat) q,(p::ps)[j]?=some q->rA ms true q (b.getD j .F)=true) (w:∀d v B U M H N,f d v B U H N->f d v B M H N):
 PJ Y f E ms (cg (Y c) g (vJ Y b f k) [] E ta t) (λT=>(i T).bind λo=>if aZ c g o=true then (m T).bind λds=>eU k (o::ds) else .bad):=by
 intro B U As Z H T Q R P;refine u.bnd R P λo v I U1 H1 n e1 l e=>?_;by_cases z:aZ c g o=true
 ·rw[Vo z]at e;obtain⟨a,dx,fs,rfl,y,x⟩:=iH z (A1.read n l);refine⟨a,dx,fs,rfl,y,x,h.bnd n e λds vs L J K R2 C A G=>?_⟩;rw[V3];exact vp (ps:=p::ps) (ds:=o::ds) R2 ⟨o,ds,_,vs,rfl,rfl,l.mono C,A⟩ r s w G
 ·rw[on z]at e;exact e.elim
end
section
variable{Y:Cm}{E:XK}{ms:List Md}{B U H:Hp}{As:Nat->List Addr}{Z:St}{T:X0}
def hC:List Ap->Nat->Option Nat
 |[],_=>none
 |p::r,i=>if p= .O i then some 0 else (hC r i).map (·+1)
theorem fK:∀{ps:List Ap} {i j:Nat},hC ps i=some j->ps[j]?=some (.O i)
 |[],_,_,h=>by cases h
 | p::r,i,j,h=>by
   unfold hC at h;by_cases e:p= .O i
   ·rw[Vo e]at h;cases h;rw[e];rfl
   ·rw[on e]at h;obtain⟨k,a,rfl⟩:=VJ.mp h;rw[W0];exact fK a
def cq:List Ap->List Nat
 |[]=>[]
 |.O i::r=>i::cq r
 |_::r=>cq r
def gT:List Ap->List Nat
 |[]=>[]
 |.Bo i::r=>i::gT r
 |_::r=>gT r
theorem ib:∀{ps:List Ap} {i j:Nat},ps[j]?=some (.O i)->i∈cq ps
 |[],_,_,h=>by cases h
 | p::r,i,j,h=>by
   cases j with
   |zero=>cases h;exact Vt
   |succ j=>
     have:=ib (ps:=r) (j:=j) (by simpa using h)
     cases p <;> first | exact this | exact Vu _ this
theorem mH:∀{ps:List Ap} {i:Nat},i∈cq ps->∃j,hC ps i=some j
 |[],_,h=>by cases h
 | p::r,i,h=>by
   unfold hC;by_cases e:p= .O i
   ·exact⟨0,by rw[Vo e]⟩
   · rw[on e]
     have:i∈cq r:=by
      cases p with
      |O k=>
        rcases VA.mp h with z|z
        ·exact absurd (by rw[z]) e
        ·exact z
      |_=>exact h
     obtain⟨j,a⟩:=mH this;exact⟨j+1,by rw[a];rfl⟩
theorem t5:∀{ps:List Ap} {i j:Nat},ps[j]?=some (.Bo i)->i∈gT ps
 |[],_,_,h=>by cases h
 | p::r,i,j,h=>by
   cases j with
   |zero=>cases h;exact Vt
   |succ j=>
     have:=t5 (ps:=r) (j:=j) (by simpa using h)
     cases p <;> first | exact this | exact Vu _ this
theorem pO:∀{ps:List Ap} {i j k:Nat},(cq ps).Nodup->ps[j]?=some (.O i)->ps[k]?=some (.O i)->j=k
 |[],_,_,_,_,h,_=>by cases h
 | p::r,i,j,k,nd,c,b=>by
   cases j with
   |zero=>
     cases k with
     |zero=>rfl
     |succ k=>
       cases c;exact absurd (ib (ps:=r) (j:=k) (by simpa using b)) (VM.mp nd).1
   |succ j=>
     cases k with
     |zero=>
       cases b;exact absurd (ib (ps:=r) (j:=j) (by simpa using c)) (VM.mp nd).1
     |succ k=>
       have a:(cq r).Nodup:=by
        cases p with
        |O x=>exact(VM.mp nd).2
        |_=>exact nd
       rw[pO a (j:=j) (k:=k) (by simpa using c) (by simpa using b)]
theorem i7:∀{ps:List Ap} {j:Nat} {a T:X0},(cf ps j a T).length=T.length
 |[],_,_,_=>rfl
 | p::r,j,a,T=>by
   cases p with
   |O i=>rw[cf,i7,VS]
   |F=>rw[cf,i7];all_goals simp
   |U=>rw[cf,i7];all_goals simp
   |X=>rw[cf,i7];all_goals simp
   |Bo i=>rw[cf,i7];all_goals simp
theorem qt:∀{ps:List Ap} {b:Nat} {a T:X0} {i:Nat},(cq ps).Nodup->i<T.length->rg (cf ps b a T) i=match hC ps i with|some j=>rg a (b+j)|none=>rg T i
 |[],_,_,_,_,_,_=>rfl
 | p::r,b,a,T,i,nd,hi=>by
   have step:∀G:X0,G.length=T.length->(cq r).Nodup->(p≠ .O i)->rg G i=rg T i->rg (cf r (b+1) a G) i=match hC (p::r) i with|some j=>rg a (b+j)|none=>rg T i:=λG g d hp e=>by
    rw[qt d (by rw[g];exact hi),hC,on hp];cases hC r i with
    |none=>exact e
    |some j=>
      show rg a (b+1+j)=rg a (b+(j+1));rw[show b+1+j=b+(j+1) by omega]
   cases p with
   |O k=>
     rw[cf];by_cases e:k=i
     · subst e
       have f:hC r k=none:=by
        cases q:hC r k with
        |none=>rfl
        |some j=>exact absurd (ib (fK q)) (VM.mp nd).1
       rw[qt (VM.mp nd).2 (by rw[VS];exact hi),f,hC,Vo rfl,c6,Vo ⟨rfl,hi⟩];rfl
     ·exact step _ (VS ..) (VM.mp nd).2 (λz=>e (by cases z;rfl)) (by rw[c6,on λz=>e z.1])
   |F=>rw[cf];exact step T rfl nd (λz=>by cases z) rfl;all_goals simp
   |U=>rw[cf];exact step T rfl nd (λz=>by cases z) rfl;all_goals simp
   |X=>rw[cf];exact step T rfl nd (λz=>by cases z) rfl;all_goals simp
   |Bo k=>rw[cf];exact step T rfl nd (λz=>by cases z) rfl;all_goals simp
def SQ(ms:List Md):Ap->Md->Prop
 |.F,.F=>True
 |.F,.R=>True
 |.U,.R=>True
 |.Bo _,.R=>True
 |.O i,.O s=>ms.getD i .F= .O s
 |_,_=>False
def fitM(ms:List Md):List Ap->List Md->Prop
 |[],[]=>True
 |p::ps,m::r=>SQ ms p m/\fitM ms ps r
 |_,_=>False
theorem fitM.len:∀{ps:List Ap} {mc:List Md},fitM ms ps mc->ps.length=mc.length
 |[],[],_=>rfl
 |[],_::_,h=>h.elim
 |_::_,[],h=>h.elim
 |p::ps,m::r,h=>by rw[Vx,Vx,fitM.len h.2]
theorem fitM.get:∀{ps:List Ap} {mc:List Md} {j:Nat} {p:Ap},fitM ms ps mc->ps[j]?=some p->SQ ms p (mc.getD j .F)
 |[],_,_,_,_,e=>by cases e
 |_::_,[],_,_,h,_=>h.elim
 | p::ps,m::r,j,q,h,e=>by
   cases j with
   |zero=>cases e;exact h.1
   |succ j=>rw[WI];exact fitM.get (j:=j) h.2 (by simpa using e)
theorem ky{mc:List Md}{a:X0}{j:Nat}{s:Sh}(h:mc.getD j .F= .O s):rg (fj mc a) j=rg a j:=by
 have b:j<mc.length:=by
  by_cases z:j<mc.length
  ·exact z
  ·rw[VL,VP (by omega)]at h;cases h
 unfold fj;show((((List.range mc.length).map _)[j]?).join)=_;rw[List.getElem?_map,List.getElem?_range b];show(some (match mc.getD j .F with | .O _=>rg a j|_=>none)).join=_;rw[h];rfl
open Classical in
theorem j7{g:List Md}{Kr:KT D V}{fm:List D->Out D}{ps:List Ap}{ds:List D}{vs:List V}{Q:VK}(R:Rel Y ms B U As Z H T)(A:Ag Y B U H Z T ps ds vs)(hf:fitM ms ps g)(hd:(cq ps).Nodup)
 (hb:∀i∈gT ps,i∉cq ps) (hU:∀d v B U M H N,Kr d v B U H N->Kr d v B M H N) (P:Mo Y Kr E ms B U Z (bQ ps fm ds T) Q):vJ Y g Kr fm vs H Q E:=by
 have hlen:=A.len;have hl:=hf.len
 have I:∀{i j:Nat},ps[j]?=some (.O i)->∃d v s,ds[j]?=some d/\vs[j]?=some v/\rg Z i=some v/\rg T i=some d/\g.getD j .F= .O s/\ms.getD i .F= .O s:=λ{i j} e=>by
  obtain⟨d,v,ed,ev,r⟩:=A.get e;have q:=hf.get e;cases y:g.getD j .F with
  |O s=>rw[y]at q;exact⟨d,v,s,ed,ev,r.1,r.2,rfl,q⟩
  |F=>rw[y]at q;exact q.elim
  |R=>rw[y]at q;exact q.elim
 have FPd:∃Uc:Hp,(∀a,(∃j i:Nat,ps[j]?=some (.O i)/\a∈As i)->Uc a=none)/\(∀a,(¬ ∃j i:Nat,ps[j]?=some (.O i)/\a∈As i)->Uc a=H a):=
  ⟨λa=>if (∃j i:Nat,ps[j]?=some (.O i)/\a∈As i) then none else H a,λa h=>Vo h,λa h=>on h⟩
 obtain⟨Uc,uc1,uc2⟩:=FPd
 have notFP:∀{a o},U a=some o->¬ ∃j i:Nat,ps[j]?=some (.O i)/\a∈As i:=λ{a o} q ⟨j,i,_,f⟩=>by
  rw[R.un i a f]at q;cases q
 have m:Same U Uc:=λa o q=>by rw[uc2 a (notFP q)];exact R.uh a o q
 have ucH:Same Uc H:=λa o q=>by
  by_cases z:∃j i:Nat,ps[j]?=some (.O i)/\a∈As i
  ·rw[uc1 a z]at q;cases q
  ·rw[uc2 a z]at q;exact q
 -- what is owned and not cq
 have other:∀{i a},i∉cq ps->a∈As i->∃o,Uc a=some o/\H a=some o:=λ{i a} hi f=>by
  obtain⟨o,q⟩:=R.at f;refine⟨o,?_,q⟩;rw[uc2 a]
  ·exact q
  · rintro⟨j,k,ek,x⟩;by_cases e:k=i
    ·subst e;exact hi (ib ek)
    ·exact R.dj k i a e x f
 have Rc:Rel Y g B Uc (λj=>match ps[j]? with|some (.O i)=>As i|_=>[]) (vs.map some) H (ds.map some):=by
  refine⟨R.bu.trans m,ucH,λj=>?_,λj k a hne f x=>?_,λj a f=>?_,λj=>?_,by rw[Vr,Vr,hlen.1,hlen.2],R.tb⟩
  · try dsimp only
    split
    ·exact R.nd _
    ·exact Wg
  · try dsimp only at f x
    split at f
    · rename_i i e1;split at x
      · rename_i i' e2;by_cases e:i=i'
        ·subst e;exact hne (pO hd e1 e2)
        ·exact R.dj i i' a e f x
      ·cases x
    ·cases f
  · try dsimp only at f
    split at f
    ·rename_i i e1;exact uc1 a ⟨j,i,e1,f⟩
    ·cases f
  · rw[dJ,dJ];cases e:ps[j]? with
    |none=>
      have:ps.length<=j:=WP.mp e
      rw[VP (by omega)];rfl
    |some p=>
      obtain⟨d,v,ed,ev,r⟩:=A.get e;rw[ed,ev];refine⟨v,rfl,?_⟩;have q:=hf.get e;cases p with
      |F=>
        have r:Dn Y B d v:=r;cases y:g.getD j .F with
        |F=>exact⟨r,rfl⟩
        |R=>exact⟨Dn.mono (R.bu.trans m) r,rfl⟩
        |O s=>rw[y]at q;exact q.elim
      |U=>
        have r:Dn Y U d v:=r;cases y:g.getD j .F with
        |F=>rw[y]at q;exact q.elim
        |R=>exact⟨Dn.mono m r,rfl⟩
        |O s=>rw[y]at q;exact q.elim
      |X=>cases y:g.getD j .F<;>(rw[y]at q;exact q.elim)
      |Bo i=>
        cases y:g.getD j .F with
        |F=>rw[y]at q;exact q.elim
        |O s=>rw[y]at q;exact q.elim
        |R=>
          refine⟨?_,rfl⟩;have l:=R.lo i;rw[r.2]at l;have w:=gk l r.1;cases e2:ms.getD i .F with
          |F=>rw[e2]at w;exact Dn.mono (R.bu.trans m) w.1
          |R=>rw[e2]at w;exact Dn.mono m w.1
          |O s=>
            rw[e2]at w;refine Ow.dn (R.bu.trans m) (λa f o q=>?_) w;obtain⟨o',W,q2⟩:=other (hb i (t5 e)) f;rw[q2]at q;cases q;exact W
      |O i=>
        obtain⟨d',v',s,ed',ev',K,h3,h4,h5⟩:=I e;rw[h4];have l:=R.lo i;rw[r.2,h5]at l;exact gk l r.1
 refine⟨B,Uc,_,ds,Rc,by omega,?_⟩
 have main:∀{S M H':Hp} {J:Nat->List Addr} {L:X0},Rel Y g S M J (vs.map some) H' (fj g L)->Ex B Uc S M->
  Rel Y ms S (ov S U) (λi=>match hC ps i with|some j=>J j|none=>As i) Z H' (cf ps 0 L T)/\Ex B U S (ov S U)/\∀N,NewM N M J->NewM N (ov S U) (λi=>match hC ps i with|some j=>J j|none=>As i):=λ{S M H' J L} t C=>by
  have su:Same U (ov S U):=λa o q=>by
   unfold ov;cases z:S a with
   |none=>exact q
   |some o'=>
     have r:=C.u a o (m a o q);have K:=t.bu a o' z;rw[r]at K;cases K;rfl
  have uh:Same (ov S U) H':=λa o q=>by
   unfold ov at q;cases z:S a with
   |none=>rw[z]at q;exact t.uh a o (C.u a o (m a o q))
   |some o'=>rw[z]at q;cases q;exact t.bh a _ z
  have bu:Same S (ov S U):=λa o q=>by unfold ov;rw[q]
  have free:∀{a},M a=none->ov S U a=none:=λ{a} h=>by
   unfold ov;cases z:S a with
   |none=>exact m.free (C.u.free h)
   |some o=>have:=t.bu a o z;rw[h]at this;cases this
  have there:∀{i a},hC ps i=none->a∈As i->∃o,M a=some o/\H a=some o/\H' a=some o:=λ{i a} hi f=>by
   obtain⟨o,W,q2⟩:=other (λz=>by obtain⟨j,hj⟩:=mH z;rw[hi]at hj;cases hj) f;exact⟨o,C.u a o W,q2,t.uh a o (C.u a o W)⟩
  refine⟨⟨bu,uh,λi=>?_,λi k a hne f x=>?_,λi a f=>?_,λi=>?_,by rw[i7];exact R.len,t.tb⟩,⟨C.b,su,λa o q=>?_⟩,λN n=>⟨n.nd,λa f=>free (n.un a f),λa f i=>?_⟩⟩
  · try dsimp only
    split
    ·exact t.nd _
    ·exact R.nd _
  · try dsimp only at f x
    split at f
    · rename_i j ej;split at x
      ·rename_i j' ej';refine t.dj j j' a (λz=>hne ?_) f x;subst z;have r:=fK ej;have K:=fK ej';rw[r]at K;cases K;rfl
      ·rename_i ek;obtain⟨o,q,_⟩:=there ek x;rw[t.un j a f]at q;cases q
    · rename_i ei;obtain⟨o,q,_⟩:=there ei f;split at x
      ·rename_i j' ej';rw[t.un j' a x]at q;cases q
      ·exact R.dj i k a hne f x
  · try dsimp only at f
    split at f
    ·rename_i j ej;exact free (t.un j a f)
    · rename_i ei;obtain⟨o,q,_⟩:=there ei f;unfold ov;cases z:S a with
      |none=>exact R.un i a f
      |some o'=>
        rcases C.nb a o' z with w|w|w
        ·have:=R.bu a o' w;rw[R.un i a f]at this;cases this
        ·obtain⟨o2,W,q2⟩:=other (λz=>by obtain⟨j,hj⟩:=mH z;rw[ei]at hj;cases hj) f;rw[w]at W;cases W
        ·obtain⟨o2,_,q2,q3⟩:=there ei f;rw[t.bh a o' z]at q3;cases q3;exact(R.nt f q2 w).elim
  · try dsimp only
    cases ep:hC ps i with
    |some j=>
      obtain⟨d,v,s,ed,ev,K,h3,h4,h5⟩:=I (fK ep)
      have hi:i<T.length:=by
       have:=bM h3
       exact(VI.mp this).1
      rw[qt hd hi,ep]
      try dsimp only
      have l:=t.lo j;rw[ky h4,dJ,ev,h4]at l;rw[K,h5,Nat.zero_add];exact l
    |none=>
      try dsimp only
      by_cases hi:i<T.length
      ·rw[qt hd hi,ep];refine(R.lo i).mono C.b su λa f=>?_;obtain⟨o,_,W,q2⟩:=there ep f;rw[W,q2]
      · have r:rg (cf ps 0 L T) i=none:=by
         unfold rg;rw[List.getElem?_eq_none (by rw[i7];omega)];rfl
        have K:rg T i=none:=by
         unfold rg;rw[List.getElem?_eq_none (by omega)];rfl
        have l:=R.lo i;rw[K]at l;rw[r];exact l
  · rcases C.nb a o q with w|w|w
    ·exact .inl w
    ·exact .inr (.inl (m.free w))
    ·exact .inr (.inr w)
  · try dsimp only
    cases ep:hC ps i with
    |some j=>exact n.ap a f j
    |none=>
      intro z;obtain⟨o,q,_⟩:=there ep z;rw[n.un a f]at q;cases q
 cases e:fm ds with
 |ok d G=>
   unfold bQ at P;rw[e]at P;intro v S M J H' N t C n' k;obtain⟨R2,e2,n2⟩:=main t C;exact P v S _ _ H' N R2 e2 (n2 N n') (hU d v S M (ov S U) H' N k)
 |exc c G=>
   unfold bQ at P;rw[e]at P;intro S M J H' t C;obtain⟨R2,e2,n2⟩:=main t C;exact P S _ _ H' R2 e2
 |bad=>
   unfold bQ at P;rw[e]at P;exact P
end
def fP(c:Nat)(a:List D->Out D)(ds:List D):Res D:=match a (.obj c [] []::ds) with
 |.ok .non G=>(match rg G 0 with|some d=>.ok d|none=>.bad)
 |.ok _ _=>.bad
 |.exc c _=>.exc c
 |.bad=>.bad
section
variable{Y:Cm}{E:XK}{ms:List Md}{B U H:Hp}{As:Nat->List Addr}{Z:St}{T:X0}{K:F0}
theorem Os{a:List Md}{b:KT D V}{f:List D->Out D}{ps:List Ap}{t:TA}{m:X0->Res (List D)}(h:AJ Y E ms ps t m)(k:fitM ms ps a)(hd:(cq ps).Nodup)(l:∀i∈gT ps,i∉cq ps)
 (n:∀d v B U M H N,b d v B U H N->b d v B M H N):MJ Y b E ms (fH (vJ Y a b f) [] E t) (λT=>((m T).up T).bind (bQ ps f)):=by
 intro B U As Z H T Q R P;replace P:Mo Y b E ms B U Z (((m T).up T).bind (bQ ps f)) Q:=P;refine h B U As Z H T _ R ?_;cases e:m T with
 |ok ds=>
   rw[e]at P;intro vs I U1 H1 N j g o A;rw[V3];exact j7 j A k hd l n (Mo.at (r:=bQ ps f ds T) P g.toEx)
 |exc c=>rw[e]at P;exact λI U1 H1 j g=>P I U1 As H1 j g.toEx
 |bad=>rw[e]at P;exact P
theorem Om{c:Nat}{g:Str}{f:List Md}{b:KT D V}{j:List D->Out D}{p:Ap}{ps:List Ap}{ta:TE}{k:X0->Res D}{t:TA}{m:X0->Res (List D)}(G:A1J Y E ms p ta k)(h:AJ Y E ms ps t m)(C:fitM ms (p::ps) f)(hd:(cq (p::ps)).Nodup)
 (F:∀i∈gT (p::ps),i∉cq (p::ps)) (J:∀d v B U M H N,b d v B U H N->b d v B M H N):
 MJ Y b E ms (cg (Y c) g (vJ Y f b j) [] E ta t) (λT=>((k T).up T).bind λo T=>if aZ c g o=true then ((m T).up T).bind λds T=>bQ (p::ps) j (o::ds) T else .bad):=by
 intro B U As Z H T Q R P;replace P:Mo Y b E ms B U Z (((k T).up T).bind λo T=>if aZ c g o=true then ((m T).up T).bind λds T=>bQ (p::ps) j (o::ds) T else .bad) Q:=P;refine G B U As Z H T _ R ?_;cases e:k T with
 |ok o=>
   rw[e]at P;intro v I U1 H1 N q n S u;replace P:Mo Y b E ms B U Z (if aZ c g o=true then ((m T).up T).bind λds T=>bQ (p::ps) j (o::ds) T else .bad) Q:=P;by_cases z:aZ c g o=true
   · rw[Vo z]at P;obtain⟨a,dx,fs,rfl,L,K⟩:=iH z (A1.read q u);refine⟨a,dx,fs,rfl,L,K,h I U1 As Z H1 T _ q ?_⟩;cases s:m T with
     |ok ds=>
       rw[s]at P;intro vs y w x W R2 l O A;rw[V3];exact j7 (ps:=p::ps) (ds:=o::ds) R2 ⟨o,ds,_,vs,rfl,rfl,u.mono l,A⟩ C hd F J (Mo.at (r:=bQ (p::ps) j (o::ds) T) P (n.toEx.trans l.toEx))
     |exc c=>rw[s]at P;exact λy w x R2 l=>P y w As x R2 (n.toEx.trans l.toEx)
     |bad=>rw[s]at P;exact P
   ·rw[on z]at P;exact P.elim
 |exc c=>rw[e]at P;exact λI U1 H1 q n=>P I U1 As H1 q n.toEx
 |bad=>rw[e]at P;exact P
theorem IE{c:Nat}{sh:List (Str×Sh)}{f:List Md}{fm:List D->Out D}{ps:List Ap}{ds:List D}{vs:List V}{Q:VK}(R:Rel Y ms B U As Z H T)(A:Ag Y B U H Z T ps ds vs)(hl:ps.length+1=f.length)(h0:f.getD 0 .F= .O (.ob sh))
 (hf:∀(j:Nat) p,ps[j]?=some p->rA ms true p (f.getD (j+1) .F)=true) (P:Po Y (KO Y (.ob sh)) E ms B U As Z H T (fP c fm ds) Q) (x dx:Addr) (hx:H x=none) (hdx:H dx=none) (hne:dx≠x):
 vJ Y f (KR Y .F) fm (.ref x::vs) (upd (upd H dx (.own x)) x (.ins (Y c) dx [])) (λv H2=>v=.non/\Q (.ref x) H2) E:=by
 have I:=A.len;have sH:Same H (upd (upd H dx (.own x)) x (.ins (Y c) dx [])):=Gd.tE hx (Gd.bo hdx);have hUc:∃y:Hp,y x=none/\∀a,a≠x->y a=upd (upd H dx (.own x)) x (.ins (Y c) dx []) a:=⟨λa=>if a=x then none else upd (upd H dx (.own x)) x (.ins (Y c) dx []) a,Vo rfl,λa h=>on h⟩;obtain⟨y,u1,u2⟩:=hUc;have n:Same H y:=λa o q=>by rw[u2 a (aL q hx)];exact sH a o q
 have ucH:Same y (upd (upd H dx (.own x)) x (.ins (Y c) dx [])):=λa o q=>by
  by_cases z:a=x
  ·subst z;rw[u1]at q;cases q
  ·rw[u2 a z]at q;exact q
 have r:∀{a},y a=none->H a=none:=λh=>n.free h
 have Rc:Rel Y f B y (λj=>match j with|0=>[x]|_+1=>[]) ((.ref x::vs).map some) (upd (upd H dx (.own x)) x (.ins (Y c) dx [])) ((.obj c [] []::ds).map some):=by
  refine⟨R.bh.trans n,ucH,λj=>?_,λj k a L g hk=>?_,λj a g=>?_,λj=>?_,by rw[Vr,Vr,Vx,Vx,I.1,I.2],R.tb⟩
  · cases j with
    |zero=>simp
    |succ j=>exact Wg
  · cases j with
    |zero=>
      cases k with
      |zero=>exact L rfl
      |succ k=>cases hk
    |succ j=>cases g
  · cases j with
    |zero=>rw[VF.mp g];exact u1
    |succ j=>cases g
  · rw[dJ,dJ];cases j with
    |zero=>
      rw[h0];refine⟨.ref x,rfl,?_⟩;show Ow Y B _ (.obj c [] []) (.ob sh) (.ref x) [x];rw[Ow];exact⟨x,dx,[],[],rfl,ao,rfl,rfl,by rw[Owf];exact⟨rfl,rfl⟩⟩
    |succ j=>
      rw[W0,W0];cases e:ps[j]? with
      |none=>
        have:ps.length<=j:=WP.mp e
        rw[VP (by omega)];rfl
      |some p=>
        obtain⟨d,v,ed,ev,h1⟩:=A.get e;rw[ed,ev];refine⟨v,rfl,?_⟩;have hr:=A1.read R h1;have q:=hf j p e;cases em:f.getD (j+1) .F with
        |F=>
          rw[em]at q;cases p with
          |F=>exact⟨h1,rfl⟩
          |_=>cases q
        |R=>exact⟨Dn.mono n hr,rfl⟩
        |O s=>rw[em]at q;cases p<;>cases q
 refine⟨B,y,_,.obj c [] []::ds,Rc,by rw[Vx];omega,?_⟩
 have C:∀{S M H':Hp} {J:Nat->List Addr} {K:X0},Rel Y f S M J ((.ref x::vs).map some) H' K->Ex B y S M->Rel Y ms S (ov S U) As Z H' T/\Gw B U H S (ov S U) H'/\∀a,M a=none->ov S U a=none:=λ{S M H' J K} m t=>by
  have sU:Same U M:=(R.uh.trans n).trans t.u
  have su:Same U (ov S U):=λa o q=>by
   unfold ov;cases z:S a with
   |none=>exact q
   |some o'=>
     have h1:=sU a o q;have h2:=m.bu a o' z;rw[h1]at h2;cases h2;rfl
  have sh:Same H H':=(n.trans t.u).trans m.uh
  have uh:Same (ov S U) H':=λa o q=>by
   unfold ov at q;cases z:S a with
   |none=>rw[z]at q;exact sh a o (R.uh a o q)
   |some o'=>rw[z]at q;cases q;exact m.bh a _ z
  have bu:Same S (ov S U):=λa o q=>by unfold ov;rw[q]
  have new:∀a o,S a=some o->B a=some o\/H a=none\/cX o:=λa o q=>(t.nb a o q).imp id λz=>z.imp r id;refine⟨R.grow t.b su sh bu uh λi a g=>?_,⟨⟨t.b,su,λa o q=>?_⟩,sh,λa o q=>?_⟩,λa h=>?_⟩
  · unfold ov;cases z:S a with
    |none=>exact R.un i a g
    |some o=>
      obtain⟨o',X⟩:=R.at g;rcases new a o z with q|q|q
      ·have:=R.bu a o q;rw[R.un i a g]at this;cases this
      ·rw[q]at X;cases X
      ·have e1:=sh _ _ X;rw[m.bh a o z]at e1;cases e1;exact(R.nt g X q).elim
  · rcases new a o q with q|q|q
    ·exact .inl q
    ·exact .inr (.inl (R.uh.free q))
    ·exact .inr (.inr q)
  · unfold ov at q;cases z:S a with
    |none=>rw[z]at q;exact .inl q
    |some o'=>
      rw[z]at q;cases q;rcases new a _ z with q|q
      ·exact .inl (R.bu a _ q)
      ·exact .inr q
  · unfold ov;cases z:S a with
    |none=>exact sU.free h
    |some o=>have:=m.bu a o z;rw[h]at this;cases this
 unfold fP at P;cases e:fm (.obj c [] []::ds) with
 |ok d G=>
   rw[e]at P;intro v S M J H' N m t n' k;obtain⟨R2,g2,W⟩:=C m t;cases d with
   |non=>
     have k:Dn Y S .non v:=k;rw[Dn]at k;refine⟨k,?_⟩;replace P:Po Y (KO Y (.ob sh)) E ms B U As Z H T (match rg G 0 with|some d=>.ok d|none=>.bad) Q:=P;have l:=m.lo 0;rw[ky h0,h0]at l;cases e0:rg G 0 with
     |none=>rw[e0]at P;exact P.elim
     |some d=>
       rw[e0]at P l;have w:=gk l (v:=.ref x) rfl;exact P (.ref x) S _ H' (J 0) R2 g2 ⟨m.nd 0,λa g=>r (t.u.free (m.un 0 a g)),λa g=>W a (m.un 0 a g)⟩ w
   |_=>exact P.elim
 |exc c' G=>
   rw[e]at P;intro S M J H' m t;obtain⟨R2,g2,W⟩:=C m t;exact P S _ H' R2 g2
 |bad=>rw[e]at P;exact P
theorem MY{c:Nat}{sh:List (Str×Sh)}{a:List Md}{e:List D->Out D}{ps:List Ap}{t:TA}{m:X0->Res (List D)}(h:AJ Y E ms ps t m)(g:ps.length+1=a.length)(h0:a.getD 0 .F= .O (.ob sh))
 (i:∀(j:Nat) p,ps[j]?=some p->rA ms true p (a.getD (j+1) .F)=true):PJ Y (KO Y (.ob sh)) E ms (pe (Y c) (vJ Y a (KR Y .F) e) [] E t) (λT=>(m T).bind (fP c e)):=by
 intro B U As Z H T Q R P;refine h.bnd R P λds vs I U1 H1 k e1 A l=>?_;intro x dx f d b;rw[V3];exact IE k A g h0 i l x dx f d b
structure Pth (Y:Cm) (ms:List Md) (t:TE) (get:X0->Option D) (set:X0->D->X0):Prop where
 rd:∀{B U:Hp} {As:Nat->List Addr} {Z:St} {H:Hp} {T:X0} {d:D},Rel Y ms B U As Z H T->get T=some d->∃v A,(∀Q:VK,Q v H->t Z H Q)/\Ow Y B H d (.ct .fz) v A/\(∀a∈A,∃i,a∈As i)/\
  ∀I U1 H1,Rel Y ms I U1 As Z H1 T->Same B I->Same H H1->∀a∈A,∀o' d',Ow Y I (upd H1 a o') d' (.ct .fz) v A->Rel Y ms I U1 As Z (upd H1 a o') (set T d')
theorem Rel.mut(R:Rel Y ms B U As Z H T){i:Nat}{a:Addr}{o':HO}{d d':D}{v:V}{sh:Sh}(g:ms.getD i .F= .O sh)(f:rg Z i=some v)(hd:rg T i=some d)(c:a∈As i)(w:Ow Y B (upd H a o') d' sh v (As i)):
 Rel Y ms B U As Z (upd H a o') (T.set i (some d')):=by
 have hi:i<T.length:=(VI.mp (bM hd)).1;refine⟨R.bu,λb u q=>?_,R.nd,R.dj,R.un,λj=>?_,by rw[VS];exact R.len,R.tb⟩
 ·rw[am (aL q (R.un i a c))];exact R.uh b u q
 · rw[c6];by_cases e:i=j
   ·subst e;rw[Vo ⟨rfl,hi⟩,g];exact⟨v,f,w⟩
   ·rw[on λz=>e z.1];exact(R.lo j).mono (Same.refl _) (Same.refl _) λb h=>am (λz:b=a=>R.dj i j a e c (z▸h))
def bK(i:Nat):X0->Option D:=λT=>rg T i
def cM(i:Nat):X0->D->X0:=λT d=>T.set i (some d)
theorem UL{i:Nat}(f:ms.getD i .F= .O (.ct .fz)):Pth Y ms (bI i) (bK i) (cM i) where
 rd:=λ{B U As Z H T d} R e=>by
  replace e:rg T i=some d:=e;have l:=R.lo i;rw[e,f]at l;obtain⟨v,c,w⟩:=l;exact⟨v,As i,λQ q=>⟨v,bM c,q⟩,w,λa b=>⟨i,b⟩,λI U1 H1 h _ _ a b o' d' g=>h.mut f c e b g⟩
theorem Owf.upd{sh:List (Str×Sh)}{f:Str}{B H:Hp}:∀{fs:List (Str×V)} {ds:List D} {A:List Addr} {d:D},Owf Y B H ds (fs.map (·.1)) sh (fs.map (·.2)) A->A.Nodup->aT (fs.map (·.1)) ds f=some d->
 ∃v A1,fs.lookup f=some v/\Ow Y B H d ((sh.lookup f).getD .fz) v A1/\(∀a∈A1,a∈A)/\∀I H1 d',Same B I->(∀b∈A,b∉A1->H1 b=H b)->Ow Y I H1 d' ((sh.lookup f).getD .fz) v A1->Owf Y I H1 (c7 (fs.map (·.1)) ds f d') (fs.map (·.1)) sh (fs.map (·.2)) A
 |[],ds,A,d,h,nd,e=>by cases ds<;>cases e
 | p::fs,ds,A,d,h,nd,e=>by
   cases ds with
   |nil=>cases e
   |cons d0 ds=>
     rw[List.map_cons,List.map_cons,Owf]at h;obtain⟨n,E,x,r,s,y,J,h0,K,o,u⟩:=h;cases J;cases h0;subst K;obtain⟨F,j,g⟩:=List.nodup_append.mp nd;rw[List.map_cons]at e;unfold aT at e;by_cases q:p.1=f
     ·rw[Vo q]at e;cases e;rw[q]at o;refine⟨p.2,s,by rw[V1,<-q,WL],o,λa m=>VB _ m,λI H1 d' i k w=>?_⟩;rw[Vq,Vq,c7,Vo q,Owf];exact⟨p.1,_,p.2,_,s,y,rfl,rfl,rfl,by rw[q];exact w,Owf.mono i (λb c=>k b (Vs _ c) λz=>g b z b c rfl) u⟩
     ·rw[on q]at e;obtain⟨v,A1,G,C,t,L⟩:=Owf.upd u j e;have c:(f==p.1)=false:=V5.mpr λz=>q z.symm;refine⟨v,A1,by rw[V1,c];exact G,C,λa m=>Vs _ (t a m),λI H1 d' i k w=>?_⟩;rw[Vq,Vq,c7,on q,Owf];exact⟨p.1,_,p.2,_,s,y,rfl,rfl,rfl,Ow.mono i (λb c=>k b (VB _ c) λz=>g b c b (t b z) rfl) o,L I H1 d' i (λb c l=>k b (Vs _ c) l) w⟩
def dY(c:Nat)(f:Str)(i:Nat):X0->Option D:=λT=>match rg T i with
 |some (.obj a ns vs)=>if a=c then aT ns vs f else none
 |_=>none
def dE(f:Str)(i:Nat):X0->D->X0:=λT d=>match rg T i with
 |some (.obj c ns vs)=>T.set i (some (.obj c ns (c7 ns vs f d)))
 |_=>T
theorem UN{c:Nat}{f:Str}{i:Nat}{sh:List (Str×Sh)}(W:Cls K (Y c))(V:NoAttr K (Y c) f)(E:ms.getD i .F= .O (.ob sh))(G:(sh.lookup f).getD .fz=.ct .fz):Pth Y ms (l6 K (bI i) f) (dY c f i) (dE f i) where
 rd:=λ{B U As Z H T d} R e=>by
  have l:=R.lo i;unfold dY at e;cases e0:rg T i with
  |none=>rw[e0]at e;cases e
  |some d0=>
    cases d0 with
    |obj k ns vs=>
      rw[e0]at e;replace e:(if k=c then aT ns vs f else none)=some d:=e;by_cases q:k=c
      · subst q;rw[Vo rfl]at e;rw[e0,E]at l;obtain⟨v,C,w⟩:=l;have x:Ow Y B H (.obj k ns vs) (.ob sh) v (As i):=w;rw[Ow]at x;obtain⟨a,dx,xs,A',rfl,L,X,j,J⟩:=x;subst X;have nd:=R.nd i;rw[j]at nd;obtain⟨n,m⟩:=VM.mp nd;obtain⟨u,A1,S,A,t,cl⟩:=Owf.upd J m e;rw[G]at A;refine⟨u,A1,λQ q=>⟨.ref a,bM C,a,_,dx,xs,u,rfl,L,W,V,S,q⟩,A,λb h=>⟨i,by rw[j];exact Vu _ (t b h)⟩,λI U1 H1 R1 N g b h o' d' M=>?_⟩;have s:b∈As i:=by rw[j];exact Vu _ (t b h)
        have:dE f i T d'=T.set i (some (.obj k (xs.map (·.1)) (c7 (xs.map (·.1)) vs f d'))):=by unfold dE;rw[e0]
        rw[this];refine R1.mut E C e0 s ?_;rw[j,Ow];have p:a≠b:=λz=>n (by rw[z];exact t b h);refine⟨a,dx,xs,A',rfl,by rw[am p];exact g _ _ L,rfl,rfl,cl I _ d' N (λy P r=>?_) (by rw[G];exact M)⟩
        have:y≠b:=λz=>r (by rw[z];exact h)
        rw[am this];obtain⟨o,D⟩:=Owf.at J P;rw[D,g _ _ D]
      ·rw[on q]at e;cases e
    |_=>rw[e0]at e;cases e
def AK(set:X0->D->X0)(T:X0):Option (D×List D)->Out D
 |some (d,a)=>.ok d (set T (.lst a))
 |none=>.bad
def Ov(set:X0->D->X0)(f:List D->D->Option (D×List D))(T:X0)(xs:List D):Res D->Out D
 |.ok x=>AK set T (f xs x)
 |.exc c=>.exc c T
 |.bad=>.bad
def iS(get:X0->Option D)(set:X0->D->X0)(f:List D->D->Option (D×List D))(me:X0->Res D):X0->Out D:=λT=>match get T with
 |some (.lst xs)=>Ov set f T xs (me T)
 |_=>.bad
theorem Ow.lst{d:D}{v:V}{A:List Addr}{ds:List D}(w:Ow Y B H d (.ct .fz) v A)(e:d=.lst ds):∃a xs,v=.ref a/\H a=some (.lst xs)/\A=[a]/\Dns Y B ds xs:=by
 subst e;rw[Ow]at w;obtain⟨a,xs,i,r,h,g,f⟩:=w;obtain⟨c,b⟩:=Ows.fz f;exact⟨a,xs,r,h,by rw[g,b],c⟩
theorem Ow.lst'{a:Addr}{ds:List D}{xs:List V}(h:H a=some (.lst xs))(d:Dns Y B ds xs):Ow Y B H (.lst ds) (.ct .fz) (.ref a) [a]:=by
 rw[Ow];exact⟨a,xs,[],rfl,h,rfl,Ows.of d⟩
section
variable{t:TE}{get:X0->Option D}{set:X0->D->X0}
theorem En{k:Kd}{r:V->List V->Hp->VK->Prop}{f:List D->D->Option (D×List D)}{te:TE}{me:X0->Res D}(p:Pth Y ms t get set)(C:PJ Y (KR Y k) E ms te me)
 (z:∀(B U H:Hp) (a:Addr) (ds:List D) (xs:List V) (x:D) (u:V) (d:D) (j:List D) (Q:VK),Same B U->Same U H->H a=some (.lst xs)->Dns Y B ds xs->Dn Y (hp k B U H) x u->f ds x=some (d,j)->(∀v ys,Dn Y B d v->Dns Y B j ys->Q v (upd H a (.lst ys)))->r (.ref a) [u] H Q):
 MJ Y (KR Y .F) E ms (Ab K "list" r t (aA te bx)) (iS get set f me):=by
 intro B U As Z H T Q R P;unfold iS at P;cases e:get T with
 |none=>rw[e]at P;exact P.elim
 |some d0=>
   cases d0 with
   |lst ds=>
     rw[e]at P;replace P:Mo Y (KR Y .F) E ms B U Z (Ov set f T ds (me T)) Q:=P;obtain⟨v,A,y,w,O,L⟩:=p.rd R e;obtain⟨a,xs,rfl,n,rfl,G⟩:=w.lst rfl;refine y _ ⟨.inl ⟨rfl,xs,SqL.of n⟩,C B U As Z H T _ R ?_⟩;cases l:me T with
     |ok x=>
       rw[l]at P;replace P:Mo Y (KR Y .F) E ms B U Z (AK set T (f ds x)) Q:=P;intro u I U1 H1 N i g M s;cases m:f ds x with
       |none=>rw[m]at P;exact P.elim
       |some J=>
         obtain⟨d,j⟩:=J;rw[m]at P;refine z I U1 H1 a ds xs x u d j Q i.bu i.uh (g.h _ _ n) (G.mono g.b) s m λv ys q o=>?_;exact P v I U1 As _ [] (L I U1 H1 i g.b g.h a Vt _ _ (Ow.lst' ao o)) g.toEx NewM.nil q
     |exc c=>rw[l]at P;exact λI U1 H1 i g=>P I U1 As H1 i g.toEx
     |bad=>rw[l]at P;exact P.elim
   |_=>rw[e]at P;exact P.elim
def js(xs:List D)(x:D):Option (D×List D):=if xs.length<ac then some (.non,xs++[x]) else none
theorem Er{te:TE}{me:X0->Res D}(p:Pth Y ms t get set)(g:PJ Y (KR Y .F) E ms te me):MJ Y (KR Y .F) E ms (Ab K "list" fe t (aA te bx)) (iS get set js me):=
 En (f:=js) p g λB U H a ds xs x u d i Q _ _ h c e b k=>by
  unfold js at b;by_cases z:ds.length<ac
  ·rw[Vo z]at b;cases b;exact⟨a,xs,u,rfl,rfl,h,cA (Wj (by rw[<-c.len];exact z)),k .non _ (by rw[Dn]) (c.append (Dns.one e))⟩
  ·rw[on z]at b;cases b
def CI(xs:List D)(x:D):Option (D×List D):=match x with
 |.int i=>if 0<=i/\i<xs.length/\xs.length<=ac then xs[i.toNat]?.map λd=>(d,xs.eraseIdx i.toNat) else none
 |_=>none
theorem IJ{te:TE}{me:X0->Res D}(p:Pth Y ms t get set)(m:PJ Y (KR Y .X) E ms te me):MJ Y (KR Y .F) E ms (Ab K "list" Cy t (aA te bx)) (iS get set CI me):=
 En (f:=CI) p m λB U H a ds xs x u d q Q _ _ n e c b k=>by
  cases x with
  |int i=>
    have c:Dn Y H (.int i) u:=c;rw[Dn]at c;subst c;replace b:(if 0<=i/\i<ds.length/\ds.length<=ac then ds[i.toNat]?.map λd=>(d,ds.eraseIdx i.toNat) else none)=some (d,q):=b;by_cases z:0<=i/\i<ds.length/\ds.length<=ac
    ·rw[if_pos z]at b;obtain⟨y,o,r⟩:=Option.map_eq_some_iff.mp b;cases r;obtain⟨w,l,s⟩:=e.get o;obtain⟨j,h,g⟩:=z;unfold ac at g;refine⟨a,xs,i,i.toNat,w,rfl,rfl,n,by omega,by omega,?_,l,k w _ s (e.erase _)⟩;refine(re ?_).1;unfold mN;rw[if_pos j,if_pos (by rw[<-e.len];exact h)]
    ·rw[on z]at b;cases b
  |_=>cases b
def vA(i:Nat)(x:D)(T:X0):Out D:=match rg T i with
 |some (.lst xs)=>AK (cM i) T (js xs x)
 |_=>.bad
def Bn(i:Nat)(me:X0->Out D):X0->Out D:=λT=>match rg T i with
 |some (.lst _)=>(me T).bind (vA i)
 |_=>.bad
theorem AH{i:Nat}{te:TE}{me:X0->Out D}(h:ms.getD i .F= .O (.ct .fz))(r:MJ Y (KR Y .F) E ms te me):MJ Y (KR Y .F) E ms (Ab K "list" fe (bI i) (aA te bx)) (Bn i me):=by
 intro B U As Z H T Q R P;unfold Bn at P;cases e:rg T i with
 |none=>rw[e]at P;exact P.elim
 |some d0=>
   cases d0 with
   |lst ds=>
     rw[e]at P;replace P:Mo Y (KR Y .F) E ms B U Z ((me T).bind (vA i)) Q:=P;have l:=R.lo i;rw[e,h]at l;obtain⟨v,g,w⟩:=l;obtain⟨a,xs,rfl,t,_,J⟩:=Ow.lst w rfl;refine⟨.ref a,bM g,.inl ⟨rfl,xs,SqL.of t⟩,r.bnd R P λx G u I U1 j H1 N o e1 C q b=>?_⟩;have k:=o.lo i;unfold vA at b;cases c:rg G i with
     |none=>rw[c]at b;exact b.elim
     |some A=>
       cases A with
       |lst d=>
         rw[c]at b;rw[c,h,g]at k;have p:=gk k rfl;obtain⟨L,f,y,s,n,m⟩:=Ow.lst p rfl;cases y;replace b:Mo Y (KR Y .F) E ms I U1 Z (AK (cM i) G (js d x)) Q:=b;unfold js at b;by_cases z:d.length<ac
         ·rw[Vo z]at b;refine⟨a,f,u,rfl,rfl,s,cA (Wj (by rw[<-m.len];exact z)),?_⟩;refine b .non I U1 j _ [] (o.mut h g c (by rw[n];exact Vt) ?_) (Ex.refl _ _) NewM.nil (show Dn Y I .non .non by rw[Dn]);rw[n];exact Ow.lst' ao (m.append (Dns.one q))
         ·rw[on z]at b;exact b.elim
       |_=>rw[c]at b;exact b.elim
   |_=>rw[e]at P;exact P.elim
end
end
section
variable{Y:Cm}{E:XK}{Kr:KT D V}{pr:Nat->Bool}{ms:List Md}{B U H:Hp}{As:Nat->List Addr}{Z:St}{T:X0}{K:F0}
def lA(set:X0->D->X0)(x d:D)(T:X0):Res D->SO
 |.ok k=>(match qa d k x with|some d'=>.nx (set T d')|none=>.bad)
 |.exc c=>.exc c T
 |.bad=>.bad
def eQ(get:X0->Option D)(set:X0->D->X0)(mk:X0->Res D)(b:X0->Out D):X0->SO:=λT=>fG (b T) λx a=>match get a with
 |some d=>lA set x d a (mk a)
 |none=>.bad
section
variable{W:Type}[DecidableEq W]
theorem l4{kvs:List (W×V)}{k:W}:(kvs.any λa=>decide (a.1=k))=bX (kvs.map (·.1)) k:=by
 unfold bX;rw[List.any_map];rfl
theorem tM{kvs:List (W×V)}{k:W}{v:V}(h:bX (kvs.map (·.1)) k=true):(eC kvs k v).map (·.1)=kvs.map (·.1):=by
 unfold eC;rw[l4,if_pos h,List.map_map];refine List.map_congr_left λp _=>?_;show(if p.1=k then (p.1,v) else p).1=p.1;split<;>rfl
theorem eF{kvs:List (W×V)}{k:W}{v:V}(h:¬ bX (kvs.map (·.1)) k=true):eC kvs k v=kvs++[(k,v)]:=by
 unfold eC;rw[l4,if_neg h]
theorem mh{G:Hp}{x:D}{v:V}{k:W}(b:Dn Y G x v):∀{kvs:List (W×V)} {ds:List D},Dns Y G ds (kvs.map (·.2))->Dns Y G (g9 (kvs.map (·.1)) ds k x) ((kvs.map λa=>if a.1=k then (a.1,v) else a).map (·.2))
 |[],ds,h=>by cases ds<;>exact(by rw[List.map_nil,List.map_nil,List.map_nil];unfold g9;rw[Dns])
 | p::kvs,ds,h=>by
   cases ds with
   |nil=>rw[Dns]at h;cases h
   |cons d ds=>
     rw[Vq,Dns]at h;obtain⟨y,r,e,f,c⟩:=h;cases e;rw[Vq,Vq,Vq,g9,Dns];refine⟨_,_,rfl,?_,mh b c⟩;by_cases q:p.1=k
     ·rw[Vo q,Vo q];exact b
     ·rw[on q,on q];exact f
end
theorem Ow.dT{d:D}{v:V}{A:List Addr}{b:List (List az)}{ds:List D}(w:Ow Y B H d (.ct .fz) v A)(e:d=.dT b ds):∃(a:Addr) (kvs:List (List az×V)),v=.ref a/\H a=some (.dT kvs)/\kvs.map (·.1)=b/\A=[a]/\Dns Y B ds (kvs.map (·.2)):=by
 subst e;rw[Ow]at w;obtain⟨a,xs,k,r,j,i,h,g⟩:=w;obtain⟨f,c⟩:=Ows.fz g;exact⟨a,xs,r,j,i,by rw[h,c],f⟩
theorem Ow.dK{d:D}{v:V}{A:List Addr}{b:List az}{ds:List D}(w:Ow Y B H d (.ct .fz) v A)(e:d=.dK b ds):∃(a:Addr) (kvs:List (az×V)),v=.ref a/\H a=some (.dK kvs)/\kvs.map (·.1)=b/\A=[a]/\Dns Y B ds (kvs.map (·.2)):=by
 subst e;rw[Ow]at w;obtain⟨a,xs,k,r,j,i,h,g⟩:=w;obtain⟨f,c⟩:=Ows.fz g;exact⟨a,xs,r,j,i,by rw[h,c],f⟩
theorem Ow.dT'{a:Addr}{kvs:List (List az×V)}{ds:List D}(h:H a=some (.dT kvs))(d:Dns Y B ds (kvs.map (·.2))):Ow Y B H (.dT (kvs.map (·.1)) ds) (.ct .fz) (.ref a) [a]:=by
 rw[Ow];exact⟨a,kvs,[],rfl,h,rfl,rfl,Ows.of d⟩
theorem Ow.dK'{a:Addr}{kvs:List (az×V)}{ds:List D}(h:H a=some (.dK kvs))(d:Dns Y B ds (kvs.map (·.2))):Ow Y B H (.dK (kvs.map (·.1)) ds) (.ct .fz) (.ref a) [a]:=by
 rw[Ow];exact⟨a,kvs,[],rfl,h,rfl,rfl,Ows.of d⟩
theorem Jj{d k x d':D}{v u w:V}{A:List Addr}(p:Ow Y B H d (.ct .fz) v A)(m:Dn Y H k u)(j:Dn Y B x w)(e:qa d k x=some d'):∃a o',v=.ref a/\a∈A/\DPut H a u w (upd H a o')/\Ow Y B (upd H a o') d' (.ct .fz) v A:=by
 cases d with
 |dT c vs=>
   obtain⟨a,kvs,rfl,n,i,rfl,h⟩:=p.dT rfl;cases k with
   |tup r=>
     replace e:((bq r).bind λk=>if c.length<ac then some (if bX c k=true then D.dT c (g9 c vs k x) else .dT (c++[k]) (vs++[x])) else none)=some d':=e;obtain⟨f,o,e⟩:=Xl.mp e;rw[Dn]at m;obtain⟨b,xs,rfl,y,s⟩:=m;have ex:=eI o s;subst ex;by_cases z:c.length<ac
     · rw[Vo z]at e;cases e;have l:kvs.length<sizeLine:=cA (Wj (by rw[<-i,Vr]at z;exact z));refine⟨a,_,rfl,Vt,DPut.t n y l,?_⟩;subst i;by_cases q:bX (kvs.map (·.1)) f=true
       · rw[if_pos q];have hp:eC kvs f w=kvs.map λg=>if g.1=f then (g.1,w) else g:=by unfold eC;rw[l4,if_pos q]
         have:=Ow.dT' (Y:=Y) (B:=B) (H:=upd H a (.dT (eC kvs f w))) (ds:=g9 (kvs.map (·.1)) vs f x) ao (by rw[hp];exact mh j h)
         rw[tM q]at this;exact this
       · rw[on q]
         have:=Ow.dT' (Y:=Y) (B:=B) (H:=upd H a (.dT (eC kvs f w))) (ds:=vs++[x]) ao (by rw[eF q,V7];exact h.append (Dns.one j))
         rw[eF q,V7]at this;rw[eF q];exact this
     ·rw[on z]at e;cases e
   |_=>cases e
 |dK c vs=>
   obtain⟨a,kvs,rfl,n,i,rfl,h⟩:=p.dK rfl;replace e:((dX k).bind λk=>if c.length<ac then some (if bX c k=true then D.dK c (g9 c vs k x) else .dK (c++[k]) (vs++[x])) else none)=some d':=by cases k<;>exact e
   obtain⟨f,o,e⟩:=Xl.mp e;have ex:=mL o m;subst ex;by_cases z:c.length<ac
   · rw[Vo z]at e;cases e;have l:kvs.length<sizeLine:=cA (Wj (by rw[<-i,Vr]at z;exact z));refine⟨a,_,rfl,Vt,DPut.k n l,?_⟩;subst i;by_cases q:bX (kvs.map (·.1)) f=true
     · rw[if_pos q];have hp:eC kvs f w=kvs.map λg=>if g.1=f then (g.1,w) else g:=by unfold eC;rw[l4,if_pos q]
       have:=Ow.dK' (Y:=Y) (B:=B) (H:=upd H a (.dK (eC kvs f w))) (ds:=g9 (kvs.map (·.1)) vs f x) ao (by rw[hp];exact mh j h)
       rw[tM q]at this;exact this
     · rw[on q]
       have:=Ow.dK' (Y:=Y) (B:=B) (H:=upd H a (.dK (eC kvs f w))) (ds:=vs++[x]) ao (by rw[eF q,V7];exact h.append (Dns.one j))
       rw[eF q,V7]at this;rw[eF q];exact this
   ·rw[on z]at e;cases e
 |_=>cases k<;>cases e
section
variable{t:TE}{get:X0->Option D}{set:X0->D->X0}{tk tv:TE}{mk:X0->Res D}{mv:X0->Out D}
theorem L6(p:Pth Y ms t get set)(Q:PJ Y (KR Y .X) E ms tk mk)(L:MJ Y (KR Y .F) E ms tv mv):SJ Y E Kr pr ms (BY t tk tv) (eQ get set mk mv):=by
 intro B U As Z H T D R P;refine L.bndS R P λx g w I U1 j H1 N J e1 n1 K f=>?_;cases e:get g with
 |none=>rw[e]at f;exact f.elim
 |some d=>
   rw[e]at f;replace f:So Y E Kr pr ms I U1 Z (lA set x d g (mk g)) D:=f;obtain⟨v,A,O,C,hA,V⟩:=p.rd J e;refine O _ (Q I U1 j Z H1 g _ J ?_);cases y:mk g with
   |ok k=>
     rw[y]at f;replace f:So Y E Kr pr ms I U1 Z (match qa d k x with|some d'=>.nx (set g d')|none=>.bad) D:=f;intro u l m n N2 R2 i W M;cases z:qa d k x with
     |none=>rw[z]at f;exact f.elim
     |some d'=>
       rw[z]at f
       have r:Ow Y l n d (.ct .fz) v A:=Ow.mono i.b (λa s=>by
        obtain⟨o,G⟩:=Ow.at C s
        rw[G,i.h _ _ G]) C
       obtain⟨a,o',S,s,dp,q⟩:=Jj r M (Dn.mono i.b K) z;exact⟨a,_,S,dp,f Z l m j _ (V l m n R2 i.b i.h a s o' d' q) i.toEx (Kp.refl _ _)⟩
   |exc c=>rw[y]at f;exact λl m n R2 i=>f Z l m j n R2 i.toEx (Kp.refl _ _)
   |bad=>rw[y]at f;exact f.elim
def yM(set:X0->D->X0)(x:D)(xs:List D)(T:X0):Res D->SO
 |.ok (.int i)=>(match mN xs.length i with|some j=>.nx (set T (.lst (xs.set j x)))|none=>.bad)
 |.ok _=>.bad
 |.exc c=>.exc c T
 |.bad=>.bad
def lg(get:X0->Option D)(set:X0->D->X0)(mk:X0->Res D)(mv:X0->Out D):X0->SO:=λT=>fG (mv T) λx a=>match get a with
 |some (.lst xs)=>yM set x xs a (mk a)
 |_=>.bad
theorem LZ(p:Pth Y ms t get set)(M:PJ Y (KR Y .X) E ms tk mk)(K:MJ Y (KR Y .F) E ms tv mv):SJ Y E Kr pr ms (l7 tv (OK t tk JW)) (lg get set mk mv):=by
 intro B U As Z H T D R P;refine K.bndS R P λx g w I U1 m H1 N C e1 V J f=>?_;cases e:get g with
 |none=>rw[e]at f;exact f.elim
 |some d=>
   cases d with
   |lst xs=>
     rw[e]at f;replace f:So Y E Kr pr ms I U1 Z (yM set x xs g (mk g)) D:=f;obtain⟨v,A,L,G,W,Q⟩:=p.rd C e;obtain⟨a,vs,rfl,O,rfl,z⟩:=G.lst rfl;refine L _ (M I U1 m Z H1 g _ C ?_);cases s:mk g with
     |ok k=>
       rw[s]at f;intro u r o q N2 R2 l S n;cases k with
       |int i=>
         replace f:So Y E Kr pr ms I U1 Z (match mN xs.length i with|some j=>.nx (set g (.lst (xs.set j x)))|none=>.bad) D:=f;have n:Dn Y q (.int i) u:=n;rw[Dn]at n;cases y:mN xs.length i with
         |none=>rw[y]at f;exact f.elim
         |some j=>
           rw[y]at f;refine⟨a,vs,i,j,rfl,n,l.h _ _ O,by rw[<-z.len];exact y,?_⟩;exact f Z r o m _ (Q r o q R2 l.b l.h a Vt _ _ (Ow.lst' ao (Dns.set (Dn.mono l.b J) j (z.mono l.b)))) l.toEx (Kp.refl _ _)
       |_=>exact f.elim
     |exc c=>rw[s]at f;exact λr o q R2 l=>f Z r o m q R2 l.toEx (Kp.refl _ _)
     |bad=>rw[s]at f;exact f.elim
   |_=>rw[e]at f;exact f.elim
end
theorem pz{f:Str}{y:V}:∀{fs:List (Str×V)},(eG f y fs).map (·.1)=if bX (fs.map (·.1)) f=true then fs.map (·.1) else fs.map (·.1)++[f]
 |[]=>rfl
 | p::fs=>by
   obtain⟨g,z⟩:=p;unfold eG bX;rw[List.map_cons,List.any_cons];by_cases q:g=f
   ·rw[Vo q,Wu q,Bool.true_or,Vo rfl,Vq]
   · rw[if_neg q,decide_eq_false q,Bool.false_or,List.map_cons,pz];unfold bX;split
     ·rfl
     ·rw[Xe]
theorem Owf.put{sh:List (Str×Sh)}{f:Str}{x:D}{y:V}{N:List Addr}(s:Ow Y B H x ((sh.lookup f).getD .fz) y N)(v:N.Nodup):∀{fs:List (Str×V)} {ds:List D} {A:List Addr},Owf Y B H ds (fs.map (·.1)) sh (fs.map (·.2)) A->A.Nodup->(∀a∈N,a∉A)->
 ∃i,Owf Y B H (if bX (fs.map (·.1)) f=true then c7 (fs.map (·.1)) ds f x else ds++[x]) ((eG f y fs).map (·.1)) sh ((eG f y fs).map (·.2)) i/\i.Nodup/\∀a∈i,a∈A\/a∈N
 | [],ds,A,h,nd,hd=>by
   cases ds with
   |nil=>
     refine⟨N,?_,v,λa c=>.inr c⟩;show Owf Y B H [x] [f] sh [y] N;rw[Owf];exact⟨f,[],y,[],N,[],rfl,rfl,by rw[V3],s,by rw[Owf];exact⟨rfl,rfl⟩⟩
   |cons d ds=>
     rw[Owf]at h;obtain⟨_,_,_,_,_,_,e,_⟩:=h;cases e
 | p::fs,ds,A,h,nd,hd=>by
   obtain⟨g,z⟩:=p;cases ds with
   |nil=>
     rw[Owf]at h;cases h.1
   |cons d ds=>
     rw[List.map_cons,List.map_cons,Owf]at h;obtain⟨n,J,u,r,E,I,K,h0,M,L,G⟩:=h;cases K;cases h0;subst M;obtain⟨o,j,m⟩:=List.nodup_append.mp nd;unfold eG;by_cases q:g=f
     · have t:bX (((g,z)::fs).map (·.1)) f=true:=by
        unfold bX;rw[List.map_cons,List.any_cons,decide_eq_true q,Bool.true_or]
       rw[Vo q,t,Vo rfl,Vq,c7,Vo q,Vq,Vq];refine⟨N++I,?_,VW.mpr ⟨v,j,λa c b k e=>hd a c (Vs _ (e▸k))⟩,λa c=>?_⟩
       ·rw[Owf];exact⟨g,_,y,_,N,I,rfl,rfl,rfl,by rw[q];exact s,G⟩
       · rcases Vy.mp c with z|z
         ·exact .inr z
         ·exact .inl (Vs _ z)
     · obtain⟨i,w,l,F⟩:=Owf.put s v G j (λa c k=>hd a c (Vs _ k))
       have t:bX (((g,z)::fs).map (·.1)) f=bX (fs.map (·.1)) f:=by
        unfold bX;rw[List.map_cons,List.any_cons,decide_eq_false q,Bool.false_or]
       rw[on q,t,Vq,Vq,Vq,c7,on q]
       have C:∀a∈E,∀b∈i,a≠b:=λa c b k e=>by
        rcases F b k with z|z
        ·exact m a c b z e
        ·exact hd b z (VB _ (e▸c))
       refine⟨E++i,?_,VW.mpr ⟨o,l,C⟩,λa c=>?_⟩
       · have:(if bX (fs.map (·.1)) f=true then d::c7 (fs.map (·.1)) ds f x else (d::ds)++[x])=d::(if bX (fs.map (·.1)) f=true then c7 (fs.map (·.1)) ds f x else ds++[x]):=by split<;>rfl
         rw[this,Owf];exact⟨g,_,z,_,E,i,rfl,rfl,rfl,L,w⟩
       · rcases Vy.mp c with z|z
         ·exact .inl (VB _ z)
         · rcases F a z with z|z
           ·exact .inl (Vs _ z)
           ·exact .inr z
def cc(c:Nat)(f:Str)(i:Nat)(me:X0->Out D):X0->SO:=λT=>fG (me T) λx a=>match rg a i with
 |some d=>(match k9 c f x d with|some d'=>.nx (a.set i (some d'))|none=>.bad)
 |none=>.bad
theorem JP{K':KT D V}{c:Nat}{f:Str}{i:Nat}{sh:List (Str×Sh)}{te:TE}{me:X0->Out D}(hc:Cls K (Y c))(hn:NoAttr K (Y c) f)(hm:ms.getD i .F= .O (.ob sh))(he:MJ Y K' E ms te me)
 (s:∀B U H d v N,K' d v B U H N->∃X,(X=[]\/X=N)/\Ow Y B H d ((sh.lookup f).getD .fz) v X):SJ Y E Kr pr ms (BX K (bI i) te f) (cc c f i me):=by
 intro B U As Z H T D R P;refine he.bndS R P λx t y I U1 g H1 N m e1 n1 hx o=>?_;obtain⟨X,hN,ow⟩:=s _ _ _ _ _ _ hx
 have L:NewM X U1 g:=by
  rcases hN with e|e
  ·subst e;exact NewM.nil
  ·subst e;exact n1
 have l:=m.lo i;cases e:rg t i with
 |none=>rw[e]at o;exact o.elim
 |some d=>
   rw[e]at o;replace o:So Y E Kr pr ms I U1 Z (match k9 c f x d with|some d'=>.nx (t.set i (some d'))|none=>.bad) D:=o;rw[e,hm]at l;obtain⟨v,hv,w⟩:=l;cases d with
   |obj r ns vs=>
     have ep:k9 c f x (.obj r ns vs)=if r=c/\ns.length<900 then some (if bX ns f=true then .obj r ns (c7 ns vs f x) else .obj r (ns++[f]) (vs++[x])) else none:=rfl
     rw[ep]at o;by_cases q:r=c/\ns.length<900
     · rw[Vo q]at o;obtain⟨q1,q2⟩:=q;subst q1;have w:Ow Y I H1 (.obj r ns vs) (.ob sh) v (g i):=w;rw[Ow]at w;obtain⟨a,dx,fs,A',rfl,h1,h2,W,h4⟩:=w;subst h2;have nd:=m.nd i;rw[W]at nd;obtain⟨nd1,nd2⟩:=VM.mp nd;have n:a∈g i:=by rw[W];exact Vt
       obtain⟨p,w2,nda,hA⟩:=Owf.put ow L.nd h4 nd2 (λb h C=>L.ap b h i (by rw[W];exact Vu _ C))
       have S:a∉p:=λz=>by
        rcases hA a z with z|z
        ·exact nd1 z
        ·exact L.ap a z i n
       refine⟨.ref a,bM hv,a,_,dx,fs,rfl,h1,hc,hn,by rw[Vr]at q2;omega,?_⟩
       have w3:Ow Y I (upd H1 a (.ins (Y r) dx (eG f y fs))) (if bX (fs.map (·.1)) f=true then .obj r (fs.map (·.1)) (c7 (fs.map (·.1)) vs f x) else .obj r (fs.map (·.1)++[f]) (vs++[x])) (.ob sh) (.ref a) (a::p):=by
        have G:=Owf.mono (H':=upd H1 a (.ins (Y r) dx (eG f y fs))) (Same.refl I) (λb h=>am (λz:b=a=>S (z▸h))) w2;have J:=pz (f:=f) (y:=y) (fs:=fs);by_cases k:bX (fs.map (·.1)) f=true
        ·rw[Vo k]at J G ⊢;rw[Ow];rw[J]at G;exact⟨a,dx,_,p,rfl,ao,J,rfl,G⟩
        ·rw[on k]at J G ⊢;rw[Ow];rw[J]at G;exact⟨a,dx,_,p,rfl,ao,J,rfl,G⟩
       have hi:i<t.length:=(VI.mp (bM e)).1;refine o Z I U1 (λj=>if j=i then a::p else g j) _ ⟨m.bu,λb u z=>?_,λj=>?_,λj k b Q h s=>?_,λj b h=>?_,λj=>?_,by rw[VS];exact m.len,m.tb⟩ (Ex.refl _ _) (Kp.refl _ _)
       ·rw[am (aL z (m.un i a n))];exact m.uh b u z
       · show(if j=i then a::p else g j).Nodup;split
         ·exact VM.mpr ⟨S,nda⟩
         ·exact m.nd j
       · replace h:b∈(if j=i then a::p else g j):=h;replace s:b∈(if k=i then a::p else g k):=s
         have M:∀{j},j≠i->b∈a::p->b∈g j->False:=λ{j} hj C A=>by
          rcases VA.mp C with z|z
          ·exact m.dj i j b (WZ hj) (by rw[z];exact n) A
          · rcases hA b z with z|z
            ·exact m.dj i j b (WZ hj) (by rw[W];exact Vu _ z) A
            ·exact L.ap b z j A
         split at h
         · rename_i z1;split at s
           ·rename_i z2;exact Q (z1.trans z2.symm)
           ·rename_i z2;exact M z2 h s
         · rename_i z1;split at s
           ·exact M z1 s h
           ·exact m.dj j k b Q h s
       · replace h:b∈(if j=i then a::p else g j):=h;split at h
         · rcases VA.mp h with z|z
           ·rw[z];exact m.un i a n
           · rcases hA b z with z|z
             ·exact m.un i b (by rw[W];exact Vu _ z)
             ·exact L.un b z
         ·exact m.un j b h
       · rw[c6];show Lo Y I U1 _ (ms.getD j .F) _ _ (if j=i then a::p else g j);by_cases z:i=j
         ·subst z;rw[Vo ⟨rfl,hi⟩,Vo rfl,hm];exact⟨.ref a,hv,w3⟩
         ·rw[on λy=>z y.1,on λy=>z y.symm];exact(m.lo j).mono (Same.refl _) (Same.refl _) λb h=>am (λy:b=a=>m.dj i j a z n (y▸h))
     ·rw[on q]at o;exact o.elim
   |_=>exact o.elim
theorem L1{c:Nat}{f:Str}{i:Nat}{sh:List (Str×Sh)}{te:TE}{me:X0->Out D}(h:Cls K (Y c))(a:NoAttr K (Y c) f)(b:ms.getD i .F= .O (.ob sh))(e:(sh.lookup f).getD .fz=.fz)(g:MJ Y (KR Y .F) E ms te me):SJ Y E Kr pr ms (BX K (bI i) te f) (cc c f i me):=
 JP h a b g λB U H d v N k=>⟨[],.inl rfl,by rw[e,Ow];exact⟨k,rfl⟩⟩
theorem L0{c:Nat}{f:Str}{i:Nat}{sh:List (Str×Sh)}{s:Sh}{te:TE}{me:X0->Out D}(h:Cls K (Y c))(a:NoAttr K (Y c) f)(b:ms.getD i .F= .O (.ob sh))(e:(sh.lookup f).getD .fz=s)(g:MJ Y (KO Y s) E ms te me):SJ Y E Kr pr ms (BX K (bI i) te f) (cc c f i me):=
 JP h a b g λB U H d v N k=>⟨N,.inr rfl,by rw[e];exact k⟩
def dq(Y:Cm)(ms:List Md)(Kr:KT D V)(a:List D->Out D):Sp:=λvs H Q _=>vJ Y ms Kr a vs H Q E0
def pA(ms:List Md)(a:Nat):Nat->Bool:=λj=>decide (j<a)&&(match ms.getD j .F with | .O _=>true|_=>false)
theorem wc{W:Type}{l:List (Option W)}{n i:Nat}:rg (l++List.replicate n none) i=rg l i:=by
 unfold rg;by_cases h:i<l.length
 ·rw[Wc h]
 · rw[V9 (by omega),VP (show l.length<=i by omega)];by_cases a:i-l.length<n
   ·rw[Xk,Vo a];rfl
   ·rw[Xk,on a]
def eZ(k:Nat)(a:X0->SO)(ds:List D):Out D:=match a (ds.map some++List.replicate (k-ds.length) none) with
 |.rt d T=>.ok d T
 |.exc c T=>.exc c T
 |_=>.bad
theorem Rel.enter{more:List Md}{vs:List V}{ds:List D}{n:Nat}(R:Rel Y ms B U As (vs.map some) H (ds.map some))(a:vs.length=ms.length):Rel Y (ms++more) B U As (vs.map some++List.replicate n none) H (ds.map some++List.replicate n none):=by
 have hd:ds.length=vs.length:=by have:=R.len;rw[Vr,Vr]at this;exact this
 refine⟨R.bu,R.uh,R.nd,R.dj,R.un,λi=>?_,by rw[Vw,Vw,R.len,W8,W8],R.tb⟩;rw[wc,wc];have l:=R.lo i;by_cases h:i<ms.length
 ·rw[VL,Wc h,<-VL];exact l
 · have:rg (ds.map some) i=none:=by rw[dJ,VP (by omega)]
   rw[this]at l ⊢;exact l
theorem Rel.leave{more:List Md}{vs:List V}{d:St}{G:X0}{n:Nat}(h:vs.length=ms.length)(R:Rel Y (ms++more) B U As d H G)(k:Kp (pA ms ms.length) (vs.map some++List.replicate n none) d):
 ∃J,Rel Y ms B U J (vs.map some) H (fj ms G)/\∀N,NewM N U As->NewM N U J:=by
 refine⟨λi=>if pA ms ms.length i=true then As i else [],⟨R.bu,R.uh,λi=>?_,λi j a g b f=>?_,λi a b=>?_,λi=>?_,?_,R.tb⟩,λN n=>⟨n.nd,n.un,λa b i=>?_⟩⟩
 · show(if pA ms ms.length i=true then As i else []).Nodup;split
   ·exact R.nd i
   ·exact Wg
 · replace b:a∈(if pA ms ms.length i=true then As i else []):=b;replace f:a∈(if pA ms ms.length j=true then As j else []):=f;split at b
   · split at f
     ·exact R.dj i j a g b f
     ·cases f
   ·cases b
 · replace b:a∈(if pA ms ms.length i=true then As i else []):=b;split at b
   ·exact R.un i a b
   ·cases b
 · show Lo Y B U H (ms.getD i .F) (rg (fj ms G) i) (rg (vs.map some) i) (if pA ms ms.length i=true then As i else []);by_cases hi:i<ms.length
   · have m:(ms++more).getD i .F=ms.getD i .F:=by
      rw[VL,Wc hi,<-VL]
     cases c:ms.getD i .F with
     |O s=>
       have hp:pA ms ms.length i=true:=by unfold pA;rw[c,decide_eq_true hi];rfl
       rw[Vo hp,ky c];have l:=R.lo i;rw[m,c,k i hp,wc]at l;exact l
     |F=>
       have hp:pA ms ms.length i=false:=by unfold pA;rw[c];simp
       have e:rg (fj ms G) i=none:=by
        unfold fj rg;rw[List.getElem?_map,List.getElem?_range hi];show(some (match ms.getD i .F with | .O _=>_|_=>none)).join=none;rw[c];rfl
       rw[hp,e];exact rfl
     |R=>
       have hp:pA ms ms.length i=false:=by unfold pA;rw[c];simp
       have e:rg (fj ms G) i=none:=by
        unfold fj rg;rw[List.getElem?_map,List.getElem?_range hi];show(some (match ms.getD i .F with | .O _=>_|_=>none)).join=none;rw[c];rfl
       rw[hp,e];exact rfl
   · have hp:pA ms ms.length i=false:=by unfold pA;rw[decide_eq_false hi];rfl
     have e:rg (fj ms G) i=none:=by
      unfold fj rg;rw[List.getElem?_eq_none (by rw[List.length_map,List.length_range];omega)];rfl
     rw[hp,e];exact rfl
 ·unfold fj;rw[List.length_map,List.length_map,List.length_range,h]
 · show a∉(if pA ms ms.length i=true then As i else []);split
   ·exact n.ap a b i
   ·simp
theorem Jd{more:List Md}{t:TS}{a:X0->SO}{N:List Str}{vs:List V}{Q:VK}{n:List D->Out D}(s:SJ Y E0 Kr (pA ms ms.length) (ms++more) t a)(w:N.length=ms.length+more.length)(m:n=run N.length a)(r:∀B U H,Kr .non .non B U H [])
 (h:vJ Y ms Kr n vs H Q E0):t {nx:=λ_ H'=>Q .non H',rt:=Q} (L2.gK N vs) H:=by
 obtain⟨B,U,As,ds,R,k,P⟩:=h;subst m;have hd:ds.length=vs.length:=by have:=R.len;rw[Vr,Vr]at this;exact this
 unfold L2.gK;refine s B U As _ H (ds.map some++List.replicate (N.length-vs.length) none) _ (R.enter k) ?_;unfold run at P;rw[hd]at P;cases e:a (ds.map some++List.replicate (N.length-vs.length) none) with
 |nx G=>
   rw[e]at P;intro f S M J H' j i g;obtain⟨b,R2,l⟩:=j.leave k g;exact P .non S M b H' [] R2 i NewM.nil (r _ _ _)
 |rt d G=>
   rw[e]at P;intro v f S M J H' u j i g p q;obtain⟨b,R2,l⟩:=j.leave k g;exact P v S M b H' u R2 i (l _ p) q
 |exc c G=>
   rw[e]at P;intro f S M J H' j i g o;obtain⟨b,R2,l⟩:=j.leave k g;exact P S M b H' R2 i o
 |bk G=>rw[e]at P;exact P.elim
 |ct G=>rw[e]at P;exact P.elim
 |bad=>rw[e]at P;exact P.elim
theorem E6{more:List Md}{t:TS}{a:X0->SO}{N:List Str}{vs:List V}{Q:VK}{n:List D->Out D}(r:SJ Y E0 Kr (pA ms ms.length) (ms++more) t a)(u:N.length=ms.length+more.length)(j:n=eZ N.length a)
 (h:vJ Y ms Kr n vs H Q E0):t {nx:=λ_ H'=>Q .non H',rt:=Q} (L2.gK N vs) H:=by
 obtain⟨B,U,As,ds,R,i,P⟩:=h;subst j;have hd:ds.length=vs.length:=by have:=R.len;rw[Vr,Vr]at this;exact this
 unfold L2.gK;refine r B U As _ H (ds.map some++List.replicate (N.length-vs.length) none) _ (R.enter i) ?_;unfold eZ at P;rw[hd]at P;cases e:a (ds.map some++List.replicate (N.length-vs.length) none) with
 |nx G=>rw[e]at P;exact P.elim
 |rt d G=>
   rw[e]at P;intro v f S M J H' s l k g p q;obtain⟨b,R2,m⟩:=l.leave i g;exact P v S M b H' s R2 k (m _ p) q
 |exc c G=>
   rw[e]at P;intro f S M J H' l k g o;obtain⟨b,R2,m⟩:=l.leave i g;exact P S M b H' R2 k o
 |bk G=>rw[e]at P;exact P.elim
 |ct G=>rw[e]at P;exact P.elim
 |bad=>rw[e]at P;exact P.elim
theorem xX{vs:List V}{Q:VK}{b:List D->Out D}(h:vJ Y ms Kr b vs H Q E):vs.length=ms.length:=by
 obtain⟨_,_,_,_,_,a,_⟩:=h;exact a
end
end Mi
namespace Mi
open PySem PySem.Spec L2
mutual
def toPy:D->Option PyData
 |.non=>some .none
 |.bl b=>some (.bool b)
 |.int i=>some (.int i)
 |.str x=>some (.str x)
 |.lst xs=>(toPys xs).map .list
 |.scr xs=>(toPys xs).map .list
 |.tup xs=>(toPys xs).map .tuple
 |.ty _=>none
 |.dK _ _=>none
 |.dT _ _=>none
 |.obj _ _ _=>none
def toPys:List D->Option (List PyData)
 |[]=>some []
 | d::r=>match toPy d,toPys r with
   |some p,some q=>some (p::q)
   |_,_=>none
end
section
variable{Y:Cm}{E:XK}{Kr:KT D V}{pr:Nat->Bool}{ms:List Md}{B U H:Hp}{As:Nat->List Addr}{Z:St}{T:X0}{K:F0}
mutual
theorem den_of:∀{d:D} {p:PyData} {v:V},toPy d=some p->Dn Y H d v->L2.Den Y.K H p v
 |.non,p,v,e,h=>by rw[Dn]at h;cases e;rw[L2.Den];exact h
 |.bl _,p,v,e,h=>by rw[Dn]at h;cases e;rw[L2.Den];exact h
 |.int _,p,v,e,h=>by rw[Dn]at h;cases e;rw[L2.Den];exact h
 |.str _,p,v,e,h=>by rw[Dn]at h;cases e;rw[L2.Den];exact h
 | .lst xs,p,v,e,h=>by
   rw[Dn]at h;obtain⟨a,ys,rfl,c,b⟩:=h;rw[toPy]at e;obtain⟨ps,e1,rfl⟩:=VJ.mp e;rw[L2.Den];exact⟨a,ys,rfl,SqL.of c,dens_of e1 b⟩
 | .scr xs,p,v,e,h=>by
   rw[Dn]at h;obtain⟨a,ys,rfl,c,b⟩:=h;rw[toPy]at e;obtain⟨ps,e1,rfl⟩:=VJ.mp e;rw[L2.Den];exact⟨a,ys,rfl,c.sq,dens_of e1 b⟩
 | .tup xs,p,v,e,h=>by
   rw[Dn]at h;obtain⟨a,ys,rfl,c,b⟩:=h;rw[toPy]at e;obtain⟨ps,e1,rfl⟩:=VJ.mp e;rw[L2.Den];exact⟨a,ys,rfl,SqT.of c,dens_of e1 b⟩
 |.ty _,p,v,e,h=>by cases e
 |.dK _ _,p,v,e,h=>by cases e
 |.dT _ _,p,v,e,h=>by cases e
 |.obj _ _ _,p,v,e,h=>by cases e
theorem dens_of:∀{ds:List D} {ps:List PyData} {xs:List V},toPys ds=some ps->Dns Y H ds xs->L2.Dens Y.K H ps xs
 |[],ps,xs,e,h=>by rw[Dns]at h;rw[toPys]at e;cases e;rw[L2.Dens];exact h
 | d::ds,ps,xs,e,h=>by
   rw[Dns]at h;obtain⟨x,r,rfl,c,b⟩:=h;rw[toPys]at e;cases e1:toPy d with
   |none=>rw[e1]at e;cases e
   |some p=>
     cases a:toPys ds with
     |none=>rw[e1,a]at e;cases e
     |some q=>
       rw[e1,a]at e;cases e;rw[L2.Dens];exact⟨x,r,rfl,den_of e1 c,dens_of a b⟩
end
def GK(neg:Bool)(x y:D):Res D:=match toPy x,toPy y with
 |some p,some q=>if SeqAt.shaped p=true/\SeqAt.shaped q=true then .ok (.bl (neg.xor (PyData.eqv p q))) else .bad
 |_,_=>.bad
theorem L5{neg:Bool}:S2 Y (CB Y.K neg) (GK neg):=by
 intro H x y v u b a;unfold GK;cases e1:toPy x with
 |none=>trivial
 |some p=>
   cases c:toPy y with
   |none=>trivial
   |some q=>
     dsimp only;by_cases z:SeqAt.shaped p=true/\SeqAt.shaped q=true
     ·rw[Vo z];refine⟨.bl _,λ_=>by rw[Dn],λQ h=>⟨p,q,den_of e1 b,den_of c a,z.1,z.2,?_⟩⟩;cases neg<;>simpa using h
     ·rw[on z];trivial
def GJ(x y:D):Res D:=match toPy x,toPy y with
 |some p,some (.list xs)=>if SeqAt.shaped p=true/\SeqAt.shaped (.list xs)=true/\(xs.all λz=>SeqAt.noMix z p)=true then .ok (.bl (decide (countIn p xs≠0))) else .bad
 |_,_=>.bad
theorem QQ:S2 Y (λx y H Q=>∃d xs,L2.Den Y.K H d x/\L2.Den Y.K H (.list xs) y/\SeqAt.shaped d=true/\SeqAt.shaped (.list xs)=true/\(∀z∈xs,SeqAt.noMix z d=true)/\Q (.bl (decide (countIn d xs≠0))) H) GJ:=by
 intro H x y v u b a;unfold GJ;cases e1:toPy x with
 |none=>trivial
 |some p=>
   cases c:toPy y with
   |none=>trivial
   |some q=>
     cases q with
     |list xs=>
       dsimp only;by_cases z:SeqAt.shaped p=true/\SeqAt.shaped (.list xs)=true/\(xs.all λz=>SeqAt.noMix z p)=true
       ·rw[Vo z];exact⟨.bl _,λ_=>by rw[Dn],λQ h=>⟨p,xs,den_of e1 b,den_of c a,z.1,z.2.1,λy a=>Wh.mp z.2.2 y a,h⟩⟩
       ·rw[on z];trivial
     |_=>trivial
def yB(i:Nat):X0->Out D:=λT=>match rg T i with|some d=>.ok d (T.set i none)|none=>.bad
theorem Rel.take(R:Rel Y ms B U As Z H T)(i:Nat):Rel Y ms B U (λj=>if j=i then [] else As j) Z H (T.set i none)/\∀a∈As i,U a=none/\∀j,a∉(λj=>if j=i then [] else As j) j:=by
 refine⟨⟨R.bu,R.uh,λj=>?_,λj k a f b d=>?_,λj a b=>?_,λj=>?_,by rw[VS];exact R.len,R.tb⟩,λa b=>⟨R.un i a b,λj c=>?_⟩⟩
 · show(if j=i then [] else As j).Nodup;split
   ·exact Wg
   ·exact R.nd j
 · replace b:a∈(if j=i then [] else As j):=b;replace d:a∈(if k=i then [] else As k):=d;split at b
   ·cases b
   · split at d
     ·cases d
     ·exact R.dj j k a f b d
 · replace b:a∈(if j=i then [] else As j):=b;split at b
   ·cases b
   ·exact R.un j a b
 · show Lo Y B U H (ms.getD j .F) (rg (T.set i none) j) (rg Z j) (if j=i then [] else As j);rw[c6];by_cases e:i=j
   · subst e;rw[Vo rfl];by_cases h:i<T.length
     ·rw[Vo ⟨rfl,h⟩];exact rfl
     · rw[on λz=>h z.2]
       have:rg T i=none:=by unfold rg;rw[List.getElem?_eq_none (by omega)];rfl
       rw[this];exact rfl
   ·rw[on λz=>e z.1,on λz=>e z.symm];exact R.lo j
 · replace c:a∈(if j=i then [] else As j):=c;split at c
   ·cases c
   ·rename_i z;exact R.dj i j a (λq=>z q.symm) b c
theorem U0{i:Nat}{s:Sh}(g:ms.getD i .F= .O s):MJ Y (KO Y s) E ms (bI i) (yB i):=by
 intro B U As Z H T Q R P;unfold yB at P;have l:=R.lo i;cases e:rg T i with
 |none=>rw[e]at P;exact P.elim
 |some d=>
   rw[e]at P;rw[e,g]at l;obtain⟨v,f,w⟩:=l;obtain⟨R2,c⟩:=R.take i;exact⟨v,bM f,P v B U _ H (As i) R2 (Ex.refl _ _) ⟨R.nd i,λa b=>(c a b).1,λa b=>(c a b).2⟩ w⟩
def aN:D->Bool | .int _=>true | .bl _=>true | .non=>true | .str _=>true|_=>false
def iV:D->Bool
 |.lst xs=>xs.all aN
 |.scr xs=>xs.all aN
 |.tup xs=>xs.all aN
 |.dK _ xs=>xs.all aN
 |.dT _ xs=>xs.all aN
 |.obj _ _ xs=>xs.all aN
 |d=>aN d
def j6(m:X0->Res D):X0->Res D:=λT=>(m T).bind λd=>if iV d=true then .ok d else .bad
theorem dI{G a:Hp}{d:D}{v:V}(h:aN d=true)(q:Dn Y G d v):Dn Y a d v:=by
 cases d with
 |int _=>rw[Dn]at q ⊢;exact q
 |bl _=>rw[Dn]at q ⊢;exact q
 |non=>rw[Dn]at q ⊢;exact q
 |str _=>rw[Dn]at q ⊢;exact q
 |_=>cases h
theorem ci{G c:Hp}:∀{ds:List D} {xs:List V},ds.all aN=true->Dns Y G ds xs->Dns Y c ds xs
 |[],_,_,q=>by rw[Dns]at q ⊢;exact q
 | d::ds,_,h,q=>by
   rw[List.all_cons,Xd]at h;rw[Dns]at q ⊢;obtain⟨x,r,e,b,a⟩:=q;exact⟨x,r,e,dI h.1 b,ci h.2 a⟩
theorem cS{k i:Kd}{t:TE}{m:X0->Res D}(h:PJ Y (KC Y k) E ms t m):PJ Y (KC Y i) E ms t (j6 m):=by
 intro B U As Z H T Q R P;refine h.bnd R P λx v I U1 H1 W _ j e1 l J f=>?_;by_cases z:iV x=true
 · rw[Vo z]at f;refine f v I U1 H1 [] j (Gw.refl _ _ _) New.nil ?_;cases x with
   |lst ds=>obtain⟨a,xs,r,d,b⟩:=J;exact⟨a,xs,r,d,ci z b⟩
   |scr ds=>obtain⟨a,xs,r,d,b⟩:=J;exact⟨a,xs,r,d,ci z b⟩
   |tup ds=>obtain⟨a,xs,r,d,b⟩:=J;exact⟨a,xs,r,d,ci z b⟩
   |dK g ds=>obtain⟨a,xs,r,d,b,e⟩:=J;exact⟨a,xs,r,d,b,ci z e⟩
   |dT g ds=>obtain⟨a,xs,r,d,b,e⟩:=J;exact⟨a,xs,r,d,b,ci z e⟩
   |obj c ns ds=>obtain⟨a,dx,xs,r,d,b,e⟩:=J;exact⟨a,dx,xs,r,d,b,ci z e⟩
   |int _=>exact dI (G:=hp k I U1 H1) z J
   |bl _=>exact dI (G:=hp k I U1 H1) z J
   |non=>exact dI (G:=hp k I U1 H1) z J
   |str _=>exact dI (G:=hp k I U1 H1) z J
   |ty _=>cases z
 ·rw[on z]at f;exact f.elim
theorem rS{k:Kd}{t:TE}{m:X0->Res D}(h:PJ Y (KR Y .X) E ms t m):PJ Y (KR Y .F) E ms t (λT=>(m T).bind λd=>if aN d=true then .ok d else .bad):=by
 intro B U As Z H T Q R P;refine h.bnd R P λx v I U1 H1 W _ b e1 c J a=>?_;by_cases z:aN x=true
 ·rw[Vo z]at a;exact a v I U1 H1 [] b (Gw.refl _ _ _) New.nil (dI z J)
 ·rw[on z]at a;exact a.elim
def kD:az->D | .inl i=>.int i | .inr x=>.str x
def yN:D->Res D | .dT a _=>.ok (.lst (a.map λk=>.tup (k.map kD)))|_=>.bad
theorem wR{G:Hp}:∀k:List az,Dns Y G (k.map kD) (k.map kV)
 |[]=>by rw[Wq,Wq,Dns]
 | x::k=>by
   rw[Vq,Vq,Dns];refine⟨_,_,rfl,?_,wR k⟩;cases x with
   |inl i=>show Dn Y G (.int i) (.int i);rw[Dn]
   |inr i=>show Dn Y G (.str i) (.str i);rw[Dn]
theorem Dns.of_get{G:Hp}:∀{ds:List D} {xs:List V},ds.length=xs.length->(∀(i:Nat) d x,ds[i]?=some d->xs[i]?=some x->Dn Y G d x)->Dns Y G ds xs
 | [],xs,h,_=>by
   rw[Dns];exact VZ.mp h.symm
 |d::ds,[],h,_=>by cases h
 | d::ds,x::xs,h,k=>by
   rw[Dns];exact⟨x,xs,rfl,k 0 d x rfl rfl,Dns.of_get (by simpa using h) λi d x e1 a=>k (i+1) d x (by simpa using e1) (by simpa using a)⟩
theorem H9{k:Kd}{ta:TE}{p:X0->Res D}(h:PJ Y (KC Y k) E ms ta p):PJ Y (KO Y (.ct .fz)) E ms (xL (λxs H Q=>∃a kvs,xs=[.ref a]/\Rd H a (.dT kvs)/\
 ∀(g:List Addr) (l:Addr),g.length=kvs.length->(∀(i:Nat) k v b,kvs[i]?=some (k,v)->g[i]?=some b->H b=some (.tup (k.map kV)))->H l=none->Q (.ref l) (upd H l (.lst (g.map V.ref)))) (aA ta bx)) (un yN p):=by
 intro B U As Z H T Q R P;refine h.bnd R P λx v I U1 H1 W _ f e1 O J A=>?_;cases x with
 |dT g ds=>
   obtain⟨a,kvs,rfl,L,s,X⟩:=J;refine⟨a,kvs,rfl,L,λbs l F r C=>?_⟩
   have c:∀b∈bs,∃o,H1 b=some o/\cX o:=λb m=>by
    obtain⟨i,hi,e⟩:=XD m;have K:bs[i]?=some b:=by rw[<-e];exact VH hi
    have G:kvs[i]?=some (kvs[i]'(by omega)):=VH (by omega);exact⟨_,r i _ _ b (by rw[G]) K,_,rfl⟩
   have R2:Rel Y ms (Mi.frz I H1 bs) (Mi.frz U1 H1 bs) As Z H1 T:=f.grow (bE f.bh) (bE f.uh) (Same.refl _) (mT f.bu) (rn f.uh) λi a h=>by
    unfold Mi.frz;split
    ·rename_i z;obtain⟨o,e,t⟩:=c a z;exact(f.nt h e t).elim
    ·exact f.un i a h
   have M:Gw I U1 H1 (Mi.frz I H1 bs) (Mi.frz U1 H1 bs) H1:=by
    refine⟨⟨bE f.bh,bE f.uh,λa o q=>?_⟩,Same.refl _,λa o q=>?_⟩
    · unfold Mi.frz at q;split at q
      ·rename_i z;obtain⟨o',e,t⟩:=c a z;rw[e]at q;cases q;exact .inr (.inr t)
      ·exact .inl q
    · unfold Mi.frz at q;split at q
      ·rename_i z;obtain⟨o',e,t⟩:=c a z;rw[e]at q;cases q;exact .inr (.inr t)
      ·exact .inl q
   have N:Po Y (KO Y (.ct .fz)) E ms (Mi.frz I H1 bs) (Mi.frz U1 H1 bs) As Z H1 T (.ok (.lst (g.map λk=>.tup (k.map kD)))) Q:=Po.at A M;refine dR R2 N (Dns.of_get (by rw[List.length_map,List.length_map,F,<-s,List.length_map]) λi d x w ex=>?_) C;rw[List.getElem?_map]at w ex;obtain⟨S,u,rfl⟩:=Option.map_eq_some_iff.mp w;obtain⟨b,y,rfl⟩:=Option.map_eq_some_iff.mp ex;rw[<-s,List.getElem?_map]at u;obtain⟨j,n,rfl⟩:=Option.map_eq_some_iff.mp u;have m:=r i j.1 j.2 b n y;rw[Dn];refine⟨b,_,rfl,?_,wR j.1⟩;unfold Mi.frz;rw[if_pos (List.mem_of_getElem? y)];exact m
 |_=>exact A.elim
def bS:List D->Option (List Int)
 |[]=>some []
 |.int i::r=>(bS r).map (i::·)
 |_::_=>none
theorem gq{G:Hp}:∀{ds:List D} {ns:List Int} {xs:List V},bS ds=some ns->Dns Y G ds xs->xs=ns.map V.int
 |[],ns,xs,e,h=>by rw[Dns]at h;cases e;rw[h];rfl
 | d::ds,ns,xs,e,h=>by
   rw[Dns]at h;obtain⟨x,r,rfl,a,b⟩:=h;cases d with
   |int i=>
     rw[bS]at e;obtain⟨ms,e1,rfl⟩:=VJ.mp e;rw[Dn]at a;rw[gq e1 b,a,Vq]
   |_=>cases e
def c9:List Int->Int->Int
 |[],m=>m
 |x::r,m=>c9 r (if x<m then x else m)
def fM:List Int->Int->Int
 |[],m=>m
 |x::r,m=>fM r (if m<x then x else m)
theorem ic:∀(l:List Int) (m:Int),(c9 l m=m\/c9 l m∈l)/\c9 l m<=m/\∀x∈l,c9 l m<=x
 |[],m=>⟨.inl rfl,Int.le_refl _,λ_ h=>(nomatch h)⟩
 | x::r,m=>by
   unfold c9;obtain⟨a,b,d⟩:=ic r (if x<m then x else m);refine⟨?_,?_,λy c=>?_⟩
   · rcases a with a|a
     · by_cases z:x<m
       ·rw[Vo z]at a ⊢;exact .inr (by rw[a];exact Vt)
       ·rw[on z]at a ⊢;exact .inl a
     ·exact .inr (Vu _ a)
   ·split at b<;>split<;>omega
   · rcases VA.mp c with z|z
     ·subst z;split at b<;>split<;>omega
     ·exact d y z
theorem jb:∀(l:List Int) (m:Int),(fM l m=m\/fM l m∈l)/\m<=fM l m/\∀x∈l,x<=fM l m
 |[],m=>⟨.inl rfl,Int.le_refl _,λ_ h=>(nomatch h)⟩
 | x::r,m=>by
   unfold fM;obtain⟨a,b,d⟩:=jb r (if m<x then x else m);refine⟨?_,?_,λy c=>?_⟩
   · rcases a with a|a
     · by_cases z:m<x
       ·rw[Vo z]at a ⊢;exact .inr (by rw[a];exact Vt)
       ·rw[on z]at a ⊢;exact .inl a
     ·exact .inr (Vu _ a)
   ·split at b<;>split<;>omega
   · rcases VA.mp c with z|z
     ·subst z;split at b<;>split<;>omega
     ·exact d y z
def mW(f:List Int->Int->Int)(x d:D):Res D:=match x with
 |.lst ds=>(match bS ds with|some []=>(if aN d=true then .ok d else .bad)|some (n::ns)=>.ok (.int (f ns n))|none=>.bad)
 |_=>.bad
theorem JZ{f:List Int->Int->Int}{ok:Int->Int->Prop}(sp:∀ns n m,m∈n::ns->(∀x∈n::ns,ok m x)->m=f ns n){ta l:TE}{q o:X0->Res D}(w:PJ Y (KR Y .X) E ms ta q)(hd:PJ Y (KR Y .X) E ms l o):
 PJ Y (KR Y .F) E ms (Aa (λxs t H Q=>∃p ns d,xs=[.ref p]/\t=[d]/\SqL K H p (ns.map V.int)/\(ns=[]->Q d H)/\∀m∈ns,(∀x∈ns,ok m x)->Q (.int m) H) (aA ta bx) (aA l bx)) (bn (mW f) q o):=by
 intro B U As Z H T Q R P;refine w.bnd R P λx v I U1 H1 W _ G e1 N J L=>hd.bnd G L λy u i e g O _ R2 s M C b=>?_;have J:Dn Y H1 x v:=J;cases x with
 |lst ds=>
   rw[Dn]at J;obtain⟨a,xs,rfl,r,A⟩:=J;replace b:Po Y (KR Y .F) E ms i e As Z g T (match bS ds with|some []=>(if aN y=true then .ok y else .bad)|some (n::ns)=>.ok (.int (f ns n))|none=>.bad) Q:=b;cases c:bS ds with
   |none=>rw[c]at b;exact b.elim
   |some ns=>
     have ex:=gq c A;subst ex;cases ns with
     |nil=>
       rw[c]at b;replace b:Po Y (KR Y .F) E ms i e As Z g T (if aN y=true then .ok y else .bad) Q:=b;by_cases z:aN y=true
       ·rw[Vo z]at b;exact⟨a,[],u,rfl,rfl,SqL.of (s.h _ _ r),λ_=>b u i e g [] R2 (Gw.refl _ _ _) New.nil (dI z C),λm j=>(nomatch j)⟩
       ·rw[on z]at b;exact b.elim
     |cons n ns=>
       rw[c]at b;refine⟨a,n::ns,u,rfl,rfl,SqL.of (s.h _ _ r),(λz=>by cases z),λm j k=>?_⟩;rw[sp ns n m j k];exact b _ i e g [] R2 (Gw.refl _ _ _) New.nil (show Dn Y _ (.int (f ns n)) _ by rw[Dn])
 |_=>exact b.elim
theorem MU{ta b:TE}{e c:X0->Res D}(j:PJ Y (KR Y .X) E ms ta e)(hd:PJ Y (KR Y .X) E ms b c):
 PJ Y (KR Y .F) E ms (Aa (λxs f H Q=>∃p ns d,xs=[.ref p]/\f=[d]/\SqL K H p (ns.map V.int)/\(ns=[]->Q d H)/\∀m∈ns,(∀x∈ns,m<=x)->Q (.int m) H) (aA ta bx) (aA b bx)) (bn (mW c9) e c):=JZ (ok:=λm x=>m<=x) (λns n m i a=>by
 obtain⟨h,k,g⟩:=ic ns n;have l2:=a _ (h.elim (λz=>by rw[z];exact Vt) (Vu _));rcases VA.mp i with z|z
 ·rw[z]at l2 ⊢;omega
 ·have:=g m z;omega) j hd
theorem MW{ta b:TE}{e c:X0->Res D}(j:PJ Y (KR Y .X) E ms ta e)(hd:PJ Y (KR Y .X) E ms b c):
 PJ Y (KR Y .F) E ms (Aa (λxs f H Q=>∃p ns d,xs=[.ref p]/\f=[d]/\SqL K H p (ns.map V.int)/\(ns=[]->Q d H)/\∀m∈ns,(∀x∈ns,x<=m)->Q (.int m) H) (aA ta bx) (aA b bx)) (bn (mW fM) e c):=JZ (ok:=λm x=>x<=m) (λns n m i a=>by
 obtain⟨h,k,g⟩:=jb ns n;have l2:=a _ (h.elim (λz=>by rw[z];exact Vt) (Vu _));rcases VA.mp i with z|z
 ·rw[z]at l2 ⊢;omega
 ·have:=g m z;omega) j hd
def mI:D->Res D
 |.lst ds=>(match bS ds with|some ns=>(if ns.length<4000 then .ok (.int (dd ns).length) else .bad)|none=>.bad)
 |_=>.bad
theorem C2{ta:TE}{d:X0->Res D}(g:PJ Y (KR Y .X) E ms ta d):PJ Y (KR Y .F) E ms
 (xL (λxs H Q=>∃a S n,xs=[.ref a]/\H a=some (.set S n)/\Q (.int n) H) (aA (xL (λxs H Q=>∃p ns,xs=[.ref p]/\SqL K H p (ns.map V.int)/\ns.length<4000/\∀q,H q=none->Q (.ref q) (upd H q (.set (λk=>(dd ns).any (·==k)) (dd ns).length))) (aA ta bx)) bx)) (un mI d):=by
 intro B U As Z H T Q R P;refine g.bnd R P λx v I U1 H1 W _ f e1 j J b=>?_;have J:Dn Y H1 x v:=J;cases x with
 |lst ds=>
   rw[Dn]at J;obtain⟨a,xs,rfl,i,h⟩:=J;replace b:Po Y (KR Y .F) E ms I U1 As Z H1 T (match bS ds with|some ns=>(if ns.length<4000 then .ok (.int (dd ns).length) else .bad)|none=>.bad) Q:=b;cases c:bS ds with
   |none=>rw[c]at b;exact b.elim
   |some ns=>
     have ex:=gq c h;subst ex;rw[c]at b;replace b:Po Y (KR Y .F) E ms I U1 As Z H1 T (if ns.length<4000 then .ok (.int (dd ns).length) else .bad) Q:=b;by_cases z:ns.length<4000
     ·rw[Vo z]at b;exact⟨a,ns,rfl,SqL.of i,z,λq e=>⟨q,_,_,rfl,ao,b _ I U1 _ [] (f.new e) (Gw.newO f e) New.nil (show Dn Y _ (.int _) _ by rw[Dn])⟩⟩
     ·rw[on z]at b;exact b.elim
 |_=>exact b.elim
def ub:D->Option (Int×Int×List Int)
 |.tup [.int a,.int b,.lst xs]=>(bS xs).map λns=>(a,b,ns)
 |_=>none
theorem AT{x:D}{a b:Int}{ns:List Int}(h:ub x=some (a,b,ns)):∃xs,x=.tup [.int a,.int b,.lst xs]/\bS xs=some ns:=by
 unfold ub at h;split at h
 ·obtain⟨ms,e,c⟩:=VJ.mp h;cases c;exact⟨_,rfl,e⟩
 ·cases h
theorem eJ{x:D}{v:V}{a b:Int}{ns:List Int}(e:ub x=some (a,b,ns))(c:Dn Y H x v):∃p l,v=.ref p/\SqT K H p [.int a,.int b,.ref l]/\SqL K H l (ns.map V.int):=by
 obtain⟨xs,rfl,o⟩:=AT e;rw[Dn]at c;obtain⟨p,ys,rfl,n,i⟩:=c;rw[Dns]at i;obtain⟨t,y,rfl,J,h⟩:=i;rw[Dns]at h;obtain⟨s,w,rfl,k,g⟩:=h;rw[Dns]at g;obtain⟨r,u,rfl,j,f⟩:=g;rw[Dns]at f;rw[Dn]at J;rw[Dn]at k;rw[Dn]at j;obtain⟨l,q,rfl,d,m⟩:=j;subst J k f;rw[gq o m]at d;exact⟨p,l,rfl,SqT.of n,SqL.of d⟩
def wz(x y:D):Res D:=match toPy x,toPy y with
 |some p,some (.list xs)=>if SeqAt.shaped p=true/\SeqAt.shaped (.list xs)=true/\(xs.all λz=>SeqAt.noMix z p)=true then .ok (.bl (!decide (countIn p xs≠0))) else .bad
 |_,_=>.bad
def Cz(K:F0):R2:=λx y H Q=>∃d xs,L2.Den K H d x/\L2.Den K H (.list xs) y/\SeqAt.shaped d=true/\SeqAt.shaped (.list xs)=true/\(∀z∈xs,SeqAt.noMix z d=true)/\Q (.bl (!decide (countIn d xs≠0))) H
theorem LY:S2 Y (Cz Y.K) wz:=by
 intro H x y v u b a;unfold wz;cases e1:toPy x with
 |none=>trivial
 |some p=>
   cases c:toPy y with
   |none=>trivial
   |some q=>
     cases q with
     |list xs=>
       dsimp only;by_cases z:SeqAt.shaped p=true/\SeqAt.shaped (.list xs)=true/\(xs.all λz=>SeqAt.noMix z p)=true
       ·rw[Vo z];exact⟨.bl _,λ_=>by rw[Dn],λQ h=>⟨p,xs,den_of e1 b,den_of c a,z.1,z.2.1,λy a=>Wh.mp z.2.2 y a,h⟩⟩
       ·rw[on z];trivial
     |_=>trivial
theorem Az{X:Cx}(j:X.A.units+65<cLine):jv X (compareOp .NotIn) (Cz X.K):=by
 intro G s Z H x y v u Q I e c h;obtain⟨d,xs,hd,k,b,a,i,q⟩:=h;obtain⟨l,g⟩:=den_reads I d hd e;obtain⟨bs,f⟩:=den_reads I _ k c;exact PyProof.Rows.notIn_list_dataH f g a b j i ⟨.bl _,H,I,rfl,q⟩
theorem U9{A:Around}{k:Nat}(a:Room k A):A.units+65<cLine:=by have:=a.un;omega
end
end Mi
namespace Mi
open PySem L2
def cN:List Ap->List Md->Bool
 |[],[]=>true
 |p::ps,m::r=>rA [] true p m&&cN ps r
 |_,_=>false
theorem cC:∀{ps:List Ap} {mc:List Md},cN ps mc=true->ps.length=mc.length
 |[],[],_=>rfl
 |[],_::_,h=>by cases h
 |_::_,[],h=>by cases h
 | p::ps,m::r,h=>by
   have h:(rA [] true p m&&cN ps r)=true:=h;rw[Xd]at h;rw[Vx,Vx,cC h.2]
theorem cD{ms:List Md}:∀{ps:List Ap} {mc:List Md},cN ps mc=true->∀(j:Nat) p,ps[j]?=some p->rA ms true p (mc.getD j .F)=true
 |[],_,_,_,_,e=>by cases e
 |_::_,[],h,_,_,_=>by cases h
 | p::ps,m::r,h,j,q,e=>by
   have h:(rA [] true p m&&cN ps r)=true:=h;rw[Xd]at h;cases j with
   |zero=>
     cases e
     have:=h.1
     cases p <;> cases m <;> first | exact this | cases this
   |succ j=>rw[WI];exact cD h.2 j q (by simpa using e)
def pc(b:List D->Out D)(a:X0->Res (List D)):X0->Res D:=λT=>(a T).bind (eU b)
def pm(c:Nat)(b:Str)(d:List D->Out D)(o:X0->Res D)(a:X0->Res (List D)):X0->Res D:=λT=>(o T).bind λo=>if aZ c b o=true then (a T).bind λds=>eU d (o::ds) else .bad
def pk(c:Nat)(b:List D->Out D)(a:X0->Res (List D)):X0->Res D:=λT=>(a T).bind (fP c b)
def mc(ps:List Ap)(b:List D->Out D)(a:X0->Res (List D)):X0->Out D:=λT=>((a T).up T).bind (bQ ps b)
def mm(c:Nat)(b:Str)(ps:List Ap)(d:List D->Out D)(o:X0->Res D)(a:X0->Res (List D)):X0->Out D:=λT=>((o T).up T).bind λo T=>if aZ c b o=true then ((a T).up T).bind λds T=>bQ ps d (o::ds) T else .bad
section
variable{Y:Cm}{Kr:KT D V}{pr:Nat->Bool}{ms:List Md}{K:F0}
theorem Rg{a:List Md}{c:List D->Out D}{ps:List Ap}{t:TA}{m:X0->Res (List D)}(h:AJ Y E0 ms ps t m)(b:cN ps a=true):PJ Y (KR Y .F) E0 ms (fH (dq Y a (KR Y .F) c) [] E0 t) (pc c m):=
 wq h (cC b) (cD b) λ_ _ _ _ _ _ _ h=>h
theorem ML{s:Sh}{a:List Md}{c:List D->Out D}{ps:List Ap}{t:TA}{m:X0->Res (List D)}(h:AJ Y E0 ms ps t m)(b:cN ps a=true):PJ Y (KO Y s) E0 ms (fH (dq Y a (KO Y s) c) [] E0 t) (pc c m):=
 wq h (cC b) (cD b) λ_ _ _ _ _ _ _ h=>h
theorem Q7{c:Nat}{b:Str}{a:List Md}{f:List D->Out D}{p:Ap}{ps:List Ap}{ta:TE}{d:X0->Res D}{t:TA}{m:X0->Res (List D)}(g:A1J Y E0 ms p ta d)(h:AJ Y E0 ms ps t m)(e:cN (p::ps) a=true):
 PJ Y (KR Y .F) E0 ms (cg (Y c) b (dq Y a (KR Y .F) f) [] E0 ta t) (pm c b f d m):=qK g h (cC e) (cD e) λ_ _ _ _ _ _ _ h=>h
theorem Mr{s:Sh}{c:Nat}{b:Str}{a:List Md}{f:List D->Out D}{p:Ap}{ps:List Ap}{ta:TE}{d:X0->Res D}{t:TA}{m:X0->Res (List D)}(g:A1J Y E0 ms p ta d)(h:AJ Y E0 ms ps t m)(e:cN (p::ps) a=true):
 PJ Y (KO Y s) E0 ms (cg (Y c) b (dq Y a (KO Y s) f) [] E0 ta t) (pm c b f d m):=qK g h (cC e) (cD e) λ_ _ _ _ _ _ _ h=>h
theorem Q8{c:Nat}{sh:List (Str×Sh)}{a:List Md}{d:List D->Out D}{ps:List Ap}{t:TA}{m:X0->Res (List D)}(h:AJ Y E0 ms ps t m)(b:cN ps a=true):
 PJ Y (KO Y (.ob sh)) E0 ms (pe (Y c) (dq Y (.O (.ob sh)::a) (KR Y .F) d) [] E0 t) (pk c d m):=
 MY h (by rw[Vx,cC b]) rfl λj p e=>by rw[WI];exact cD b j p e
theorem SB{a:List Md}{b:List D->Out D}{ps:List Ap}{t:TA}{m:X0->Res (List D)}(h:AJ Y E0 ms ps t m)(c:fitM ms ps a)(hd:(cq ps).Nodup)(d:∀i∈gT ps,i∉cq ps):
 MJ Y (KR Y .F) E0 ms (fH (dq Y a (KR Y .F) b) [] E0 t) (mc ps b m):=Os h c hd d λ_ _ _ _ _ _ _ h=>h
theorem Sz{c:Nat}{b:Str}{a:List Md}{e:List D->Out D}{p:Ap}{ps:List Ap}{ta:TE}{d:X0->Res D}{t:TA}{m:X0->Res (List D)}(j:A1J Y E0 ms p ta d)(h:AJ Y E0 ms ps t m)(f:fitM ms (p::ps) a)(hd:(cq (p::ps)).Nodup)
 (g:∀i∈gT (p::ps),i∉cq (p::ps)):MJ Y (KR Y .F) E0 ms (cg (Y c) b (dq Y a (KR Y .F) e) [] E0 ta t) (mm c b (p::ps) e d m):=Om j h f hd g λ_ _ _ _ _ _ _ h=>h
theorem QX{B U H:Hp}{N:List Addr}:KR Y .F .non .non B U H N:=show Dn Y B .non .non by rw[Dn]
end
theorem qc{Y:Cm}{G:Hp}:∀ns:List Int,Dns Y G (ns.map D.int) (ns.map V.int)
 |[]=>by rw[Wq,Wq,Dns]
 | n::r=>by
   rw[Vq,Vq,Dns];exact⟨_,_,rfl,by rw[Dn],qc r⟩
theorem Oy{Y:Cm}{b:List D->Out D}(h:∀ns:List Int,ns.length<=63->∃T,b [.scr (ns.map D.int)]=.ok (.bl true) T){vs:List V}{H:Hp}{Q:VK}{a:Addr}{ns:List Int}(c:vs=[.ref a])(f:SqF Y.K H a (ns.map V.int))(j:ns.length<=63)(d:∀p∈Y.tb,∃l,H p.1=some (.tbl l)/\p.2∈l)(g:∀H',Q (.bl true) H'):
 vJ Y [.R] (KR Y .F) b vs H Q E0:=by
 subst c;obtain⟨T,e⟩:=h ns j;refine⟨H,H,λ_=>[],[.scr (ns.map D.int)],⟨Same.refl _,Same.refl _,λ_=>Wg,λ_ _ _ _ z=>(nomatch z),λ_ _ z=>(nomatch z),λi=>?_,rfl,d⟩,rfl,?_⟩
 · rw[dJ,dJ];cases i with
   |zero=>exact⟨.ref a,rfl,by show Dn Y H (.scr _) _;rw[Dn];exact⟨a,_,rfl,f,qc ns⟩,rfl⟩
   |succ i=>exact rfl
 ·rw[e];intro v S M J H' N o n m k;have k:Dn Y S (.bl true) v:=k;rw[Dn]at k;rw[k];exact g H'
theorem LN{K:F0}{H:Hp}{a:Addr}{xs:List V}{T:Tbs}(o:Go T H)(h:SqL K H a xs):SqF K H a xs:=by
 rcases h with (h|h)|h
 · rcases o.2 a with z|⟨ob,ys,z⟩|z
   ·rw[z]at h;cases h
   ·rw[z]at h;cases h
   ·rw[z]at h;cases h
 ·exact .inl h
 ·exact .inr h
theorem Qw{H:Hp}{T:Tbs}(o:Go T H):∀p∈T,∃l,H p.1=some (.tbl l)/\p.2∈l:=λp hp=>⟨_,o.1 p hp,Tbs.mem.mpr hp⟩
def jA(m:X0->Res D):X0->Res D:=λT=>(m T).bind λd=>if aN d=true then .ok d else .bad
def wj(xs:List D)(x:D):Option (D×List D):=match toPy x,toPys xs with
 |some d,some ds=>if SeqAt.shaped d=true/\ds.all SeqAt.shaped=true then (ds.findIdx? λe=>PyData.eqv e d).map λj=>(.non,xs.eraseIdx j) else none
 |_,_=>none
def dC:List (List az)->List D->List az->List (List az)×List D
 |k::a,d::ds,j=>if k=j then dC a ds j else (k::(dC a ds j).1,d::(dC a ds j).2)
 |_,_,_=>([],[])
def y1:D->D->Option (D×D)
 |.dT a vs,.tup k=>(bq k).bind λk=>(aT a vs k).map λx=>(x,.dT (dC a vs k).1 (dC a vs k).2)
 |_,_=>none
def ur(set:X0->D->X0)(d:D)(T:X0):Res D->Out D
 |.ok k=>(match y1 d k with|some (x,d')=>.ok x (set T d')|none=>.bad)
 |.exc c=>.exc c T
 |.bad=>.bad
def lB(get:X0->Option D)(set:X0->D->X0)(mk:X0->Res D):X0->Out D:=λT=>match get T with
 |some (.dT a vs)=>ur set (.dT a vs) T (mk T)
 |_=>.bad
section
variable{Y:Cm}{E:XK}{ms:List Md}{B U H:Hp}{As:Nat->List Addr}{Z:St}{T:X0}{t:TE}{get:X0->Option D}{set:X0->D->X0}
theorem Ea{te:TE}{me:X0->Res D}(p:Pth Y ms t get set)(v:PJ Y (KR Y .X) E ms te me):MJ Y (KR Y .F) E ms (Ab Y.K "list" (yu Y.K) t (aA te bx)) (iS get set wj me):=
 En (f:=wj) p v λB U H a ds xs x u d C Q bu uh A q g b k=>by
  have g:Dn Y H x u:=g;unfold wj at b;cases e1:toPy x with
  |none=>rw[e1]at b;cases b
  |some c=>
    cases n:toPys ds with
    |none=>rw[e1,n]at b;cases b
    |some ps=>
      rw[e1,n]at b;replace b:(if SeqAt.shaped c=true/\ps.all SeqAt.shaped=true then (ps.findIdx? λe=>PyData.eqv e c).map λj=>(D.non,ds.eraseIdx j) else none)=some (d,C):=b;by_cases z:SeqAt.shaped c=true/\ps.all SeqAt.shaped=true
      · rw[Vo z]at b;obtain⟨j,G,I⟩:=VJ.mp b;cases I;obtain⟨o,hp,h⟩:=List.findIdx?_eq_some_iff_getElem.mp G;refine⟨a,xs,u,c,ps,j,rfl,rfl,A,den_of e1 g,dens_of n (Dns.mono (bu.trans uh) q),z.1,λy r=>Wh.mp z.2 y r,o,λm e l J=>?_,k .non _ (by rw[Dn]) (q.erase _)⟩;by_cases w:m=j
        ·subst w;rw[VH o]at l;cases l;rw[hp];simp
        · have:=h m (by omega)
          obtain⟨s,i⟩:=VI.mp l;rw[i]at this;rw[V6 w];simpa using this
      ·rw[on z]at b;cases b
theorem m6{G:Hp}{k:List az}:∀{kvs:List (List az×V)} {ds:List D},Dns Y G ds (kvs.map (·.2))->(dZ kvs k).map (·.1)=(dC (kvs.map (·.1)) ds k).1/\Dns Y G (dC (kvs.map (·.1)) ds k).2 ((dZ kvs k).map (·.2))
 | [],ds,h=>by
   cases ds<;>exact⟨rfl,by show Dns Y G [] [];rw[Dns]⟩
 | p::kvs,ds,h=>by
   cases ds with
   |nil=>rw[Dns]at h;cases h
   |cons d ds=>
     rw[List.map_cons,Dns]at h;obtain⟨y,r,e,f,c⟩:=h;cases e;obtain⟨b,a⟩:=m6 (k:=k) c;unfold dZ at b a ⊢;rw[List.map_cons,List.filter_cons,dC];by_cases q:p.1=k
     ·rw[on (by simp[q]),Vo q];exact⟨b,a⟩
     ·rw[Vo (by simpa using q),on q];refine⟨by rw[Vq,b],?_⟩;rw[Vq,Dns];exact⟨_,_,rfl,f,a⟩
theorem Oq{r:TE}{mk:X0->Res D}(p:Pth Y ms t get set)(O:PJ Y (KR Y .X) E ms r mk):MJ Y (KR Y .F) E ms (vR t r) (lB get set mk):=by
 intro B U As Z H T Q R P;unfold lB at P;cases e:get T with
 |none=>rw[e]at P;exact P.elim
 |some d=>
   obtain⟨v,A,M,C,hA,cl⟩:=p.rd R e;cases d with
   |dT i vs=>
     rw[e]at P;replace P:Mo Y (KR Y .F) E ms B U Z (ur set (.dT i vs) T (mk T)) Q:=P;obtain⟨a,kvs,rfl,z,h2,rfl,W⟩:=C.dT rfl;refine M _ ⟨a,rfl,.inr ⟨kvs,.inl z⟩,O B U As Z H T _ R ?_⟩;cases o:mk T with
     |exc c=>rw[o]at P;exact λI U1 H1 q g=>P I U1 As H1 q g.toEx
     |bad=>rw[o]at P;exact P.elim
     |ok l=>
       rw[o]at P;intro u I U1 H1 N q g n1 m;have m:Dn Y H1 l u:=m;replace P:Mo Y (KR Y .F) E ms B U Z (match y1 (.dT i vs) l with|some (x,d')=>.ok x (set T d')|none=>.bad) Q:=P;cases f:y1 (.dT i vs) l with
       |none=>rw[f]at P;exact P.elim
       |some xd=>
         obtain⟨x,d'⟩:=xd;rw[f]at P;cases l with
         |tup J=>
           replace f:((bq J).bind λk=>(aT i vs k).map λx=>(x,D.dT (dC i vs k).1 (dC i vs k).2))=some (x,d'):=f;obtain⟨n,ek,f⟩:=Xl.mp f;obtain⟨y,ey,f⟩:=VJ.mp f;cases f;rw[Dn]at m;obtain⟨b,xs,rfl,V,S⟩:=m;have ex:=eI ek S;subst ex;subst h2;have j:Dns Y I vs (kvs.map (·.2)):=W.mono g.b;have s:=fQ (Y:=Y) (G:=I) n j;rw[ey]at s;obtain⟨w,ew,dw⟩:=s;obtain⟨L,K⟩:=m6 (Y:=Y) (G:=I) (k:=n) j;refine⟨kvs,n,b,w,g.h _ _ z,rfl,V,ew,?_⟩;refine P w I U1 As _ [] (cl I U1 H1 q g.b g.h a Vt _ _ ?_) g.toEx NewM.nil dw;rw[<-L];exact Ow.dT' ao K
         |_=>cases f
   |_=>rw[e]at P;exact P.elim
end
section
variable{Y:Cm}{E:XK}{ms:List Md}
theorem IZ{ta:TE}{a:X0->Res D}(d:PJ Y (KR Y .F) E ms ta a):PJ Y (KI Y .F .U) E ms (iY Y.K ta) (i9 a):=by
 intro B U As Z H T Q R P;refine yV d B U As Z H T Q R ?_;cases e:i9 a T with
 |ok ds=>
   rw[e]at P;intro J I U1 H1 N b g n ⟨vs,f,hd⟩;exact P J I U1 H1 N b g n ⟨vs,λh s=>f h (b.bu.trans s),hd⟩
 |exc c=>rw[e]at P;exact P
 |bad=>rw[e]at P;exact P
end
theorem U8{k:Nat}{A:Around}(r:Room k A):A.units+66<cLine:=by have:=r.un;omega
end Mi
namespace L2
open PySem PySem.Spec PyProof.Rows
section
variable{X:Cx}(K:F0)
theorem ER(h:X.K=K):Qp X (Hl K):=by subst h;exact IY
theorem IX(h:X.K=K):Qp X (CA K):=by subst h;exact OE
theorem o6(h:X.K=K):dD X (.builtin "len") (λxs H Q=>∃p ys,xs=[.ref p]/\(SqL K H p ys\/SqT K H p ys)/\Q (.int ys.length) H):=by subst h;exact sK
theorem o5(h:X.K=K):dD X (.type "list") (λxs H Q=>∃p ys,xs=[.ref p]/\(SqL K H p ys\/SqT K H p ys)/\∀l,H l=none->Q (.ref l) (upd H l (.lst ys))):=by subst h;exact sJ
theorem oA(h:X.K=K):dD X (.type "tuple") (λxs H Q=>∃p ys,xs=[.ref p]/\((SqL K H p ys/\∀l,H l=none->Q (.ref l) (upd H l (.tup ys)))\/(SqT K H p ys/\Q (.ref p) H))):=by subst h;exact o4
theorem xr(h:X.K=K)(a:X.calm=true):dD X (.type "set") (λxs H Q=>∃p ns,xs=[.ref p]/\SqL K H p (ns.map V.int)/\ns.length<4000/\∀q,H q=none->Q (.ref q) (upd H q (.set (λk=>(dd ns).any (·==k)) (dd ns).length))):=by subst h;exact Bf a
theorem xw(h:X.K=K)(b:X.calm=true):fE X (.builtin "min") ["default"] (λxs a H Q=>∃p ns d,xs=[.ref p]/\a=[d]/\SqL K H p (ns.map V.int)/\(ns=[]->Q d H)/\∀m∈ns,(∀x∈ns,m<=x)->Q (.int m) H):=by subst h;exact Bl b
theorem xx(h:X.K=K)(b:X.calm=true):fE X (.builtin "max") ["default"] (λxs a H Q=>∃p ns d,xs=[.ref p]/\a=[d]/\SqL K H p (ns.map V.int)/\(ns=[]->Q d H)/\∀m∈ns,(∀x∈ns,x<=m)->Q (.int m) H):=by subst h;exact Bm b
theorem Ij(h:X.K=K)(a:X.A.units+64<cLine):jv X (compareOp .Eq) (CB K false):=by subst h;exact Ng a
theorem Ig(h:X.K=K)(a:X.A.units+64<cLine):jv X (compareOp .NotEq) (CB K true):=by subst h;exact Na a
theorem Ih(h:X.K=K)(a:X.A.units+65<cLine):jv X (compareOp .In) (λx y H Q=>∃d xs,Den K H d x/\Den K H (.list xs) y/\SeqAt.shaped d=true/\SeqAt.shaped (.list xs)=true/\(∀z∈xs,SeqAt.noMix z d=true)/\Q (.bl (decide (countIn d xs≠0))) H):=by subst h;exact Nf a
theorem wv(h:X.K=K)(a:X.A.units+65<cLine):jv X (compareOp .NotIn) (Mi.Cz K):=by subst h;exact Mi.Az a
theorem HN{e:Expr}{ta:TE}{f:Str}{pos:Pos}(h:X.K=K)(a:PE X e ta)(b:attributeBase e f X.env (eval e X.env)=eval e X.env):PE X (.Attribute e f pos) (l6 K ta f):=by subst h;exact MH a b
theorem CL{b l:Expr}{a:TE}(h:X.K=K)(c:PE X l a):PI X b l (iY K a):=by subst h;exact HH c
end
end L2
namespace Mi
open PySem L2
def spT(K:F0)(T:Tbs):Sp:=λvs H Q _=>∃(a:Addr) (ns:List Int),vs=[.ref a]/\SqF K H a (ns.map V.int)/\ns.length<=63/\(∀p∈T,∃l,H p.1=some (.tbl l)/\p.2∈l)/\∀H',Q (.bl true) H'
def gJ:List D->Option (List Bool)
 |[]=>some []
 |.bl b::r=>(gJ r).map (b::·)
 |_::_=>none
def o7:D->Res D
 |.lst ds=>(match gJ ds with|some bs=>.ok (.bl (bs.any id))|none=>.bad)
 |_=>.bad
def fT:List D->Option (List (Int×Int×List Int))
 |[]=>some []
 |d::r=>match ub d,fT r with|some k,some a=>some (k::a)|_,_=>none
def t3(x d:D):Res D:=match x with
 |.lst []=>if aN d=true then .ok d else .bad
 | .lst (e::r)=>(match fT (e::r) with
   |some a=>(match (e::r)[PySem.argBest (λi j=>dU (a.getD i (0,0,[])) (a.getD j (0,0,[]))) r.length]? with|some y=>.ok y|none=>.bad)
   |none=>.bad)
 |_=>.bad
section
variable{Y:Cm}{E:XK}{ms:List Md}{K:F0}
theorem lM{G:Hp}:∀{ds:List D} {bs:List Bool} {xs:List V},gJ ds=some bs->Dns Y G ds xs->xs=bs.map V.bl
 |[],ns,xs,e,h=>by rw[Dns]at h;cases e;rw[h];rfl
 | d::ds,ns,xs,e,h=>by
   rw[Dns]at h;obtain⟨x,r,rfl,a,b⟩:=h;cases d with
   |bl i=>
     rw[gJ]at e;obtain⟨ms,e1,rfl⟩:=VJ.mp e;rw[Dn]at a;rw[lM e1 b,a,Vq]
   |_=>cases e
theorem QU:S1 Y (λv H Q=>∃p,∃bs:List Bool,[v]=[.ref p]/\SqL K H p (bs.map V.bl)/\Q (.bl (bs.any id)) H) o7:=by
 intro H x v c;cases x with
 |lst ds=>
   rw[Dn]at c;obtain⟨a,xs,rfl,f,d⟩:=c;cases e:gJ ds with
   |none=>
     have b:o7 (.lst ds)=.bad:=by simp only[o7,e]
     rw[b];trivial
   |some bs=>
     have b:o7 (.lst ds)=.ok (.bl (bs.any id)):=by simp only[o7,e]
     rw[b];have ex:=lM e d;subst ex;exact⟨.bl _,λ_=>by rw[Dn],λQ q=>⟨a,bs,rfl,SqL.of f,q⟩⟩
 |_=>trivial
theorem pP:∀{ds:List D} {a:List (Int×Int×List Int)},fT ds=some a->ds.length=a.length
 |[],a,e=>by cases e;rfl
 | d::r,a,e=>by
   unfold fT at e;cases e1:ub d with
   |none=>rw[e1]at e;cases e
   |some k=>
     cases b:fT r with
     |none=>rw[e1,b]at e;cases e
     |some l=>rw[e1,b]at e;cases e;rw[Vx,Vx,pP b]
theorem t9:∀{ds:List D} {a:List (Int×Int×List Int)} {i:Nat} {d:D},fT ds=some a->ds[i]?=some d->ub d=some (a.getD i (0,0,[]))
 |[],a,i,d,e,h=>by cases h
 | x::r,a,i,d,e,h=>by
   unfold fT at e;cases e1:ub x with
   |none=>rw[e1]at e;cases e
   |some k=>
     cases b:fT r with
     |none=>rw[e1,b]at e;cases e
     |some l=>
       rw[e1,b]at e;cases e;cases i with
       |zero=>cases h;exact e1
       |succ i=>rw[WI];exact t9 b (by simpa using h)
theorem MT{ta G:TE}{M L:X0->Res D}(ha:PJ Y (KC Y .F) E ms ta M)(hd:PJ Y (KR Y .X) E ms G L):
 PJ Y (KR Y .F) E ms (Aa (λxs O H Q=>∃p vs d,∃f:List (Int×Int×List Int),xs=[.ref p]/\O=[d]/\SqL K H p vs/\vs.length=f.length/\(∀i v,vs[i]?=some v->P7 K H v (f.getD i (0,0,[])))/\
  (vs=[]->Q d H)/\∀v,vs[PySem.argBest (λi j=>dU (f.getD i (0,0,[])) (f.getD j (0,0,[]))) (vs.length-1)]?=some v->Q v H) (aA ta bx) (aA G bx)) (bn t3 M L):=by
 intro B U As Z H T Q R P;refine ha.bnd R P λx v I U1 H1 W _ R1 e1 n1 J P1=>hd.bnd R1 P1 λy u s o q N2 _ R2 N n2 d2 c=>?_;have J:Cn Y I H1 x v:=J;cases x with
 |lst ds=>
   have J:∃a xs,v=.ref a/\H1 a=some (.lst xs)/\Dns Y I ds xs:=J;obtain⟨a,xs,rfl,h1,C⟩:=J;have n:=N.h _ _ h1;have m:=C.mono N.b;cases ds with
   |nil=>
     rw[Dns]at C;subst C;replace c:Po Y (KR Y .F) E ms s o As Z q T (if aN y=true then .ok y else .bad) Q:=c;by_cases z:aN y=true
     ·rw[Vo z]at c;exact⟨a,[],u,[],rfl,rfl,SqL.of n,rfl,λi v e=>(nomatch e),λ_=>c u s o q [] R2 (Gw.refl _ _ _) New.nil (dI z d2),λv e=>by cases e⟩
     ·rw[on z]at c;exact c.elim
   |cons e r=>
     replace c:Po Y (KR Y .F) E ms s o As Z q T (match fT (e::r) with
      |some f=>(match (e::r)[PySem.argBest (λi j=>dU (f.getD i (0,0,[])) (f.getD j (0,0,[]))) r.length]? with|some y=>.ok y|none=>.bad)
      |none=>.bad) Q:=c
     cases w:fT (e::r) with
     |none=>rw[w]at c;exact c.elim
     |some f=>
       rw[w]at c;replace c:Po Y (KR Y .F) E ms s o As Z q T (match (e::r)[PySem.argBest (λi j=>dU (f.getD i (0,0,[])) (f.getD j (0,0,[]))) r.length]? with|some y=>.ok y|none=>.bad) Q:=c;have A:=m.len;refine⟨a,xs,u,f,rfl,rfl,SqL.of n,by rw[<-A,pP w],λi v t=>?_,λz=>?_,λv t=>?_⟩
       ·obtain⟨d,k,g⟩:=m.geti t;obtain⟨p,l,rfl,V,S⟩:=eJ (K:=K) (t9 w k) (Dn.mono R2.bh g);exact⟨p,l,rfl,V,S⟩
       ·subst z;cases A
       ·rw[<-A,Vx,Nat.add_sub_cancel]at t;obtain⟨d,k,g⟩:=m.geti t;rw[k]at c;exact c v s o q [] R2 (Gw.refl _ _ _) New.nil g
 |_=>exact c.elim
end
section
variable{Y:Cm}{E:XK}{ms:List Md}
theorem fF(i:Nat)(a:ms.getD i .F= .F:=by rfl):PJ Y (KR Y .F) E ms (bI i) (vr i):=xF a
theorem fR(i:Nat)(a:ms.getD i .F= .R:=by rfl):PJ Y (KR Y .U) E ms (bI i) (vr i):=xR a
theorem fO(i:Nat){sh:Sh}(a:ms.getD i .F= .O sh:=by rfl):PJ Y (KR Y .X) E ms (bI i) (vr i):=xO a
theorem fC(i:Nat)(a:ms.getD i .F= .O (.ct .fz):=by rfl):PJ Y (KC Y .F) E ms (bI i) (vr i):=xC a
end
theorem SM{k:Nat}{A:Around}(r:Room k A):A.units+101<cLine:=by have:=r.un;omega
end Mi
namespace L2
open PySem PySem.Spec PyProof.Rows
section
variable{X:Cx}(K:F0)
theorem Bj(h:X.K=K)(a:X.calm=true):dD X (.builtin "any") (λxs H Q=>∃p,∃bs:List Bool,xs=[.ref p]/\SqL K H p (bs.map V.bl)/\Q (.bl (bs.any id)) H):=by subst h;exact Bk a
theorem vt(h:X.K=K)(e:X.calm=true)(c:X.A.units+101<cLine):fE X (.builtin "min") ["default"] (λxs b H Q=>∃p vs d,∃a:List (Int×Int×List Int),xs=[.ref p]/\b=[d]/\SqL K H p vs/\vs.length=a.length/\(∀i v,vs[i]?=some v->P7 K H v (a.getD i (0,0,[])))/\
 (vs=[]->Q d H)/\∀v,vs[PySem.argBest (λi j=>dU (a.getD i (0,0,[])) (a.getD j (0,0,[]))) (vs.length-1)]?=some v->Q v H):=by subst h;exact xu e c
end
end L2
namespace Gd
open PySem L2
theorem PB:bootBuiltins "any" = some (.builtin "any"):=by decide +kernel
end Gd
namespace Mi
open PySem L2
def we:D->D->Res D
 |.lst xs,.int k=>if (0<=k/\k<=1000000)/\xs.length*k.toNat<=ac then .ok (.lst (List.replicate k.toNat xs).flatten) else .bad
 |_,_=>.bad
section
variable{Y:Cm}{E:XK}{ms:List Md}
theorem Dns.rep{B:Hp}{ds:List D}{xs:List V}(h:Dns Y B ds xs):∀k:Nat,Dns Y B (List.replicate k ds).flatten (List.replicate k xs).flatten
 |0=>by rw[List.replicate_zero,List.replicate_zero,List.flatten_nil,List.flatten_nil,Dns]
 |k+1=>by rw[V8,V8,Wp,Wp];exact Dns.append h (Dns.rep h k)
theorem Rk{ta tb:TE}{f e:X0->Res D}(m:PJ Y (KC Y .F) E ms ta f)(l:PJ Y (KR Y .X) E ms tb e):PJ Y (KO Y (.ct .fz)) E ms (sQ Q0 ta tb) (bn we f e):=by
 intro B U As Z H T Q R P;refine m.bnd R P λx v I U1 H1 W _ q e1 w J r=>l.bnd q r λy u s o j A _ R2 i t d c=>?_;have J:Cn Y I H1 x v:=J;have d:Dn Y j y u:=d;cases x with
 |lst ds=>
   have J:∃a xs,v=.ref a/\H1 a=some (.lst xs)/\Dns Y I ds xs:=J;obtain⟨a,xs,rfl,n,g⟩:=J;cases y with
   |int k=>
     rw[Dn]at d;subst d;replace c:Po Y (KO Y (.ct .fz)) E ms s o As Z j T (if (0<=k/\k<=1000000)/\ds.length*k.toNat<=ac then .ok (.lst (List.replicate k.toNat ds).flatten) else .bad) Q:=c;by_cases z:(0<=k/\k<=1000000)/\ds.length*k.toNat<=ac
     ·rw[Vo z]at c;refine⟨a,k,xs,rfl,rfl,i.h _ _ n,by omega,by omega,?_,λp hp=>dR R2 c ((g.mono i.b).rep _) hp⟩;rw[<-g.len];exact VT z.2 (by decide)
     ·rw[on z]at c;exact c.elim
   |_=>exact c.elim
 |_=>exact c.elim
end
end Mi
namespace L2
open PySem
theorem SE{P:List Value->Prop}(h:P []):∀us:List Value,us.length=0->P us:=by
 intro us a;rw[VZ.mp a];exact h
theorem Ev{P:List Value->Prop}(h:∀c:Value,P [c]):∀us:List Value,us.length=1->P us:=by
 intro us b;cases us with
 |nil=>cases b
 |cons a us=>exact SE (P:=λus=>P (a::us)) (h a) us (XF b)
theorem Eu{P:List Value->Prop}(h:∀d c:Value,P [d,c]):∀us:List Value,us.length=2->P us:=by
 intro us b;cases us with
 |nil=>cases b
 |cons a us=>exact Ev (P:=λus=>P (a::us)) (h a) us (XF b)
theorem Et{P:List Value->Prop}(h:∀e d c:Value,P [e,d,c]):∀us:List Value,us.length=3->P us:=by
 intro us b;cases us with
 |nil=>cases b
 |cons a us=>exact Eu (P:=λus=>P (a::us)) (h a) us (XF b)
theorem Es{P:List Value->Prop}(h:∀f e d c:Value,P [f,e,d,c]):∀us:List Value,us.length=4->P us:=by
 intro us b;cases us with
 |nil=>cases b
 |cons a us=>exact Et (P:=λus=>P (a::us)) (h a) us (XF b)
theorem K8{P:List Value->Prop}(h:∀g f e d c:Value,P [g,f,e,d,c]):∀us:List Value,us.length=5->P us:=by
 intro us b;cases us with
 |nil=>cases b
 |cons a us=>exact Es (P:=λus=>P (a::us)) (h a) us (XF b)
end L2
namespace L2
open PySem PySem.Spec PyProof.Rows
def CX1(P:Program)(w:World):Bx:=λouter H s E e a=>∃(c C:Addr) (f:Value) (B:Heap) (H':Hp),e=.ref c/\a.os=s.os/\AllBare a.gens/\Un (wM outer) (wM outer) H H' s.heap B/\HOk P w H' B/\
 Heap.FlyingW B outer c (.ref C) f a.heap/\(∀b∈wM outer,∀o,s.heap.get? b=some o->∃d,a.heap.get? b=some {o with slots:=d})/\(∀b∈wM outer,H' b=none)/\E (.ref C) none H'
structure Own (X:Cx) (E:XK):Prop where
 xe:X.xe=λe s'=>wpAny (model X.prog X.w) X.A («leaving» X.env e) (λ_ s''=>CX1 X.prog X.w X.outer X.H₀ X.s₀ E e s'') (λe' s''=>CX1 X.prog X.w X.outer X.H₀ X.s₀ E e' s'')  s'
 ex:X.ex=[]
 stk:X.stack=X.env::X.outer
 fr:X.env.frame=some X.env.locals
def Sy(K:F0)(C:Addr):List Value:=match K.lookup C with
 |some ⟨_,_,.cls a,_⟩=>a.mro
 |_=>[]
abbrev vBm:List Value:=[.type "ValueError",.type "Exception",.type "BaseException",.type "object"]
def SU(K:F0)(C:Addr):Bool:=PySem.W.excIn K C vBm "ValueError.__new__"
end L2
namespace PySem.W
open PySem PySem.Spec PySem.Calls PyProof.Rows
open Builtin Builtin.ObjectAttr Builtin.Getset_descriptor in
open Builtin Builtin.ObjectAttr Builtin.Getset_descriptor in
def Lf(K:Frag)(D:Addr):Bool:=findIn K (.ref D) "__getattribute__" == some (some (.builtin "BaseException.__getattribute__"))&&(findIn K (.ref D) "__getattr__" == some none&&(findIn K (.ref D) "__class__" == some (some (.builtin "object.__class__")) &&
 (specialIn K (.builtin "object.__class__") "__get__" == some (some (.builtin "getset_descriptor.__get__"))&&(takesIn K (.builtin "object.__class__")==some true&&(mroIn K D (.type "object")==some true&&(mroIn K D (.type "BaseException")==some true&&(clsIn K D).isSome))))))
end PySem.W
namespace Mi
open PySem L2
def ie(T:X0):Option Nat->Bool
 |none=>true
 | some j=>match T[j]? with
   |some none=>true
   |_=>false
theorem kA{T:X0}{j:Nat}(h:ie T (some j)=true):j<T.length/\rg T j=none:=by
 unfold ie at h;dsimp only at h;cases e:T[j]? with
 |none=>rw[e]at h;cases h
 |some x=>
   cases x with
   |none=>exact⟨(List.getElem?_eq_some_iff.mp e).1,by unfold rg;rw[e];rfl⟩
   |some y=>rw[e]at h;cases h
section
variable{Y:Cm}{Kr:KT D V}{E:XK}{pr:Nat->Bool}{ms:List Md}{K:F0}
theorem Rel.slot{B U H:Hp}{As:Nat->List Addr}{Z:St}{T:X0}{j:Nat}{x:Option V}(R:Rel Y ms B U As Z H T)(h:rg T j=none):Rel Y ms B U As (Z.set j x) H T:=by
 refine⟨R.bu,R.uh,R.nd,R.dj,R.un,λi=>?_,by rw[VS];exact R.len,R.tb⟩;have l:=R.lo i;by_cases z:i=j
 ·subst z;rw[h]at l ⊢;exact l
 · have:rg (Z.set j x) i=rg Z i:=by unfold rg;rw[List.getElem?_set_ne (Ne.symm z)]
   rw[this];exact l
theorem Kp.slot{Z a:St}{j:Nat}{x:Option V}(k:Kp pr Z a)(hp:pr j=false):Kp pr Z (a.set j x):=λi hi=>by
 have:i≠j:=λz=>by rw[z,hp]at hi;cases hi
 have e:rg (a.set j x) i=rg a i:=by unfold rg;rw[List.getElem?_set_ne (Ne.symm this)]
 rw[e];exact k i hi
end
abbrev DI(X:Type):=List (List Int×X)
section
variable{X:Type}
def aS(f:X->D)(F:DI X):D:=.dT (F.map λp=>p.1.map Sum.inl) (F.map λp=>f p.2)
def DI.get(F:DI X)(k:List Int):Option X:=(F.find? λp=>decide (p.1=k)).map (·.2)
def DI.put(F:DI X)(k:List Int)(v:X):DI X:=if (F.get k).isSome=true then F.map λp=>if p.1=k then (p.1,v) else p else F++[(k,v)]
def DI.del(F:DI X)(k:List Int):DI X:=F.filter λp=>decide (p.1≠k)
theorem fk{j k:List Int}:j.map (Sum.inl:Int->az)=k.map Sum.inl↔j=k:=by
 constructor
 · intro h
   induction j generalizing k with
   |nil=>cases k with|nil=>rfl|cons _ _=>cases h
   |cons x j b=>
     cases k with
     |nil=>cases h
     |cons y k=>
       rw[Vq,Vq]at h;injection h with a c
       injection a with a
       rw[a,b c]
 ·intro h;rw[h]
theorem fi:∀k:List Int,bq (k.map D.int)=some (k.map Sum.inl)
 |[]=>rfl
 |x::k=>by rw[Vq,bq,fi k];rfl
theorem jF{f:X->D}{k:List Int}:∀F:DI X,aT (F.map λp=>p.1.map (Sum.inl:Int->az)) (F.map λp=>f p.2) (k.map Sum.inl)=(DI.get F k).map f
 |[]=>rfl
 | p::F=>by
   rw[List.map_cons,List.map_cons,aT,jF F];unfold DI.get;rw[List.find?_cons];by_cases h:p.1=k
   ·rw[Vo (fk.mpr h),Wu h];rfl
   ·rw[on (λz=>h (fk.mp z)),V6 h]
theorem fU{f:X->D}{F:DI X}{k:List Int}:i0 (aS f F) (.tup (k.map D.int))=some ((F.get k).map f):=by
 show(bq (k.map D.int)).map (λk=>aT (F.map λp=>p.1.map (Sum.inl:Int->az)) (F.map λp=>f p.2) k)=_;rw[fi,W5,jF]
theorem yW{k:List Int}:∀F:DI X,bX (F.map λp=>p.1.map (Sum.inl:Int->az)) (k.map Sum.inl)=(DI.get F k).isSome
 |[]=>rfl
 | p::F=>by
   have a:=yW (k:=k) F;unfold bX DI.get at *;rw[List.map_cons,List.any_cons,List.find?_cons,a];by_cases h:p.1=k
   ·rw[Wu (fk.mpr h),Wu h];rfl
   ·rw[V6 (λz=>h (fk.mp z)),V6 h];rfl
theorem tL{f:X->D}{k:List Int}{v:X}:∀F:DI X,g9 (F.map λp=>p.1.map (Sum.inl:Int->az)) (F.map λp=>f p.2) (k.map Sum.inl) (f v)=(F.map λp=>if p.1=k then (p.1,v) else p).map λp=>f p.2
 |[]=>rfl
 | p::F=>by
   rw[Vq,Vq,g9,tL F,Vq,Vq];by_cases h:p.1=k
   ·rw[Vo (fk.mpr h),Vo h]
   ·rw[on (λz=>h (fk.mp z)),on h]
theorem Ff{f:X->D}{F:DI X}{k:List Int}{v:X}(h:F.length<ac):qa (aS f F) (.tup (k.map D.int)) (f v)=some (aS f (F.put k v)):=by
 show((bq (k.map D.int)).bind λk=>if (F.map λp=>p.1.map (Sum.inl:Int->az)).length<ac then some (if bX (F.map λp=>p.1.map (Sum.inl:Int->az)) k=true then D.dT (F.map λp=>p.1.map (Sum.inl:Int->az)) (g9 (F.map λp=>p.1.map (Sum.inl:Int->az)) (F.map λp=>f p.2) k (f v)) else D.dT ((F.map λp=>p.1.map (Sum.inl:Int->az))++[k]) ((F.map λp=>f p.2)++[f v])) else none)=some (D.dT ((F.put k v).map λp=>p.1.map Sum.inl) ((F.put k v).map λp=>f p.2));rw[fi,Option.bind_some,if_pos (by rw[List.length_map];exact h),yW];unfold DI.put;by_cases q:(DI.get F k).isSome=true
 ·rw[Vo q,Vo q,tL,Wl,Wl];refine congrArg (λz=>some (D.dT z _)) ?_;refine WJ λp _=>?_;show _=((if p.1=k then (p.1,v) else p).1).map Sum.inl;split<;>rfl
 ·rw[on q,on q,V7,V7];rfl
theorem mZ{f:X->D}{k:List Int}:∀F:DI X,dC (F.map λp=>p.1.map (Sum.inl:Int->az)) (F.map λp=>f p.2) (k.map Sum.inl)=((F.del k).map (λp=>p.1.map Sum.inl),(F.del k).map λp=>f p.2)
 |[]=>rfl
 | p::F=>by
   rw[List.map_cons,List.map_cons,dC,mZ F];unfold DI.del;rw[List.filter_cons];by_cases h:p.1=k
   ·rw[Vo (fk.mpr h),on (by simpa using h)]
   ·rw[on (λz=>h (fk.mp z)),Vo (by simpa using h)];rfl
theorem Fg{f:X->D}{F:DI X}{k:List Int}{v:X}(h:F.get k=some v):y1 (aS f F) (.tup (k.map D.int))=some (f v,aS f (F.del k)):=by
 show((bq (k.map D.int)).bind λk=>(aT (F.map λp=>p.1.map (Sum.inl:Int->az)) (F.map λp=>f p.2) k).map λx=>(x,D.dT (dC (F.map λp=>p.1.map (Sum.inl:Int->az)) (F.map λp=>f p.2) k).1 (dC (F.map λp=>p.1.map (Sum.inl:Int->az)) (F.map λp=>f p.2) k).2))=some (f v,D.dT ((F.del k).map λp=>p.1.map Sum.inl) ((F.del k).map λp=>f p.2));rw[fi,Option.bind_some,jF,h,W5,W5,mZ]
theorem cB{F:DI X}{k j:List Int}{v:X}:(F.put k v).get j=if j=k then some v else F.get j:=by
 unfold DI.put;by_cases q:(DI.get F k).isSome=true
 · rw[Vo q]
   have e:∀G:DI X,DI.get (G.map λp=>if p.1=k then (p.1,v) else p) j=if j=k then (DI.get G k).map λ_=>v else DI.get G j:=by
    intro G
    induction G with
    |nil=>unfold DI.get;split<;>rfl
    |cons p G f=>
      unfold DI.get at f ⊢;rw[List.map_cons,List.find?_cons,List.find?_cons,List.find?_cons];by_cases b:p.1=k
      · rw[Vo b];by_cases a:j=k
        ·subst a;simp only[b,decide_true,Vo,W5]
        ·have c:¬ p.1=j:=λz=>a (z.symm.trans b);simp only[c,Yp];rw[f,on a,on a]
      · rw[on b];by_cases c:p.1=j
        ·have a:¬ j=k:=λz=>b (c.trans z);simp only[c,decide_true,on a]
        ·simp only[c,b,Yp];exact f
   rw[e];by_cases h:j=k
   ·rw[Vo h,Vo h];obtain⟨x,i⟩:=WB.mp q;rw[i];rfl
   ·rw[on h,on h]
 · rw[on q]
   have d:DI.get F k=none:=by
    cases z:DI.get F k with
    |none=>rfl
    |some x=>rw[z]at q;exact absurd rfl q
   unfold DI.get at d ⊢;rw[List.find?_append];by_cases h:j=k
   · subst h
     have g:F.find? (λp=>decide (p.1=j))=none:=by
      cases z:F.find? (λp=>decide (p.1=j)) with
      |none=>rfl
      |some x=>rw[z]at d;cases d
     rw[g,Vo rfl];simp
   · rw[on h]
     have:¬ k=j:=λz=>h z.symm
     simp[this]
theorem rk{F:DI X}{k j:List Int}:(F.del k).get j=if j=k then none else F.get j:=by
 unfold DI.del DI.get
 induction F with
 |nil=>split<;>rfl
 |cons p F c=>
   rw[Ws];by_cases b:p.1=k
   · rw[on (by simpa using b),c,Wv];by_cases h:j=k
     ·rw[Vo h,Vo h]
     ·have a:¬ p.1=j:=λz=>h (z.symm.trans b);rw[on h,on h];simp only[a,Yp]
   · rw[Vo (by simpa using b),Wv,Wv];by_cases a:p.1=j
     ·have d:¬ j=k:=λz=>b (a.trans z);simp only[a,decide_true,on d]
     ·simp only[a,Yp];exact c
end
open PySem.Spec (countIn same sameAll)
theorem kg{W:Type}{f:W->D}{g:W->PyData}(h:∀a,toPy (f a)=some (g a)):∀l:List W,toPys (l.map f)=some (l.map g)
 |[]=>rfl
 |a::l=>by rw[Vq,toPys,h a,kg h l];rfl
theorem kh{W:Type}{f:W->D}{g:W->PyData}(h:∀a,toPy (f a)=some (g a))(l:List W):toPy (.lst (l.map f))=some (.list (l.map g)):=by
 rw[toPy,kg h];rfl
theorem v6{W:Type}{g:W->PyData}(h:∀a,(g a).canLay0=true)(f:∀a,(g a).depth<=60)(l:List W):SeqAt.shaped (.list (l.map g))=true:=by
 have c:∀l:List W,PyData.canLayAll0 (l.map g)=true:=by
  intro l
  induction l with
  |nil=>simp[PyData.canLayAll0]
  |cons a l b=>simp[PyData.canLayAll0,h a,b]
 have d:∀l:List W,PyData.depthAll (l.map g)<=60:=by
  intro l
  induction l with
  |nil=>simp[PyData.depthAll]
  |cons a l b=>
    rw[Vq,PyData.depthAll]
    have:=f a
    omega
 have e:PyData.depth (.list (l.map g))<=64:=by rw[PyData.depth];have:=d l;omega
 unfold SeqAt.shaped;rw[Bool.and_eq_true];exact⟨by rw[PyData.canLay0];exact c l,decide_eq_true e⟩
theorem lI{W:Type}[DecidableEq W]{g:W->PyData}(h:∀a b,same (g a) (g b)=decide (a=b))(a:W):∀l:List W,(0<=countIn (g a) (l.map g))/\(countIn (g a) (l.map g)≠0↔a∈l)
 |[]=>by simp[countIn]
 | b::l=>by
   obtain⟨d,c⟩:=lI h a l;rw[Vq,countIn,h b a,VA];by_cases e:b=a
   ·rw[Vo (by simpa using e)];exact⟨by omega,λ_=>.inl e.symm,λ_=>by omega⟩
   · rw[on (by simpa using e)];refine⟨by omega,λz=>.inr (c.mp (by omega)),λz=>?_⟩;rcases z with z|z
     ·exact absurd z.symm e
     ·have:=c.mpr z;omega
section
variable{W:Type}[DecidableEq W]{f:W->D}{g:W->PyData}
theorem yU(h0:∀a,toPy (f a)=some (g a))(j:∀a,(g a).canLay0=true)(i:∀a,(g a).depth<=60)(m:∀a b,same (g a) (g b)=decide (a=b))(k:∀a b,SeqAt.noMix (g a) (g b)=true)(a:W)(l:List W):
 GJ (f a) (.lst (l.map f))=.ok (.bl (decide (a∈l)))/\wz (f a) (.lst (l.map f))=.ok (.bl (!decide (a∈l))):=by
 have h:SeqAt.shaped (g a)=true:=by
  unfold SeqAt.shaped;rw[j a,Bool.true_and];exact decide_eq_true (by have:=i a;omega)
 have e:=v6 j i l
 have d:((l.map g).all λz=>SeqAt.noMix z (g a))=true:=by
  rw[Yq,Wh];exact λb _=>k b a
 have c:decide (countIn (g a) (l.map g)≠0)=decide (a∈l):=by
  have:=(lI m a l).2
  by_cases z:a∈l
  ·rw[Wu z,Wu (this.mpr z)]
  ·rw[V6 z,V6 (λw=>z (this.mp w))]
 constructor
 ·unfold GJ;rw[h0 a,kh h0 l];show(if _ then _ else _)=_;rw[if_pos ⟨h,e,d⟩,c]
 ·unfold wz;rw[h0 a,kh h0 l];show(if _ then _ else _)=_;rw[if_pos ⟨h,e,d⟩,c]
end
end Mi
namespace Cl
open PySem L2 Mi
inductive OutC (Z W:Type) where
 |ok (a:W) (s:Z)|exc (c:Nat) (s:Z)|bad
inductive FlC (Z X:Type) where
 |nx (s:Z)|rt (b:X) (s:Z)|bk (s:Z)|ct (s:Z)|exc (c:Nat) (s:Z)|bad
def SimR{W M:Type}(e:W->M)(r:Res M)(q:Res W):Prop:=match q with
 |.ok a=>r=.ok (e a)
 |.exc x=>r=.exc x
 |.bad=>True
section
variable{Z W X M L:Type}{rep:Z->X0}
def SimO(rep:Z->X0)(e:W->M)(r:Out M)(q:OutC Z W):Prop:=match q with
 |.ok a s=>r=.ok (e a) (rep s)
 |.exc x s=>r=.exc x (rep s)
 |.bad=>True
def SimS(rep:Z->X0)(e:X->D)(r:SO)(q:FlC Z X):Prop:=match q with
 |.nx s=>r=.nx (rep s)
 |.rt b s=>r=.rt (e b) (rep s)
 |.bk s=>r=.bk (rep s)
 |.ct s=>r=.ct (rep s)
 |.exc x s=>r=.exc x (rep s)
 |.bad=>True
def EJ(rep:Z->X0)(e:W->M)(m:X0->Res M)(c:Z->Res W):Prop:=∀s,SimR e (m (rep s)) (c s)
def NJ(rep:Z->X0)(e:W->M)(m:X0->Out M)(c:Z->OutC Z W):Prop:=∀s,SimO rep e (m (rep s)) (c s)
def TJ(rep:Z->X0)(e:X->D)(m:X0->SO)(c:Z->FlC Z X):Prop:=∀s,SimS rep e (m (rep s)) (c s)
theorem SimR.bnd{e:W->M}{b:X->L}{r:Res M}{q:Res W}{k:M->Res L}{l:W->Res X}(h:SimR e r q)(c:∀a,SimR b (k (e a)) (l a)):SimR b (r.bind k) (q.bind l):=by
 cases q with
 |ok a=>rw[show r=_ from h];exact c a
 |exc x=>rw[show r=_ from h];exact rfl
 |bad=>trivial
@[elab_as_elim] theorem SimR.el{e:W->M}{r:Res M}{q:Res W}{P:Res M->Res W->Prop}(h:SimR e r q)(ok:∀a,P (.ok (e a)) (.ok a))(exc:∀x,P (.exc x) (.exc x))(bad:∀r,P r .bad):P r q:=by
 cases q with
 |ok a=>rw[show r=_ from h];exact ok a
 |exc x=>rw[show r=_ from h];exact exc x
 |bad=>exact bad r
theorem SimR.calm{e:W->M}{r:Res M}{q:Res W}(h:SimR e r q):SimR e r.calm q.calm:=by
 cases q with
 |ok a=>rw[show r=_ from h];exact rfl
 |exc x=>trivial
 |bad=>trivial
@[simp] def vC(g:Z->Option W):Z->Res W:=λs=>match g s with|some a=>.ok a|none=>.bad
@[simp] def pC(g:Z->W):Z->Res W:=λs=>.ok (g s)
@[simp] def kC(a:W):Z->Res W:=λ_=>.ok a
@[simp] def aR(f:W->Res X)(c:Z->Res W):Z->Res X:=λs=>(c s).bind f
@[simp] def aD(f:W->X->Res M)(a:Z->Res W)(b:Z->Res X):Z->Res M:=λs=>(a s).bind λx=>(b s).bind λy=>f x y
theorem OO{e:W->D}{i:Nat}{g:Z->Option W}(h:∀s,rg (rep s) i=(g s).map e):EJ rep e (vr i) (vC g):=λs=>by
 unfold vC vr;rw[h s];cases g s with
 |none=>trivial
 |some a=>exact rfl
theorem OQ{e:W->D}{i:Nat}{g:Z->W}(h:∀s,rg (rep s) i=some (e (g s))):EJ rep e (vr i) (pC g):=λs=>by
 unfold vr pC;rw[h s];exact rfl
theorem rF{e:W->D}{d:D}{a:W}(h:e a=d):EJ rep e (ay d) (kC a):=λs=>by subst h;exact rfl
theorem aC{e:W->D}{b:X->D}{F:D->Res D}{f:W->Res X}{m:X0->Res D}{c:Z->Res W}(h:∀a,SimR b (F (e a)) (f a))(d:EJ rep e m c):EJ rep b (un F m) (aR f c):=λs=>(d s).bnd h
theorem ae{e:W->D}{e1:X->D}{d:M->D}{F:D->D->Res D}{f:W->X->Res M}{m n:X0->Res D}{c:Z->Res W}{g:Z->Res X}(h:∀a b,SimR d (F (e a) (e1 b)) (f a b))(j:EJ rep e m c)(i:EJ rep e1 n g):EJ rep d (bn F m n) (aD f c g):=λs=>(j s).bnd λa=>(i s).bnd λb=>h a b
theorem bN{e:W->D}{d:X->D}{m:X0->Res D}{c:Z->Res W}{f:W->Res X}(h:∀a,SimR d (.ok (e a)) (f a))(b:EJ rep e m c):EJ rep d m (aR f c):=λs=>by
 have b:=b s;unfold aR;cases q:c s with
 |ok a=>rw[q]at b;rw[show m (rep s)=_ from b];exact h a
 |exc x=>rw[q]at b;exact b
 |bad=>trivial
def eN:Unit->D:=λ_=>.non
def eL(e:W->D):List W->D:=λxs=>.lst (xs.map e)
def eS:List Int->D:=λxs=>.scr (xs.map D.int)
def o0(e:W->D):List W->D:=λxs=>.tup (xs.map e)
def jw(e:W->D)(a:X->D):W×X->D:=λp=>.tup [e p.1,a p.2]
def lw(e:W->D)(b:X->D)(a:M->D):W×X×M->D:=λp=>.tup [e p.1,b p.2.1,a p.2.2]
def eO(e:W->D):Option W->D:=λo=>match o with|none=>.non|some a=>e a
abbrev eK:Int×Int×List Int->D:=lw D.int D.int (eL D.int)
@[simp] def wu(o:Option W):Res W:=match o with|some a=>.ok a|none=>.bad
@[simp] def xY(a:W):Res (Option W):=.ok (some a)
@[simp] def EW(a:W):Res W:=.ok a
theorem iO{e:W->D}(o:Option W):SimR e (.ok (eO e o)) (wu o):=by cases o<;>trivial
theorem xA{e:W->D}(a:W):SimR (eO e) (.ok (e a)) (xY a):=rfl
theorem Lg{e:W->D}{F:(X0->Res D)->X0->Res D}{m:X0->Res D}{c:Z->Res W}(hF:∀T a,m T=.ok (e a)->F m T=.ok (e a))(b:∀T x,m T=.exc x->F m T=.exc x)(h:EJ rep e m c):EJ rep e (F m) c:=λs=>by
 have h:=h s;cases q:c s with
 |ok a=>rw[q]at h;exact hF _ _ h
 |exc x=>rw[q]at h;exact b _ _ h
 |bad=>trivial
theorem bT{e:W->D}{m:X0->Res D}{c:Z->Res W}(b:∀a,aN (e a)=true)(h:EJ rep e m c):EJ rep e (jA m) c:=
 Lg (F:=jA) (λT a q=>by unfold jA;rw[q];show(if _ then _ else _)=_;rw[if_pos (b a)]) (λT x q=>by unfold jA;rw[q];rfl) h
theorem kK{e:W->D}{m:X0->Res D}{c:Z->Res W}(b:∀a,iV (e a)=true)(h:EJ rep e m c):EJ rep e (j6 m) c:=
 Lg (F:=j6) (λT a q=>by unfold j6;rw[q];show(if _ then _ else _)=_;rw[if_pos (b a)]) (λT x q=>by unfold j6;rw[q];rfl) h
theorem oH{e:W->D}(h:∀a,aN (e a)=true)(xs:List W):(xs.map e).all aN=true:=by
 rw[Yq,Wh];exact λa _=>h a
theorem qC{e:W->D}(h:∀a,aN (e a)=true)(xs:List W):iV (eL e xs)=true:=oH h xs
theorem He{e:W->D}(h:∀a,aN (e a)=true)(xs:List W):iV (o0 e xs)=true:=oH h xs
theorem LR(xs:List Int):iV (eS xs)=true:=oH (λ_=>rfl) xs
theorem LS{e:W->D}(h:∀a,iV (e a)=true)(o:Option W):iV (eO e o)=true:=by
 cases o with
 |none=>rfl
 |some a=>exact h a
theorem EU{e:W->D}(h:∀a,aN (e a)=true)(o:Option W):aN (eO e o)=true:=by
 cases o with
 |none=>rfl
 |some a=>exact h a
@[simp] def j9(a b:Int):Res Int:=.ok (a+b)
@[simp] def sZ(a b:Int):Res Int:=.ok (a-b)
@[simp] def AC(a b:Int):Res Int:=if (-(2 ^ 64)<a/\a<2 ^ 64)\/(-(2 ^ 64)<b/\b<2 ^ 64) then .ok (a*b) else .bad
@[simp] def du(a b:Int):Res Int:=if 0<b/\b<1073741824 then .ok (a / b) else .bad
@[simp] def b9(a b:Int):Res Int:=if 0<b then .ok (a%b) else .bad
@[simp] def Qz(a b:Int):Res Int:=if 0<=b then .ok (a / 2 ^ b.toNat) else .bad
@[simp] def t4(a b:Int):Res Int:=.ok (if b<a then b else a)
@[simp] def t7(a b:Int):Res Int:=.ok (if b>a then b else a)
@[simp] def Qh(a b:Int):Res Bool:=.ok (decide (a<b))
@[simp] def OH(a b:Int):Res Bool:=.ok (decide (b<a))
@[simp] def geC(a b:Int):Res Bool:=.ok (decide (b<=a))
@[simp] def NL(a:Int):Res Int:=.ok (-a)
@[simp] def RW(a:Bool):Res Bool:=.ok (!a)
@[simp] def oR[DecidableEq W](neg:Bool)(a b:W):Res Bool:=.ok (neg.xor (decide (a=b)))
theorem gL(a b:Int):SimR D.int (jt (.int a) (.int b)) (j9 a b):=rfl
theorem ml(a b:Int):SimR D.int (oT (.int a) (.int b)) (sZ a b):=rfl
theorem SimR.ite{e:W->M}{p:Prop}[Decidable p]{r a:Res M}{q b:Res W}(h:SimR e r q)(h':SimR e a b):SimR e (if p then r else a) (if p then q else b):=by
 by_cases z:p
 ·rw[Vo z,Vo z];exact h
 ·rw[on z,on z];exact h'
theorem tQ(a b:Int):SimR D.int (qV (.int a) (.int b)) (AC a b):=by rw[Dx];exact SimR.ite rfl trivial
theorem cj(a b:Int):SimR D.int (cO (.int a) (.int b)) (du a b):=by rw[A5];exact SimR.ite rfl trivial
theorem ba(a b:Int):SimR D.int (bR (.int a) (.int b)) (b9 a b):=by rw[DB];exact SimR.ite rfl trivial
theorem RQ(a b:Int):SimR D.int (BS (.int a) (.int b)) (Qz a b):=by rw[BR];exact SimR.ite rfl trivial
theorem pD(a b:Int):SimR D.int (oW (.int a) (.int b)) (t4 a b):=rfl
theorem pE(a b:Int):SimR D.int (oX (.int a) (.int b)) (t7 a b):=rfl
theorem Dm(a b:Int):SimR D.bl (GH (.int a) (.int b)) (Qh a b):=rfl
theorem Iq(a b:Int):SimR D.bl (I9 (.int a) (.int b)) (OH a b):=rfl
theorem UY(a b:Int):SimR D.bl (Uo (.int a) (.int b)) (geC a b):=rfl
theorem Km(a:Int):SimR D.int (Iv (.int a)) (NL a):=rfl
theorem RT(a:Bool):SimR D.bl (NH (.bl a)) (RW a):=rfl
theorem fg(neg:Bool)(a b:Int):SimR D.bl (sR neg (.int a) (.int b)) (oR neg a b):=rfl
@[simp] def ET(neg:Bool)(f:W->Bool)(a:W):Res Bool:=.ok (neg.xor (f a))
theorem rE{e:W->D}{m:X0->Res D}{c:Z->Res W}{neg:Bool}{f:W->Bool}(h:∀a,mO (e a)=f a)(b:EJ rep e m c):EJ rep D.bl (bn (ud neg) m (ay .non)) (aR (ET neg f) c):=λs=>(b s).bnd λa=>by
 show ud neg (e a) .non=.ok (.bl (neg.xor (f a)));rw[<-h a];rfl
@[simp] def Ds(o:Option W):Bool:=o.isNone
theorem yS{e:W->D}(h:∀a,mO (e a)=false)(o:Option W):mO (eO e o)=Ds o:=by
 cases o with
 |none=>rfl
 |some a=>exact h a
theorem aB{m:X0->Res D}{c:Z->Res Bool}(h:EJ rep D.bl m c):EJ rep (id:Bool->Bool) (dk m) c:=λs=>by
 have h:=h s;cases q:c s with
 |ok a=>rw[q]at h;have h:m (rep s)=.ok (.bl a):=h;show dk m (rep s)=.ok a;unfold dk;rw[h];rfl
 |exc x=>rw[q]at h;have h:m (rep s)=.exc x:=h;show dk m (rep s)=.exc x;unfold dk;rw[h];rfl
 |bad=>trivial
@[simp] def Gb(a b:Z->Res Bool):Z->Res Bool:=λs=>(a s).bind λc=>if c=true then b s else .ok false
@[simp] def Ud(a b:Z->Res Bool):Z->Res Bool:=λs=>(a s).bind λc=>if c=true then .ok true else b s
theorem rG{a b:X0->Res Bool}{c d:Z->Res Bool}(f:EJ rep (id:Bool->Bool) a c)(e:EJ rep (id:Bool->Bool) b d):EJ rep (id:Bool->Bool) (Bp a b) (Gb c d):=λs=>(f s).bnd λt=>SimR.ite (e s) rfl
theorem wQ{a b:X0->Res Bool}{c d:Z->Res Bool}(f:EJ rep (id:Bool->Bool) a c)(e:EJ rep (id:Bool->Bool) b d):EJ rep (id:Bool->Bool) (Ic a b) (Ud c d):=λs=>(f s).bnd λt=>SimR.ite rfl (e s)
structure Dat (e:W->D) [DecidableEq W] where
 py:W->PyData
 dep:Nat
 h0:∀a,toPy (e a)=some (py a)
 lay:∀a,(py a).canLay0=true
 depth:∀a,(py a).depth<=dep
 eqv:∀a b,PyData.eqv (py a) (py b)=decide (a=b)
 nomix:∀a b,SeqAt.noMix (py a) (py b)=true
theorem Dat.same{e:W->D}[DecidableEq W](A:Dat e)(a b:W):PySem.Spec.same (A.py a) (A.py b)=decide (a=b):=by rw[<-A.eqv,SeqAt.same_eq_eqv _ _ (A.nomix a b)]
theorem Dat.shp{e:W->D}[DecidableEq W](A:Dat e)(hd:A.dep<=64)(a:W):SeqAt.shaped (A.py a)=true:=by
 unfold SeqAt.shaped;rw[A.lay a,Bool.true_and];exact decide_eq_true (Nat.le_trans (A.depth a) hd)
theorem tR{e:W->D}[DecidableEq W](A:Dat e)(hd:A.dep<=64)(neg:Bool)(a b:W):SimR D.bl (GK neg (e a) (e b)) (oR neg a b):=by
 show GK neg (e a) (e b)=.ok (.bl (neg.xor (decide (a=b))));unfold GK;rw[A.h0,A.h0];show(if _ then _ else _)=_;rw[if_pos ⟨A.shp hd a,A.shp hd b⟩,A.eqv]
@[simp] def La[DecidableEq W](neg:Bool)(a:W)(l:List W):Res Bool:=.ok (neg.xor (decide (a∈l)))
theorem yy{e:W->D}[DecidableEq W](A:Dat e)(hd:A.dep<=60)(a:W)(l:List W):SimR D.bl (GJ (e a) (eL e l)) (La false a l):=by
 have:=(yU A.h0 A.lay (λa=>VT (A.depth a) hd) A.same A.nomix a l).1
 show GJ (e a) (.lst (l.map e))=.ok (.bl (false.xor (decide (a∈l))));rw[this,Bool.false_xor]
theorem ND{e:W->D}[DecidableEq W](A:Dat e)(hd:A.dep<=60)(a:W)(l:List W):SimR D.bl (wz (e a) (eL e l)) (La true a l):=by
 have:=(yU A.h0 A.lay (λa=>VT (A.depth a) hd) A.same A.nomix a l).2
 show wz (e a) (.lst (l.map e))=.ok (.bl (true.xor (decide (a∈l))));rw[this,Bool.true_xor]
def bw:Dat D.int:=⟨PyData.int,1,λ_=>rfl,λa=>by simp[PyData.canLay0],λa=>by simp[PyData.depth],λa b=>by simp only[PyData.eqv];exact Xv _ _,λa b=>by simp[SeqAt.noMix]⟩
theorem mX{g:W->PyData}[DecidableEq W](h:∀a b,PyData.eqv (g a) (g b)=decide (a=b)):∀t u:List W,PyData.eqvAll (t.map g) (u.map g)=decide (t=u)
 |[],[]=>by simp[PyData.eqvAll]
 |[],_::_=>by simp[PyData.eqvAll]
 |_::_,[]=>by simp[PyData.eqvAll]
 | r::t,q::u=>by
   rw[Vq,Vq,PyData.eqvAll,h,mX h t u];by_cases d:r=q<;>by_cases c:t=u<;>simp[d,c]
end
section
variable{Z W X M L:Type}{rep:Z->X0}
theorem jD{g:W->PyData}(h:∀a b,SeqAt.noMix (g a) (g b)=true):∀t u:List W,SeqAt.noMixAll (t.map g) (u.map g)=true
 |[],[]=>by simp[SeqAt.noMixAll]
 |[],_::_=>by simp[SeqAt.noMixAll]
 |_::_,[]=>by simp[SeqAt.noMixAll]
 |r::t,q::u=>by rw[Vq,Vq,SeqAt.noMixAll,h,jD h t u];rfl
theorem mJ{g:W->PyData}(h:∀a,(g a).canLay0=true):∀l:List W,PyData.canLayAll0 (l.map g)=true
 |[]=>by simp[PyData.canLayAll0]
 |a::l=>by simp[PyData.canLayAll0,h a,mJ h l]
theorem jQ{g:W->PyData}{n:Nat}(h:∀a,(g a).depth<=n):∀l:List W,PyData.depthAll (l.map g)<=n
 |[]=>by simp[PyData.depthAll]
 |a::l=>by rw[Vq,PyData.depthAll];have:=h a;have:=jQ h l;omega
def cI{e:W->D}[DecidableEq W](A:Dat e):Dat (eL e):=⟨λl=>.list (l.map A.py),A.dep+1,λl=>kh A.h0 l,λl=>by rw[PyData.canLay0];exact mJ A.lay l,λl=>by rw[PyData.depth];have:=jQ A.depth l;omega,λa b=>by rw[PyData.eqv];exact mX A.eqv a b,λa b=>by rw[SeqAt.noMix];exact jD A.nomix a b⟩
def kL{e:W->D}{c:X->D}[DecidableEq W][DecidableEq X](A:Dat e)(B:Dat c):Dat (jw e c):=⟨λp=>.tuple [A.py p.1,B.py p.2],A.dep+B.dep+1,λp=>by
 show(toPys [e p.1,c p.2]).map PyData.tuple=_;rw[toPys,toPys,toPys,A.h0,B.h0];rfl,λp=>by rw[PyData.canLay0];simp[PyData.canLayAll0,A.lay,B.lay],λp=>by
 rw[PyData.depth];simp only[PyData.depthAll];have:=A.depth p.1;have:=B.depth p.2;omega,λa b=>by
 rw[PyData.eqv];simp only[PyData.eqvAll,A.eqv,B.eqv];obtain⟨j,i⟩:=a;obtain⟨h,g⟩:=b
 by_cases f:j=h<;>by_cases d:i=g<;>simp[f,d],λa b=>by rw[SeqAt.noMix];simp[SeqAt.noMixAll,A.nomix,B.nomix]⟩
theorem jO{d:PyData}(h:d≠ .none):PyData.eqv .none d=false/\PyData.eqv d .none=false/\SeqAt.noMix .none d=true/\SeqAt.noMix d .none=true:=by
 cases d with
 |none=>exact absurd rfl h
 |_=>simp[PyData.eqv,SeqAt.noMix]
def i3{e:W->D}[DecidableEq W](A:Dat e)(F:∀a,A.py a≠ .none):Dat (eO e):=⟨λo=>match o with|none=>.none|some a=>A.py a,A.dep+1,λo=>by
 cases o with
 |none=>rfl
 |some a=>exact A.h0 a,λo=>by
 cases o with
 |none=>simp[PyData.canLay0]
 |some a=>exact A.lay a,λo=>by
 cases o with
 |none=>simp[PyData.depth]
 |some a=>exact X3 (A.depth a),λa b=>by
 cases a with
 |none=>
   cases b with
   |none=>simp[PyData.eqv]
   |some b=>exact(jO (F b)).1.trans (by simp)
 |some a=>
   cases b with
   |none=>exact(jO (F a)).2.1.trans (by simp)
   |some b=>exact(A.eqv a b).trans (by simp),λa b=>by
 cases a with
 |none=>
   cases b with
   |none=>simp[SeqAt.noMix]
   |some b=>exact(jO (F b)).2.2.1
 |some a=>
   cases b with
   |none=>exact(jO (F a)).2.2.2
   |some b=>exact A.nomix a b⟩
theorem cP{e:W->D}[DecidableEq W](A:Dat e)(a:List W):(cI A).py a≠ .none:=λh=>PyData.noConfusion (show PyData.list (a.map A.py)=.none from h)
@[simp] def Dr(_:Unit):Res (Option W):=.ok none
theorem zP{e:W->D}(u:Unit):SimR (eO e) (.ok (eN u)) (Dr u):=rfl
@[simp] def iQ:Z->Res (List W):=λ_=>.ok []
@[simp] def di(a:Z->Res W)(r:Z->Res (List W)):Z->Res (List W):=λs=>(a s).bind λx=>(r s).bind λxs=>.ok (x::xs)
theorem cV{e:W->D}:EJ rep (List.map e) ax (iQ:Z->Res (List W)):=λs=>rfl
theorem bv{e:W->D}{m:X0->Res D}{n:X0->Res (List D)}{c:Z->Res W}{d:Z->Res (List W)}(g:EJ rep e m c)(f:EJ rep (List.map e) n d):EJ rep (List.map e) (ai m n) (di c d):=λs=>(g s).bnd λa=>(f s).bnd λb=>rfl
@[simp] def vK(c:Z->Res (List W)):Z->Res (List W):=λs=>(c s).bind λxs=>if xs.length<=ac then .ok xs else .bad
theorem cW{e:W->D}{m:X0->Res (List D)}{c:Z->Res (List W)}(h:EJ rep (List.map e) m c):EJ rep (eL e) (ke m) (vK c):=λs=>(h s).bnd λxs=>by rw[Vr];exact SimR.ite rfl trivial
@[simp] def ff(a:Z->Res W)(b:Z->Res X):Z->Res (W×X):=λs=>(a s).bind λx=>(b s).bind λy=>.ok (x,y)
@[simp] def ko(xs:List W):Res Int:=.ok xs.length
theorem gg{e:W->D}(xs:List W):SimR D.int (jH (eL e xs)) (ko xs):=by show Res.ok (D.int _)=Res.ok (D.int _);rw[Vr]
theorem NG(xs:List Int):SimR D.int (jH (eS xs)) (ko xs):=by show Res.ok (D.int _)=Res.ok (D.int _);rw[Vr]
theorem Ju{e:W->M}(xs:List W)(i:Int):j8 (xs.map e) i=(j8 xs i).map e:=by
 unfold j8;rw[List.length_map];cases mN xs.length i with
 |none=>rfl
 |some j=>simp only[Option.bind_some,VN]
@[simp] def rh(xs:List W)(i:Int):Res W:=match j8 xs i with|some a=>.ok a|none=>.bad
theorem xz{e:W->D}(xs:List W)(i:Int):SimR e (Jv (xs.map e) i) (rh xs i):=by
 unfold Jv rh;rw[Ju];cases j8 xs i<;>trivial
theorem mo{e:W->D}(xs:List W)(i:Int):SimR e (ES (eL e xs) (.int i)) (rh xs i):=xz xs i
theorem RU(xs:List Int)(i:Int):SimR D.int (ES (eS xs) (.int i)) (rh xs i):=xz xs i
theorem qR{e:W->D}(xs:List W)(i:Int):SimR e (yR (o0 e xs) (.int i)) (rh xs i):=xz xs i
@[simp] def SN(p:W×X):Res W:=.ok p.1
@[simp] def Qy(p:W×X):Res X:=.ok p.2
@[simp] def Ku(p:W×X×M):Res X:=.ok p.2.1
@[simp] def Qv(p:W×X×M):Res M:=.ok p.2.2
theorem uq{e:W->D}{b:X->D}{F:D->D->Res D}{f:W->Res X}{k:D}{m:X0->Res D}{c:Z->Res W}(h:∀a,SimR b (F (e a) k) (f a))(d:EJ rep e m c):EJ rep b (bn F m (ay k)) (aR f c):=λs=>(d s).bnd λa=>h a
theorem UX{e:W->D}{a:X->D}(p:W×X):SimR a (yR (jw e a p) (.int 1)) (Qy p):=rfl
theorem UW{e:W->D}{b:X->D}{a:M->D}(p:W×X×M):SimR e (yR (lw e b a p) (.int 0)) (SN p):=rfl
theorem UV{e:W->D}{b:X->D}{a:M->D}(p:W×X×M):SimR b (yR (lw e b a p) (.int 1)) (Ku p):=rfl
theorem UU{e:W->D}{b:X->D}{a:M->D}(p:W×X×M):SimR a (yR (lw e b a p) (.int 2)) (Qv p):=rfl
@[simp] def xq(xs ys:List W):Res (List W):=if xs.length+ys.length<=ac then .ok (xs++ys) else .bad
theorem Kn{e:W->D}(xs ys:List W):SimR (eL e) (F9 (eL e xs) (eL e ys)) (xq xs ys):=by
 show SimR (eL e) (if (xs.map e).length+(ys.map e).length<=ac then .ok (.lst (xs.map e++ys.map e)) else .bad) (xq xs ys);rw[Vr,Vr];exact SimR.ite (by show Res.ok (D.lst _)=Res.ok (D.lst _);rw[V7]) trivial
theorem qQ{e:W->D}(xs:List W):SimR (eL e) (gm (eL e xs)) (EW xs):=rfl
theorem Im{e:W->D}(xs:List W):SimR (eL e) (gm (o0 e xs)) (EW xs):=rfl
theorem Dl{e:W->D}(xs:List W):SimR (o0 e) (BE (eL e xs)) (EW xs):=rfl
noncomputable def Hj(xs:List W)(k:Int):Res (List W):=@ite _ ((0<=k/\k<=1000000)/\xs.length*k.toNat<=ac) (Classical.propDecidable _) (.ok (List.replicate k.toNat xs).flatten) .bad
theorem Cg{xs:List W}{k:Int}(h0:0<=k)(b:k<=1000000)(a:xs.length*k.toNat<=ac):Hj xs k=.ok (List.replicate k.toNat xs).flatten:=by unfold Hj;rw[if_pos ⟨⟨h0,b⟩,a⟩]
theorem yE{e:W->M}(xs:List W):∀k:Nat,(List.replicate k (xs.map e)).flatten=((List.replicate k xs).flatten).map e
 |0=>rfl
 |k+1=>by rw[V8,V8,Wp,Wp,V7,yE xs k]
theorem RS{e:W->D}(xs:List W)(k:Int):SimR (eL e) (we (eL e xs) (.int k)) (Hj xs k):=by
 show SimR _ (if (0<=k/\k<=1000000)/\(xs.map e).length*k.toNat<=ac then Res.ok (D.lst (List.replicate k.toNat (xs.map e)).flatten) else Res.bad) _;rw[Vr,yE];by_cases h:(0<=k/\k<=1000000)/\xs.length*k.toNat<=ac
 ·rw[Vo h,Cg h.1.1 h.1.2 h.2];rfl
 ·unfold Hj;rw[if_neg h,if_neg h];trivial
@[simp] def bW(p:W×W):Res (List W):=.ok [p.1,p.2]
theorem aW{e:W->D}(p:W×W):SimR (o0 e) (.ok (jw e e p)) (bW p):=rfl
@[simp] def uu(neg:Bool)(k:List Int)(F:DI X):Res Bool:=.ok (neg.xor (F.get k).isSome)
@[simp] def Qn(F:DI X)(k:List Int):Res X:=match F.get k with|some b=>.ok b|none=>.bad
@[simp] def Vc(F:DI X)(k:List Int)(x:X):Res X:=.ok ((F.get k).getD x)
@[simp] def SV(F:DI X)(k:List Int):Res (Option X):=.ok (F.get k)
theorem tS{e:X->D}(neg:Bool)(k:List Int)(F:DI X):SimR D.bl (lR neg (o0 D.int k) (aS e F)) (uu neg k F):=by
 show lR neg (.tup (k.map D.int)) (aS e F)=.ok (.bl (neg.xor (F.get k).isSome));unfold lR;rw[fU];simp
theorem wx{e:X->D}(F:DI X)(k:List Int):SimR e (lD (aS e F) (o0 D.int k)) (Qn F k):=by
 show SimR e (lD (aS e F) (.tup (k.map D.int))) _;unfold lD Qn;rw[fU];cases F.get k<;>trivial
@[simp] def Lb(b:Z->Res (DI X))(ck:Z->Res (List Int))(a:Z->Res X):Z->Res X:=λs=>(b s).bind λF=>(ck s).bind λk=>(a s).bind λx=>Vc F k x
theorem Jh{e:X->D}{b mk a:X0->Res D}{d:Z->Res (DI X)}{ck:Z->Res (List Int)}{c:Z->Res X}(h:EJ rep (aS e) b d)(g:EJ rep (o0 D.int) mk ck)(f:EJ rep e a c):
 EJ rep e (yY b mk a) (Lb d ck c):=λs=>(h s).bnd λF=>by
 show SimR e (if true=true then _ else _) _;rw[if_pos rfl];refine(g s).bnd λk=>(f s).bnd λx=>?_;show fB (aS e F) (.tup (k.map D.int)) (e x)=.ok (e ((F.get k).getD x));unfold fB;rw[fU];cases F.get k<;>rfl
theorem Ji{e:X->D}{a mk:X0->Res D}{b:Z->Res (DI X)}{ck:Z->Res (List Int)}(d:EJ rep (aS e) a b)(c:EJ rep (o0 D.int) mk ck):EJ rep (eO e) (mR a mk) (aD SV b ck):=λs=>(d s).bnd λF=>by
 show SimR (eO e) (if true=true then _ else _) _;rw[if_pos rfl];refine(c s).bnd λk=>?_;show fB (aS e F) (.tup (k.map D.int)) .non=.ok (eO e (F.get k));unfold fB;rw[fU];cases F.get k<;>rfl
@[simp] def pR(F:DI X):Res (List (List Int)):=.ok (F.map (·.1))
theorem Dp{e:X->D}(F:DI X):SimR (eL (o0 D.int)) (yN (aS e F)) (pR F):=by
 show Res.ok (D.lst ((F.map λp=>p.1.map (Sum.inl:Int->az)).map λk=>.tup (k.map kD)))=Res.ok (D.lst ((F.map (·.1)).map (o0 D.int)));rw[Wl,Wl];refine congrArg (λz=>Res.ok (D.lst z)) (WJ λp _=>?_);show D.tup ((p.1.map (Sum.inl:Int->az)).map kD)=D.tup (p.1.map D.int);rw[Wl];rfl
@[simp] def Ey(xs:List Int)(d:Int):Res Int:=.ok (match xs with | []=>d|x::r=>c9 r x)
@[simp] def Kq(xs:List Int)(d:Int):Res Int:=.ok (match xs with | []=>d|x::r=>fM r x)
theorem dG:∀l:List Int,bS (l.map D.int)=some l
 |[]=>rfl
 |x::l=>by rw[Vq,bS,dG l];rfl
theorem Io(xs:List Int)(d:Int):SimR D.int (mW c9 (eL D.int xs) (.int d)) (Ey xs d):=by
 show mW c9 (.lst (xs.map D.int)) (.int d)=_;unfold mW;dsimp only;rw[dG];cases xs<;>rfl
theorem NE(xs:List Int)(d:Int):SimR D.int (mW fM (eL D.int xs) (.int d)) (Kq xs d):=by
 show mW fM (.lst (xs.map D.int)) (.int d)=_;unfold mW;dsimp only;rw[dG];cases xs<;>rfl
@[simp] def qZ(xs:List Int):Res Int:=if xs.length<4000 then .ok (dd xs).length else .bad
theorem Do(xs:List Int):SimR D.int (mI (eL D.int xs)) (qZ xs):=by
 show SimR D.int (mI (.lst (xs.map D.int))) _;unfold mI qZ;dsimp only;rw[dG];exact SimR.ite rfl trivial
theorem lL:∀l:List Bool,gJ (l.map D.bl)=some l
 |[]=>rfl
 |x::l=>by rw[Vq,gJ,lL l];rfl
@[simp] def TF(xs:List Bool):Res Bool:=.ok (xs.any id)
theorem RV(xs:List Bool):SimR D.bl (o7 (eL D.bl xs)) (TF xs):=by
 show o7 (.lst (xs.map D.bl))=_;unfold o7;dsimp only;rw[lL]
theorem EQ(k:Int×Int×List Int):ub (eK k)=some k:=by
 show(bS (k.2.2.map D.int)).map (λns=>(k.1,k.2.1,ns))=some k;rw[dG];rfl
theorem pQ:∀l:List (Int×Int×List Int),fT (l.map eK)=some l
 |[]=>rfl
 |k::l=>by rw[Vq,fT,EQ,pQ l]
def qW:List (Int×Int×List Int)->Option (Int×Int×List Int)
 |[]=>none
 |k::r=>some (r.foldl (λb x=>if dU x b=true then x else b) k)
theorem kU(a:Nat->Nat->Bool)(n:Nat):PySem.argBest a (n+1)=if a (n+1) (PySem.argBest a n)=true then n+1 else PySem.argBest a n:=rfl
theorem sM:∀(n:Nat) (k:Int×Int×List Int) (r:List (Int×Int×List Int)),r.length=n->
 (k::r)[PySem.argBest (λi j=>dU ((k::r).getD i (0,0,[])) ((k::r).getD j (0,0,[]))) n]?=qW (k::r):=by
 intro n
 induction n with
 |zero=>
   intro k r h
   have:r=[]:=VZ.mp h
   subst this;rfl
 |succ n l=>
   intro k r h
   obtain⟨q,x,rfl⟩:∃q x,r=q++[x]:=by
    rcases List.eq_nil_or_concat r with z|⟨q,x,z⟩
    ·subst z;cases h
    ·exact⟨q,x,by rw[z,List.concat_eq_append]⟩
   have e:q.length=n:=by simpa using h
   have a:=l k q e
   have g:∀i,i<=n->(k::(q++[x])).getD i (0,0,[])=(k::q).getD i (0,0,[]):=λi hi=>by
    rw[<-Xe,VL,VL,Wc (by simp;omega)]
   have p:∀m,m<=n->PySem.argBest (λi j=>dU ((k::(q++[x])).getD i (0,0,[])) ((k::(q++[x])).getD j (0,0,[]))) m=PySem.argBest (λi j=>dU ((k::q).getD i (0,0,[])) ((k::q).getD j (0,0,[]))) m:=by
    intro m
    induction m with
    |zero=>intro _;rfl
    |succ m d=>
      intro o;rw[kU,kU,d (by omega)];have f:=jr (λi j=>dU ((k::q).getD i (0,0,[])) ((k::q).getD j (0,0,[]))) m;rw[g (m+1) o,g _ (by omega)]
   rw[kU,p n (VG _)];have f:=jr (λi j=>dU ((k::q).getD i (0,0,[])) ((k::q).getD j (0,0,[]))) n;generalize PySem.argBest (λi j=>dU ((k::q).getD i (0,0,[])) ((k::q).getD j (0,0,[]))) n=b at a f
   have e1:(k::(q++[x])).getD (n+1) (0,0,[])=x:=by
    rw[WI,VL,V9 (by omega),e,XG];rfl
   rw[e1,g b f]
   have c:qW (k::q)=some ((k::q).getD b (0,0,[])):=by
    rw[<-a,VL,VH (by simp;omega)];rfl
   unfold qW at c ⊢;dsimp only at c ⊢;injection c with c
   rw[List.foldl_append,Xj,List.foldl_nil,c];by_cases z:dU x ((k::q).getD b (0,0,[]))=true
   ·rw[Vo z,Vo z,W0,V9 (by omega),e,XG];rfl
   ·rw[on z,on z,<-Xe,Wc (by simp;omega),VH (by simp;omega),VL,VH (by simp;omega)];rfl
@[simp] def Kt(xs:List (Int×Int×List Int)):Res (Option (Int×Int×List Int)):=.ok (qW xs)
theorem NF(xs:List (Int×Int×List Int)):SimR (eO eK) (t3 (eL eK xs) .non) (Kt xs):=by
 cases xs with
 |nil=>rfl
 |cons k r=>
   have a:fT (eK k::r.map eK)=some (k::r):=pQ (k::r);show t3 (.lst (eK k::r.map eK)) .non=.ok (eO eK (qW (k::r)));simp only[t3,a];rw[Vr,show eK k::r.map eK=(k::r).map eK from rfl,VN,sM _ k r rfl];rfl
end
section
variable{Z σ' W X M L:Type}{rep:Z->X0}{Y:σ'->X0}
def QY(rep:Z->X0)(e:W->D)(a:List Nat):W×Z->X0:=λp=>some (e p.1)::cz (rep p.2) a
def gC(b:W->Res Bool)(te:W->Res X):List W->Res (List X)
 |[]=>.ok []
 |a::r=>(b a).calm.bind λc=>if c=true then (te a).calm.bind λx=>(gC b te r).bind λxs=>.ok (x::xs) else gC b te r
def d9(src:Z->Res (List W))(b:W×Z->Res Bool)(te:W×Z->Res X):Z->Res (List X):=λs=>(src s).bind λxs=>if xs.length<ac then gC (λa=>b (a,s)) (λa=>te (a,s)) xs else .bad
theorem gu{e:W->D}{i:X->D}{f:List Nat}{src:X0->Res (List D)}{g:X0->Res Bool}{te:X0->Res D}{b:Z->Res (List W)}{c:W×Z->Res Bool}{d:W×Z->Res X}
 (m:EJ rep (List.map e) src b) (k:EJ (QY rep e f) (id:Bool->Bool) g c) (n:EJ (QY rep e f) i te d):EJ rep (eL i) (fc src f g te) (d9 b c d):=λs=>(m s).bnd λxs=>by
 rw[Vr];refine SimR.ite ?_ trivial
 have h:∀l:List W,SimR (List.map i) (aI g te (cz (rep s) f) (l.map e)) (gC (λa=>c (a,s)) (λa=>d (a,s)) l):=by
  intro l
  induction l with
  |nil=>rfl
  |cons a l j=>
    rw[List.map_cons];unfold aI gC;refine SimR.bnd (k (a,s)).calm λt=>SimR.ite (SimR.bnd (n (a,s)).calm λx=>SimR.bnd j λxs=>?_) j;rfl
 have:=h xs
 exact SimR.el this (λ_=>rfl) (λ_=>rfl) λ_=>trivial
theorem rB:EJ rep (id:Bool->Bool) (λ_=>.ok true) (λ_=>.ok true):=λs=>rfl
theorem ft{e:W->D}{m:X0->Res D}{c:Z->Res (List W)}(h:EJ rep (eL e) m c):EJ rep (List.map e) (i9 m) c:=λs=>by
 have h:=h s;unfold i9;exact SimR.el h (λ_=>rfl) (λ_=>rfl) λ_=>trivial
def bV(lo hi:Int):List Int:=(List.range (hi-lo).toNat).map λi:Nat=>lo+i
noncomputable def fb(lo hi:Int):Res (List Int):=@ite _ (-(2 ^ 62)<=lo/\lo<2 ^ 62/\-(2 ^ 62)<=hi/\hi<2 ^ 62) (Classical.propDecidable _) (.ok (bV lo hi)) .bad
theorem Hh(lo hi:Int):(bV lo hi).map D.int=rng lo hi:=by unfold bV rng;rw[List.map_map];rfl
theorem cT{lo hi:Int}(d:-(2 ^ 62)<=lo)(c:lo<2 ^ 62)(b:-(2 ^ 62)<=hi)(a:hi<2 ^ 62):fb lo hi=.ok (bV lo hi):=by unfold fb;rw[if_pos ⟨d,c,b,a⟩]
theorem wP{a b:X0->Res D}{d c:Z->Res Int}(f:EJ rep D.int a d)(e:EJ rep D.int b c):EJ rep (List.map D.int) (vX a b) (aD fb d c):=λs=>(f s).bnd λi=>(e s).bnd λj=>by
 show SimR _ (if -(2 ^ 62)<=i/\i<2 ^ 62/\-(2 ^ 62)<=j/\j<2 ^ 62 then _ else _) _;by_cases h:-(2 ^ 62)<=i/\i<2 ^ 62/\-(2 ^ 62)<=j/\j<2 ^ 62
 ·rw[Vo h,cT h.1 h.2.1 h.2.2.1 h.2.2.2];exact congrArg Res.ok (Hh i j).symm
 ·unfold fb;rw[if_neg h,if_neg h];trivial
theorem dO{b:X0->Res D}{c:Z->Res Int}(d:EJ rep D.int b c):EJ rep (List.map D.int) (cZ b) (aR (fb 0) c):=λs=>wP (rF (a:=(0:Int)) rfl) d s
def OutC.res:OutC Z W->Res W
 |.ok a _=>.ok a
 |.exc x _=>.exc x
 |.bad=>.bad
@[simp] theorem L7(a:W)(s:Z):(OutC.ok a s).res=.ok a:=rfl
@[simp] theorem Ua(x:Nat)(s:Z):(OutC.exc x s:OutC Z W).res=.exc x:=rfl
@[simp] theorem Ub:(OutC.bad:OutC Z W).res=.bad:=rfl
@[simp] def bndO(r:Res W)(s:Z)(k:W->OutC Z X):OutC Z X:=match r with
 |.ok a=>k a
 |.exc x=>.exc x s
 |.bad=>.bad
theorem SimO.res{e:W->D}{b:List D->Out D}{ds:List D}{q:OutC Z W}(h:SimO rep e (b ds) q):SimR e (eU b ds) q.res:=by
 unfold eU;cases q with
 |ok a s=>rw[show b ds=_ from h];rfl
 |exc x s=>rw[show b ds=_ from h];rfl
 |bad=>trivial
theorem SimO.bndO{e:W->M}{b:X->L}{s:Z}{r:Res M}{q:Res W}{k:M->X0->Out L}{l:W->OutC Z X}(h:SimR e r q)(c:∀a,SimO rep b (k (e a) (rep s)) (l a)):SimO rep b ((r.up (rep s)).bind k) (Cl.bndO q s l):=by
 cases q with
 |ok a=>rw[show r=_ from h];exact c a
 |exc x=>rw[show r=_ from h];exact rfl
 |bad=>trivial
@[simp] def T5(w:σ'->Z->Z)(s:Z):OutC σ' W->OutC Z W
 |.ok a b=>.ok a (w b s)
 |.exc x b=>.exc x (w b s)
 |.bad=>.bad
theorem SimO.wb{b:List Ap}{d:List D->Out D}{ds:List D}{e:W->D}{q:OutC σ' W}{w:σ'->Z->Z}(f:∀c s,cf b 0 (Y c) (rep s)=rep (w c s))(h:SimO Y e (d ds) q)(s:Z):SimO rep e (bQ b d ds (rep s)) (T5 w s q):=by
 unfold bQ;cases q with
 |ok a c=>rw[show d ds=_ from h];show Out.ok _ _=Out.ok _ _;rw[f]
 |exc x c=>rw[show d ds=_ from h];show Out.exc _ _=Out.exc _ _;rw[f]
 |bad=>trivial
theorem lO{e:W->D}{eR:M->L}{m:X0->Res D}{r:X0->Res (List D)}{k:List D->Res L}{c:Z->Res W}{l:W->Res M}{s:Z}(h:EJ rep e m c)(g:∀x,SimR eR ((r (rep s)).bind λds=>k (e x::ds)) (l x)):SimR eR ((ai m r (rep s)).bind k) ((c s).bind l):=by
 have h:=h s;unfold ai;refine SimR.el h (λx=>?_) (λ_=>rfl) λ_=>trivial;have g:=g x;simp only[Res.bind];cases z:r (rep s)<;>rw[z]at g<;>exact g
theorem GG{e:W->D}{eR:M->L}{m:X0->Res D}{r:X0->Res (List D)}{k:List D->X0->Out L}{c:Z->Res W}{l:W->OutC Z M}{s:Z}(h:EJ rep e m c)(g:∀x,SimO rep eR (((r (rep s)).up (rep s)).bind λds T=>k (e x::ds) T) (l x)):SimO rep eR (((ai m r (rep s)).up (rep s)).bind k) (bndO (c s) s l):=by
 have h:=h s;unfold ai;refine SimR.el h (λx=>?_) (λ_=>rfl) λ_=>trivial;have g:=g x;simp only[Res.bind];cases z:r (rep s)<;>rw[z]at g<;>exact g
theorem Jq{r:Res W}{f:W->Res X}{g:X->Res M}:(r.bind f).bind g=r.bind λx=>(f x).bind g:=by cases r<;>rfl
theorem aJ{e:W->D}{f:X->D}{m n:X0->Res D}{c:Z->Res W}{d:Z->Res X}(h:EJ rep e m c)(g:EJ rep f n d):EJ rep (jw e f) (gU (ai m (ai n ax))) (ff c d):=λs=>lO h λa=>lO g λb=>by simp only[ax,Res.bind];rw[Vo (by show 2<=ac;decide)];rfl
theorem y0{e:W->D}{h:X->D}{g:M->D}{m n o:X0->Res D}{c:Z->Res W}{d:Z->Res X}{f:Z->Res M}(k:EJ rep e m c)(j:EJ rep h n d)(i:EJ rep g o f):EJ rep (lw e h g) (gU (ai m (ai n (ai o ax)))) (ff c (ff d f)):=λs=>lO k λa=>by
 show SimR _ _ (((d s).bind λy=>(f s).bind λz=>.ok (y,z)).bind λy=>.ok (a,y));rw[Jq];exact lO j λb=>by rw[Jq];exact lO i λz=>by simp only[ax,Res.bind];rw[Vo (by show 3<=ac;decide)];rfl
theorem CK{e:W->D}{eR:M->D}{c:Nat}{b:Str}{d:List D->Out D}{m:X0->Res D}{r:X0->Res (List D)}{q:Z->Res W}{l:W->Res M}{s:Z}(f:∀a,aZ c b (e a)=true)(h:EJ rep e m q)(g:∀x,SimR eR ((r (rep s)).bind λds=>eU d (e x::ds)) (l x)):SimR eR (pm c b d m r (rep s)) ((q s).bind l):=(h s).bnd λx=>by rw[Vo (f x)];exact g x
theorem DC{e:W->D}{eR:M->D}{c:Nat}{d:Str}{b:List Ap}{f:List D->Out D}{m:X0->Res D}{r:X0->Res (List D)}{q:Z->Res W}{l:W->OutC Z M}{s:Z}(i:∀a,aZ c d (e a)=true)(h:EJ rep e m q)(g:∀x,SimO rep eR (((r (rep s)).up (rep s)).bind λds T=>bQ b f (e x::ds) T) (l x)):SimO rep eR (mm c d b f m r (rep s)) (bndO (q s) s l):=SimO.bndO (h s) λx=>by rw[Vo (i x)];exact g x
variable{α0 α1 α2 α3 α4 α5:Type}{e0:α0->D}{e1:α1->D}{e2:α2->D}{e3:α3->D}{e4:α4->D}{e5:α5->D}{m0 m1 m2 m3 m4 m5:X0->Res D}{c0:Z->Res α0}{c1:Z->Res α1}{c2:Z->Res α2}{c3:Z->Res α3}{c4:Z->Res α4}{c5:Z->Res α5}{eR:M->D}{fm:List D->Out D}{w:σ'->Z->Z}{plan:List Ap}{c:Nat}{mn:Str}
@[simp] def iP(f:α0->OutC σ' M)(c0:Z->Res α0):Z->Res M:=λs=>(c0 s).bind λa=>(f a).res
@[simp] def wo(f:α0->Res M)(c0:Z->Res α0):Z->Res M:=λs=>(c0 s).bind λa=>f a
theorem rD{f:α0->OutC σ' M}(b:∀a,SimO Y eR (fm [e0 a]) (f a))(h0:EJ rep e0 m0 c0):EJ rep eR (pc fm (ai m0 ax)) (iP f c0):=λs=>lO h0 λa=>(b a).res
theorem kJ{f:α0->Res M}(b:∀a,SimR eR (fP c fm [e0 a]) (f a))(h0:EJ rep e0 m0 c0):EJ rep eR (pk c fm (ai m0 ax)) (wo f c0):=λs=>lO h0 λa=>b a
theorem kH{f:α0->OutC σ' M}(d:∀a,aZ c mn (e0 a)=true)(e:∀b,SimO Y eR (fm [e0 b]) (f b))(h0:EJ rep e0 m0 c0):EJ rep eR (pm c mn fm m0 ax) (iP f c0):=λs=>CK d h0 λb=>(e b).res
@[simp] def bB(f:α0->α1->OutC σ' M)(c0:Z->Res α0)(c1:Z->Res α1):Z->Res M:=λs=>(c0 s).bind λb=>(c1 s).bind λa=>(f b a).res
@[simp] def DG(f:α0->α1->OutC σ' M)(w:σ'->Z->Z)(c0:Z->Res α0)(c1:Z->Res α1):Z->OutC Z M:=λs=>bndO (c0 s) s λb=>bndO (c1 s) s λa=>T5 w s (f b a)
@[simp] def Mw(f:α0->α1->Res M)(c0:Z->Res α0)(c1:Z->Res α1):Z->Res M:=λs=>(c0 s).bind λb=>(c1 s).bind λa=>f b a
theorem QW{eR:M->L}{k:List D->Res L}{f:α0->α1->Res M}(c:∀b a,SimR eR (k [e0 b,e1 a]) (f b a))(h0:EJ rep e0 m0 c0)(d:EJ rep e1 m1 c1):EJ rep eR (λT=>(((ai m0 (ai m1 ax))) T).bind k) (Mw f c0 c1):=λs=>lO h0 λb=>lO d λa=>c b a
theorem br{f:α0->α1->OutC σ' M}(c:∀b a,SimO Y eR (fm [e0 b,e1 a]) (f b a))(h0:EJ rep e0 m0 c0)(d:EJ rep e1 m1 c1):EJ rep eR (pc fm (ai m0 (ai m1 ax))) (bB f c0 c1):=λs=>lO h0 λb=>lO d λa=>(c b a).res
theorem bY{f:α0->α1->OutC σ' M}(e:∀a,aZ c mn (e0 a)=true)(g:∀d b,SimO Y eR (fm [e0 d,e1 b]) (f d b))(h0:EJ rep e0 m0 c0)(h:EJ rep e1 m1 c1):EJ rep eR (pm c mn fm m0 (ai m1 ax)) (bB f c0 c1):=λs=>CK e h0 λd=>lO h λb=>(g d b).res
theorem qT{f:α0->α1->OutC σ' M}(h:∀a,aZ c mn (e0 a)=true)(g:∀e s,cf plan 0 (Y e) (rep s)=rep (w e s))(i:∀d b,SimO Y eR (fm [e0 d,e1 b]) (f d b))(h0:EJ rep e0 m0 c0)(j:EJ rep e1 m1 c1):NJ rep eR (mm c mn plan fm m0 (ai m1 ax)) (DG f w c0 c1):=λs=>DC h h0 λd=>GG j λb=>SimO.wb g (i d b) s
@[simp] def gf(f:α0->α1->α2->OutC σ' M)(c0:Z->Res α0)(c1:Z->Res α1)(c2:Z->Res α2):Z->Res M:=λs=>(c0 s).bind λc=>(c1 s).bind λb=>(c2 s).bind λa=>(f c b a).res
@[simp] def iR(f:α0->α1->α2->OutC σ' M)(w:σ'->Z->Z)(c0:Z->Res α0)(c1:Z->Res α1)(c2:Z->Res α2):Z->OutC Z M:=λs=>bndO (c0 s) s λc=>bndO (c1 s) s λb=>bndO (c2 s) s λa=>T5 w s (f c b a)
theorem mY{f:α0->α1->α2->OutC σ' M}(d:∀c b a,SimO Y eR (fm [e0 c,e1 b,e2 a]) (f c b a))(h0:EJ rep e0 m0 c0)(g:EJ rep e1 m1 c1)(e:EJ rep e2 m2 c2):EJ rep eR (pc fm (ai m0 (ai m1 (ai m2 ax)))) (gf f c0 c1 c2):=λs=>lO h0 λc=>lO g λb=>lO e λa=>(d c b a).res
theorem ij{f:α0->α1->α2->OutC σ' M}(g:∀a,aZ c mn (e0 a)=true)(h:∀e d b,SimO Y eR (fm [e0 e,e1 d,e2 b]) (f e d b))(h0:EJ rep e0 m0 c0)(j:EJ rep e1 m1 c1)(i:EJ rep e2 m2 c2):EJ rep eR (pm c mn fm m0 (ai m1 (ai m2 ax))) (gf f c0 c1 c2):=λs=>CK g h0 λe=>lO j λd=>lO i λb=>(h e d b).res
theorem cU{f:α0->α1->α2->OutC σ' M}(i:∀a,aZ c mn (e0 a)=true)(h:∀g s,cf plan 0 (Y g) (rep s)=rep (w g s))(j:∀e d b,SimO Y eR (fm [e0 e,e1 d,e2 b]) (f e d b))(h0:EJ rep e0 m0 c0)(l:EJ rep e1 m1 c1)(k:EJ rep e2 m2 c2):NJ rep eR (mm c mn plan fm m0 (ai m1 (ai m2 ax))) (iR f w c0 c1 c2):=λs=>DC i h0 λe=>GG l λd=>GG k λb=>SimO.wb h (j e d b) s
@[simp] def wA(f:α0->α1->α2->α3->OutC σ' M)(w:σ'->Z->Z)(c0:Z->Res α0)(c1:Z->Res α1)(c2:Z->Res α2)(c3:Z->Res α3):Z->OutC Z M:=λs=>bndO (c0 s) s λd=>bndO (c1 s) s λc=>bndO (c2 s) s λb=>bndO (c3 s) s λa=>T5 w s (f d c b a)
theorem wy{f:α0->α1->α2->α3->OutC σ' M}(g:∀e s,cf plan 0 (Y e) (rep s)=rep (w e s))(h:∀d c b a,SimO Y eR (fm [e0 d,e1 c,e2 b,e3 a]) (f d c b a))(h0:EJ rep e0 m0 c0)(k:EJ rep e1 m1 c1)(j:EJ rep e2 m2 c2)(i:EJ rep e3 m3 c3):NJ rep eR (mc plan fm (ai m0 (ai m1 (ai m2 (ai m3 ax))))) (wA f w c0 c1 c2 c3):=λs=>GG h0 λd=>GG k λc=>GG j λb=>GG i λa=>SimO.wb g (h d c b a) s
theorem Du{f:α0->α1->α2->α3->OutC σ' M}(j:∀a,aZ c mn (e0 a)=true)(i:∀h s,cf plan 0 (Y h) (rep s)=rep (w h s))(k:∀g e d b,SimO Y eR (fm [e0 g,e1 e,e2 d,e3 b]) (f g e d b))(h0:EJ rep e0 m0 c0)(n:EJ rep e1 m1 c1)(m:EJ rep e2 m2 c2)(l:EJ rep e3 m3 c3):NJ rep eR (mm c mn plan fm m0 (ai m1 (ai m2 (ai m3 ax)))) (wA f w c0 c1 c2 c3):=λs=>DC j h0 λg=>GG n λe=>GG m λd=>GG l λb=>SimO.wb i (k g e d b) s
@[simp] def MP(f:α0->α1->α2->α3->α4->OutC σ' M)(c0:Z->Res α0)(c1:Z->Res α1)(c2:Z->Res α2)(c3:Z->Res α3)(c4:Z->Res α4):Z->Res M:=λs=>(c0 s).bind λe=>(c1 s).bind λd=>(c2 s).bind λc=>(c3 s).bind λb=>(c4 s).bind λa=>(f e d c b a).res
theorem Fa{f:α0->α1->α2->α3->α4->OutC σ' M}(g:∀e d c b a,SimO Y eR (fm [e0 e,e1 d,e2 c,e3 b,e4 a]) (f e d c b a))(h0:EJ rep e0 m0 c0)(k:EJ rep e1 m1 c1)(j:EJ rep e2 m2 c2)(i:EJ rep e3 m3 c3)(h:EJ rep e4 m4 c4):EJ rep eR (pc fm (ai m0 (ai m1 (ai m2 (ai m3 (ai m4 ax)))))) (MP f c0 c1 c2 c3 c4):=λs=>lO h0 λe=>lO k λd=>lO j λc=>lO i λb=>lO h λa=>(g e d c b a).res
end
section
variable{Z σ' W X M L:Type}{rep:Z->X0}{eR:X->D}
@[simp] def aH(c:Z->Res W):Z->OutC Z W:=λs=>match c s with
 |.ok a=>.ok a s
 |.exc x=>.exc x s
 |.bad=>.bad
theorem af{e:W->M}{m:X0->Res M}{c:Z->Res W}(h:EJ rep e m c):NJ rep e (aw m) (aH c):=λs=>by
 have h:=h s;unfold aH aw;refine SimR.el h (λa=>?_) (λ_=>rfl) λ_=>trivial;rfl
@[simp] def xy(o:OutC Z W)(k:W->Z->OutC Z X):OutC Z X:=match o with
 |.ok a s=>k a s
 |.exc x s=>.exc x s
 |.bad=>.bad
theorem SimO.bd{e:W->M}{b:X->L}{r:Out M}{q:OutC Z W}{k:M->X0->Out L}{l:W->Z->OutC Z X}(h:SimO rep e r q)(c:∀a s,SimO rep b (k (e a) (rep s)) (l a s)):SimO rep b (r.bind k) (xy q l):=by
 cases q with
 |ok a s=>rw[show r=_ from h];exact c a s
 |exc x s=>rw[show r=_ from h];exact rfl
 |bad=>trivial
theorem pF{e:W->D}{i:X->D}{m:X0->Out D}{c:Z->OutC Z W}{f:W->Res X}(h:∀a,SimR i (.ok (e a)) (f a))(d:NJ rep e m c):NJ rep i m (λs=>xy (c s) λa s=>bndO (f a) s λb=>.ok b s):=λs=>by
 have d:=d s;dsimp only;cases q:c s with
 |ok a g=>
   rw[q]at d;rw[show m (rep s)=_ from d]
   have:=h a
   show SimO rep i (.ok (e a) (rep g)) (bndO (f a) g λb=>.ok b g);cases j:f a with
   |ok b=>rw[j]at this;have this:Res.ok (e a)=.ok (i b):=this;injection this with this;rw[this];rfl
   |exc x=>rw[j]at this;cases this
   |bad=>trivial
 |exc x g=>rw[q]at d;exact d
 |bad=>trivial
@[simp] def Dw(g:Z->Option W)(b:Z->Z):Z->OutC Z W:=λs=>match g s with|some a=>.ok a (b s)|none=>.bad
theorem jE{e:W->D}{i:Nat}{g:Z->Option W}{b:Z->Z}(h:∀s,rg (rep s) i=(g s).map e)(c:∀s,(rep s).set i none=rep (b s)):NJ rep e (yB i) (Dw g b):=λs=>by
 unfold yB Dw;rw[h s];cases g s with
 |none=>trivial
 |some a=>show Out.ok _ _=Out.ok _ _;rw[c]
@[simp] def GI(g:Z->Option (List W))(p:Z->List W->Z)(f:List W->L->Option (M×List W))(c:Z->Res L):Z->OutC Z M:=λs=>match g s with
 |none=>.bad
 | some xs=>bndO (c s) s λx=>match f xs x with
   |some (r,ys)=>.ok r (p s ys)
   |none=>.bad
def lU(xs:List W)(x:W):Option (Unit×List W):=if xs.length<ac then some ((),xs++[x]) else none
def CJ(xs:List W)(i:Int):Option (W×List W):=if 0<=i/\i<xs.length/\xs.length<=ac then xs[i.toNat]?.map λd=>(d,xs.eraseIdx i.toNat) else none
def tG[DecidableEq W](xs:List W)(x:W):Option (Unit×List W):=(xs.findIdx? λy=>decide (y=x)).map λj=>((),xs.eraseIdx j)
def Jz{δ':Type}(e:W->D)(e1:L->D)(a:M->D)(F:List D->D->Option (D×List D))(f:List W->L->Option (M×List W)):Prop:=∀xs x,match f xs x with
 |some (r,ys)=>F (xs.map e) (e1 x)=some (a r,ys.map e)
 |none=>True
theorem kF{e:W->M}:∀(xs:List W) (i:Nat),(xs.map e).eraseIdx i=(xs.eraseIdx i).map e
 |[],i=>by simp
 |x::xs,0=>by simp
 |x::xs,i+1=>by rw[Vq,Wa,Wa,Vq,kF xs i]
theorem p5{e:W->D}:Jz (δ':=Unit) e e eN js lU:=λxs x=>by
 unfold lU js;rw[List.length_map];by_cases h:xs.length<ac
 ·rw[Vo h,Vo h];show some (D.non,xs.map e++[e x])=some (eN (),(xs++[x]).map e);rw[V7];rfl
 ·rw[on h];trivial
theorem SS{e:W->D}:Jz (δ':=Unit) e D.int e CI CJ:=λxs i=>by
 unfold CJ CI;dsimp only;rw[List.length_map];by_cases h:0<=i/\i<xs.length/\xs.length<=ac
 · rw[Vo h,Vo h,VN];cases xs[i.toNat]? with
   |none=>trivial
   |some a=>
     show some (e a,(xs.map e).eraseIdx i.toNat)=some (e a,(xs.eraseIdx i.toNat).map e);rw[kF]
 ·rw[on h];trivial
theorem lu{e:W->PyData}{p:PyData->Bool}:∀xs:List W,(xs.map e).findIdx? p=xs.findIdx? λx=>p (e x)
 |[]=>rfl
 |x::xs=>by rw[Vq,List.findIdx?_cons,List.findIdx?_cons,lu xs]
theorem Le{e:W->D}[DecidableEq W](A:Dat e)(hd:A.dep<=64):Jz (δ':=Unit) e e eN wj tG:=λxs x=>by
 have b:((xs.map A.py).all SeqAt.shaped)=true:=by
  rw[Yq,Wh];exact λa _=>A.shp hd a
 unfold tG wj;rw[A.h0,kg A.h0];dsimp only;rw[if_pos ⟨A.shp hd x,b⟩,lu];have c:(λy=>PyData.eqv (A.py y) (A.py x))=λy=>decide (y=x):=funext λy=>A.eqv y x;rw[c];cases xs.findIdx? λy=>decide (y=x) with
 |none=>trivial
 |some j=>
   show some (D.non,(xs.map e).eraseIdx j)=some (eN (),(xs.eraseIdx j).map e);rw[kF];rfl
theorem lc{e:W->D}{e1:L->D}{a:M->D}{get:X0->Option D}{set:X0->D->X0}{g:Z->Option (List W)}{p:Z->List W->Z}{F:List D->D->Option (D×List D)}{f:List W->L->Option (M×List W)}{m:X0->Res D}{c:Z->Res L}
 (i:∀s,get (rep s)=(g s).map (eL e)) (h:∀s xs,set (rep s) (eL e xs)=rep (p s xs)) (hF:Jz (δ':=Unit) e e1 a F f) (b:EJ rep e1 m c):NJ rep a (iS get set F m) (GI g p f c):=λs=>by
 have b:=b s;unfold iS GI;rw[i];cases g s with
 |none=>trivial
 |some xs=>
   show SimO rep a (Ov set F (rep s) (xs.map e) (m (rep s))) (bndO (c s) s _);refine SimR.el b (λx=>?_) (λ_=>rfl) λ_=>trivial
   have:=hF xs x
   show SimO rep a (AK set (rep s) (F (xs.map e) (e1 x))) (match f xs x with|some (r,ys)=>OutC.ok r (p s ys)|none=>.bad);cases d:f xs x with
   |none=>trivial
   |some r=>
     rw[d]at this;obtain⟨r,ys⟩:=r;have this:F (xs.map e) (e1 x)=some (a r,ys.map e):=this;rw[this];show Out.ok _ _=Out.ok _ _;rw[<-h];rfl
@[simp] def PH(g:Z->Option (List W))(p:Z->List W->Z)(c:Z->OutC Z W):Z->OutC Z Unit:=λs=>match g s with
 |none=>.bad
 | some _=>xy (c s) λx s=>match g s with
   |none=>.bad
   |some xs=>(match lU xs x with|some (r,ys)=>.ok r (p s ys)|none=>.bad)
theorem NK{e:W->D}{i:Nat}{g:Z->Option (List W)}{p:Z->List W->Z}{m:X0->Out D}{c:Z->OutC Z W}(b:∀s,rg (rep s) i=(g s).map (eL e))(h:∀s xs,(rep s).set i (some (eL e xs))=rep (p s xs))(a:NJ rep e m c):NJ rep eN (Bn i m) (PH g p c):=λs=>by
 have a:=a s;unfold Bn PH;rw[b];cases g s with
 |none=>trivial
 |some d=>
   show SimO rep eN ((m (rep s)).bind (vA i)) (xy (c s) _);refine a.bd λx s=>?_;unfold vA;rw[b];cases g s with
   |none=>trivial
   |some xs=>
     have:=p5 (e:=e) xs x
     show SimO rep eN (AK (cM i) (rep s) (js (xs.map e) (e x))) (match lU xs x with|some (r,ys)=>OutC.ok r (p s ys)|none=>.bad);cases f:lU xs x with
     |none=>trivial
     |some r=>
       rw[f]at this;obtain⟨r,ys⟩:=r;have this:js (xs.map e) (e x)=some (eN r,ys.map e):=this;rw[this];show Out.ok _ _=Out.ok _ _;rw[<-h];rfl
@[simp] def ut(g:Z->Option (DI W))(p:Z->DI W->Z)(ck:Z->Res (List Int)):Z->OutC Z W:=λs=>match g s with
 |none=>.bad
 | some F=>bndO (ck s) s λk=>match F.get k with
   |some x=>.ok x (p s (F.del k))
   |none=>.bad
theorem qU{e:W->D}{get:X0->Option D}{set:X0->D->X0}{g:Z->Option (DI W)}{p:Z->DI W->Z}{mk:X0->Res D}{ck:Z->Res (List Int)}(d:∀s,get (rep s)=(g s).map (aS e))(c:∀s F,set (rep s) (aS e F)=rep (p s F))(a:EJ rep (o0 D.int) mk ck):NJ rep e (lB get set mk) (ut g p ck):=λs=>by
 have a:=a s;unfold lB ut;rw[d];cases g s with
 |none=>trivial
 |some F=>
   show SimO rep e (ur set (aS e F) (rep s) (mk (rep s))) (bndO (ck s) s _);refine SimR.el a (λk=>?_) (λ_=>rfl) λ_=>trivial;show SimO rep e (ur set (aS e F) (rep s) (.ok (.tup (k.map D.int)))) (match F.get k with|some x=>OutC.ok x (p s (F.del k))|none=>.bad);cases b:F.get k with
   |none=>trivial
   |some x=>
     unfold ur;dsimp only;rw[Fg b];show Out.ok _ _=Out.ok _ _;rw[c]
end
section
variable{Z σ' W X M L:Type}{rep:Z->X0}{eR:X->D}
@[simp] def Js(o:OutC Z W)(k:W->Z->FlC Z X):FlC Z X:=match o with
 |.ok a s=>k a s
 |.exc x s=>.exc x s
 |.bad=>.bad
theorem SimS.bd{e:W->M}{r:Out M}{q:OutC Z W}{k:M->X0->SO}{l:W->Z->FlC Z X}(h:SimO rep e r q)(b:∀a s,SimS rep eR (k (e a) (rep s)) (l a s)):SimS rep eR (fG r k) (Js q l):=by
 cases q with
 |ok a s=>rw[show r=_ from h];exact b a s
 |exc x s=>rw[show r=_ from h];exact rfl
 |bad=>trivial
theorem SimS.ite{p:Prop}[Decidable p]{r a:SO}{q b:FlC Z X}(h:SimS rep eR r q)(h':SimS rep eR a b):SimS rep eR (if p then r else a) (if p then q else b):=by
 by_cases z:p
 ·rw[Vo z,Vo z];exact h
 ·rw[on z,on z];exact h'
@[simp] def ak(a b:Z->FlC Z X):Z->FlC Z X:=λs=>match a s with
 |.nx c=>b c
 |o=>o
theorem aa{a b:X0->SO}{c d:Z->FlC Z X}(e:TJ rep eR a c)(g:TJ rep eR b d):TJ rep eR (ah a b) (ak c d):=λs=>by
 have e:=e s;unfold ah ak;cases q:c s with
 |nx f=>rw[q]at e;rw[show a (rep s)=_ from e];exact g f
 |rt b f=>rw[q]at e;rw[show a (rep s)=_ from e];rfl
 |bk f=>rw[q]at e;rw[show a (rep s)=_ from e];rfl
 |ct f=>rw[q]at e;rw[show a (rep s)=_ from e];rfl
 |exc x f=>rw[q]at e;rw[show a (rep s)=_ from e];rfl
 |bad=>trivial
@[simp] def bP:Z->FlC Z X:=λs=>.nx s
@[simp] def sL:Z->FlC Z X:=λ_=>.bad
theorem aQ:TJ rep eR bj bP:=λs=>rfl
theorem gX{m:X0->SO}:TJ rep eR m sL:=λs=>trivial
@[simp] def bp(c:Z->OutC Z X):Z->FlC Z X:=λs=>Js (c s) λb s=>.rt b s
theorem aE{m:X0->Out D}{c:Z->OutC Z X}(h:NJ rep eR m c):TJ rep eR (bA m) (bp c):=λs=>SimS.bd (h s) λb s=>rfl
@[simp] def JU(b:X):Z->FlC Z X:=λs=>.rt b s
theorem GP{b:X}(h:eR b=.non):TJ rep eR Hi (JU b):=λs=>by show SO.rt .non _=SO.rt (eR b) _;rw[h]
@[simp] def ar(c:Z->OutC Z W):Z->FlC Z X:=λs=>Js (c s) λ_ s=>.nx s
theorem aj{e:W->D}{m:X0->Out D}{c:Z->OutC Z W}(h:NJ rep e m c):TJ rep eR (au m) (ar c):=λs=>SimS.bd (h s) λb s=>rfl
@[simp] def a6(u:W->Z->Z)(c:Z->OutC Z W):Z->FlC Z X:=λs=>Js (c s) λa s=>.nx (u a s)
theorem LH{e:W->D}{i:Nat}{m:X0->Out D}{c:Z->OutC Z W}{u:W->Z->Z}(b:∀a s,(rep s).set i (some (e a))=rep (u a s))(h:NJ rep e m c):TJ rep eR (aV i m) (a6 u c):=λs=>SimS.bd (h s) λa s=>by show SO.nx _=SO.nx _;rw[b]
@[simp] def iL(t:Z->OutC Z Bool)(a b:Z->FlC Z X):Z->FlC Z X:=λs=>Js (t s) λc s=>if c=true then a s else b s
theorem bg{t:X0->Out Bool}{a b:X0->SO}{ct:Z->OutC Z Bool}{c d:Z->FlC Z X}(e:NJ rep (id:Bool->Bool) t ct)(g:TJ rep eR a c)(f:TJ rep eR b d):TJ rep eR (gN t a b) (iL ct c d):=λs=>SimS.bd (e s) λt s=>SimS.ite (g s) (f s)
def mU(u:W->Z->Z)(b:Z->FlC Z X):List W->Z->FlC Z X
 |[],s=>.nx s
 | a::r,s=>match b (u a s) with
   |.nx c=>mU u b r c
   |.ct c=>mU u b r c
   |.bk c=>.nx c
   |o=>o
theorem qB{e:W->D}{i:D->X0->Option X0}{d:X0->SO}{u:W->Z->Z}{c:Z->FlC Z X}(j:∀a s,i (e a) (rep s)=some (rep (u a s)))(h:TJ rep eR d c):∀(xs:List W) (s:Z),SimS rep eR (rp i d (xs.map e) (rep s)) (mU u c xs s)
 |[],s=>rfl
 | a::r,s=>by
   have f:=h (u a s);rw[List.map_cons];unfold rp mU;rw[j];dsimp only;cases q:c (u a s) with
   |nx g=>rw[q]at f;rw[show d (rep (u a s))=_ from f];exact qB j h r g
   |ct g=>rw[q]at f;rw[show d (rep (u a s))=_ from f];exact qB j h r g
   |bk g=>rw[q]at f;rw[show d (rep (u a s))=_ from f];rfl
   |rt b g=>rw[q]at f;rw[show d (rep (u a s))=_ from f];rfl
   |exc x g=>rw[q]at f;rw[show d (rep (u a s))=_ from f];rfl
   |bad=>trivial
@[simp] def dW(src:Z->Res (List W))(u:W->Z->Z)(a:Z->FlC Z X):Z->FlC Z X:=λs=>match src s with
 |.ok xs=>mU u a xs s
 |.exc x=>.exc x s
 |.bad=>.bad
theorem bZ{e:W->D}{src:X0->Res (List D)}{b:Z->Res (List W)}{f:D->X0->Option X0}{d:X0->SO}{u:W->Z->Z}{c:Z->FlC Z X}(g:EJ rep (List.map e) src b)(i:∀a s,f (e a) (rep s)=some (rep (u a s)))(h:TJ rep eR d c):TJ rep eR (dt (aw src) f d) (dW b u c):=λs=>by
 have g:=g s;unfold dt aw dW;refine SimR.el g (λxs=>?_) (λ_=>rfl) λ_=>trivial;exact qB i h xs s
def LD(t:Z->OutC Z Bool)(a:Z->FlC Z X):Nat->Z->FlC Z X
 |0,_=>.bad
 | n+1,s=>match t s with
   | .ok true b=>(match a b with
     |.nx c=>LD t a n c
     |.ct c=>LD t a n c
     |.bk c=>.nx c
     |o=>o)
   |.ok false b=>.nx b
   |.exc x b=>.exc x b
   |.bad=>.bad
theorem BF{t:X0->Out Bool}{a:X0->SO}{ct:Z->OutC Z Bool}{c:Z->FlC Z X}(i:NJ rep (id:Bool->Bool) t ct)(h:TJ rep eR a c):∀n,TJ rep eR (xG t a n) (LD ct c n)
 |0=>λs=>trivial
 | n+1=>λs=>by
   have g:=i s;unfold xG LD;cases q:ct s with
   |ok b e=>
     rw[q]at g;rw[show t (rep s)=_ from g];cases b with
     |false=>rfl
     |true=>
       have d:=h e;show SimS rep eR (match a (rep e) with | .nx G=>xG t a n G | .ct G=>xG t a n G | .bk G=>.nx G | o=>o) _;dsimp only;cases q:c e with
       |nx f=>rw[q]at d;rw[show a (rep e)=_ from d];exact BF i h n f
       |ct f=>rw[q]at d;rw[show a (rep e)=_ from d];exact BF i h n f
       |bk f=>rw[q]at d;rw[show a (rep e)=_ from d];rfl
       |rt b f=>rw[q]at d;rw[show a (rep e)=_ from d];rfl
       |exc x f=>rw[q]at d;rw[show a (rep e)=_ from d];rfl
       |bad=>trivial
   |exc x e=>rw[q]at g;rw[show t (rep s)=_ from g];rfl
   |bad=>trivial
@[simp] def ik(g:Z->Option (DI W))(p:Z->DI W->Z)(ck:Z->Res (List Int))(a:Z->OutC Z W):Z->FlC Z X:=λs=>Js (a s) λx s=>match g s with
 |none=>.bad
 | some F=>(match ck s with
   |.ok k=>if F.length<ac then .nx (p s (F.put k x)) else .bad
   |.exc y=>.exc y s
   |.bad=>.bad)
theorem dH{e:W->D}{get:X0->Option D}{set:X0->D->X0}{g:Z->Option (DI W)}{p:Z->DI W->Z}{mk:X0->Res D}{ck:Z->Res (List Int)}{b:X0->Out D}{c:Z->OutC Z W}(i:∀s,get (rep s)=(g s).map (aS e))(f:∀s F,set (rep s) (aS e F)=rep (p s F))
 (a:EJ rep (o0 D.int) mk ck) (d:NJ rep e b c):TJ rep eR (eQ get set mk b) (ik g p ck c):=λs=>SimS.bd (d s) λx s=>by
 have a:=a s;rw[i];cases g s with
 |none=>trivial
 |some F=>
   show SimS rep eR (lA set (e x) (aS e F) (rep s) (mk (rep s))) _;dsimp only;refine SimR.el a (λk=>?_) (λ_=>rfl) λ_=>trivial;show SimS rep eR (lA set (e x) (aS e F) (rep s) (.ok (.tup (k.map D.int)))) (if F.length<ac then FlC.nx (p s (F.put k x)) else .bad);by_cases h:F.length<ac
   ·rw[if_pos h];unfold lA;dsimp only;rw[Ff h];show SO.nx _=SO.nx _;rw[f]
   ·rw[on h];trivial
@[simp] def K7(g:Z->Option (List W))(p:Z->List W->Z)(ck:Z->Res Int)(a:Z->OutC Z W):Z->FlC Z X:=λs=>Js (a s) λx s=>match g s with
 |none=>.bad
 | some xs=>(match ck s with
   |.ok i=>(match mN xs.length i with|some j=>.nx (p s (xs.set j x))|none=>.bad)
   |.exc y=>.exc y s
   |.bad=>.bad)
theorem GQ{e:W->D}{get:X0->Option D}{set:X0->D->X0}{g:Z->Option (List W)}{p:Z->List W->Z}{mk:X0->Res D}{ck:Z->Res Int}{b:X0->Out D}{c:Z->OutC Z W}(h:∀s,get (rep s)=(g s).map (eL e))(f:∀s F,set (rep s) (eL e F)=rep (p s F))
 (a:EJ rep D.int mk ck) (d:NJ rep e b c):TJ rep eR (lg get set mk b) (K7 g p ck c):=λs=>SimS.bd (d s) λx s=>by
 have a:=a s;rw[h];cases g s with
 |none=>trivial
 |some xs=>
   show SimS rep eR (yM set (e x) (xs.map e) (rep s) (mk (rep s))) _;dsimp only;refine SimR.el a (λi=>?_) (λ_=>rfl) λ_=>trivial;show SimS rep eR (match mN (xs.map e).length i with|some j=>.nx (set (rep s) (.lst ((xs.map e).set j (e x))))|none=>.bad) _;rw[List.length_map];dsimp only;cases mN xs.length i with
   |none=>trivial
   |some j=>
     show SO.nx _=SO.nx _;rw[<-Y6];exact congrArg _ (f s _)
@[simp] def a8(d:Option X):FlC Z X->OutC Z X
 |.nx s=>(match d with|some b=>.ok b s|none=>.bad)
 |.rt b s=>.ok b s
 |.exc x s=>.exc x s
 |_=>.bad
theorem da{k:Nat}{ds:List D}{a:X0->SO}{c:Z->FlC Z X}{s:Z}{d:X}(hd:eR d=.non)(h:TJ rep eR a c)(f:ds.map some++List.replicate (k-ds.length) none=rep s):SimO rep eR (Mi.run k a ds) (a8 (some d) (c s)):=by
 have h:=h s;unfold Mi.run;rw[f];cases q:c s with
 |nx e=>rw[q]at h;rw[show a (rep s)=_ from h];show Out.ok .non _=Out.ok (eR d) _;rw[hd]
 |rt b e=>rw[q]at h;rw[show a (rep s)=_ from h];rfl
 |exc x e=>rw[q]at h;rw[show a (rep s)=_ from h];rfl
 |_=>trivial
theorem eM{k:Nat}{ds:List D}{a:X0->SO}{c:Z->FlC Z X}{s:Z}(h:TJ rep eR a c)(e:ds.map some++List.replicate (k-ds.length) none=rep s):SimO rep eR (Mi.run k a ds) (a8 none (c s)):=by
 have h:=h s;unfold Mi.run;rw[e];cases q:c s with
 |rt b d=>rw[q]at h;rw[show a (rep s)=_ from h];rfl
 |exc x d=>rw[q]at h;rw[show a (rep s)=_ from h];rfl
 |_=>trivial
theorem cw{k:Nat}{ds:List D}{a:X0->SO}{c:Z->FlC Z X}{s:Z}(h:TJ rep eR a c)(e:ds.map some++List.replicate (k-ds.length) none=rep s):SimO rep eR (eZ k a ds) (a8 none (c s)):=by
 have h:=h s;unfold eZ;rw[e];cases q:c s with
 |rt b d=>rw[q]at h;rw[show a (rep s)=_ from h];rfl
 |exc x d=>rw[q]at h;rw[show a (rep s)=_ from h];rfl
 |_=>trivial
end
section
variable{Z W X:Type}{rep:Z->X0}{eR:X->D}
theorem xp{e:W->D}{i:Nat}{g:Z->W}(h:∀s,rg (rep s) i=some (e (g s)):=by exact λ_=>rfl):EJ rep e (vr i) (pC g):=OQ h
theorem xv{e:W->D}{i:Nat}{g:Z->Option W}(h:∀s,rg (rep s) i=(g s).map e:=by exact λ_=>rfl):EJ rep e (vr i) (vC g):=OO h
theorem xk{e:W->D}{d:D}{a:W}(h:e a=d:=by rfl):EJ rep e (ay d) (kC a):=rF h
theorem xs{e:W->D}{i:Nat}{m:X0->Out D}{c:Z->OutC Z W}{u:W->Z->Z}(h:NJ rep e m c)(b:∀a s,(rep s).set i (some (e a))=rep (u a s):=by exact λ_ _=>rfl):TJ rep eR (aV i m) (a6 u c):=LH b h
end
section
variable{Z σ' W X M L τ:Type}
theorem kE{u:W->Z->Z}{c:Z->FlC Z X}(R:τ->Z->Prop)(step:τ->W->τ):∀(l:List W) (b:τ) (s:Z),R b s->
 (∀b a s,a∈l->R b s->∃d,(c (u a s)=.nx d\/c (u a s)=.ct d)/\R (step b a) d)->∃d,mU u c l s=.nx d/\R (l.foldl step b) d
 |[],b,s,h,_=>⟨s,rfl,h⟩
 | a::l,b,s,h,st=>by
   obtain⟨g,f,j⟩:=st b a s List.mem_cons_self h;obtain⟨d,e,h'⟩:=kE R step l (step b a) g j λb c s i=>st b c s (List.mem_cons_of_mem _ i);refine⟨d,?_,h'⟩;unfold mU;rcases f with f|f<;>(rw[f];exact e)
theorem uj{u:W->Z->Z}{c:Z->FlC Z X}(R:Z->Prop)(l:List W)(s:Z)(h:R s)(st:∀a s,a∈l->R s->∃b,(c (u a s)=.nx b\/c (u a s)=.ct b)/\R b):∃b,mU u c l s=.nx b/\R b:=by
 obtain⟨b,e,h'⟩:=kE (τ:=Unit) (λ_ s=>R s) (λ_ _=>()) l () s h λ_ a s f d=>st a s f d;exact⟨b,e,h'⟩
theorem cu{u:W->Z->Z}{c:Z->FlC Z X}(R:List W->Z->Prop)(l:List W)(s:Z)(h:R [] s)(st:∀p a r s,l=p++a::r->R p s->∃b,(c (u a s)=.nx b\/c (u a s)=.ct b)/\R (p++[a]) b):∃b,mU u c l s=.nx b/\R l b:=by
 have f:∀(r p:List W) (s:Z),l=p++r->R p s->∃b,mU u c r s=.nx b/\R l b:=by
  intro r
  induction r with
  |nil=>intro p s e h;rw[V3]at e;exact⟨s,rfl,by rw[e];exact h⟩
  |cons a r i=>
    intro p s e h;obtain⟨g,d,j⟩:=st p a r s e h;obtain⟨b,k,h'⟩:=i (p++[a]) g (by rw[e];simp) j;refine⟨b,?_,h'⟩;unfold mU;rcases d with d|d<;>(rw[d];exact k)
 exact f l [] s rfl h
theorem xH{t:Z->OutC Z Bool}{c:Z->FlC Z X}(R:Nat->Z->Prop)(S:Z->Prop)(st:∀n s,R n s->(t s=.ok false s/\S s)\/(t s=.ok true s/\∃m a,m<n/\(c s=.nx a\/c s=.ct a)/\R m a)):
 ∀(fuel n:Nat) (s:Z),R n s->n<fuel->∃b,LD t c fuel s=.nx b/\S b
 |0,n,s,h,g=>absurd g (Nat.not_lt_zero _)
 | fuel+1,n,s,h,g=>by
   unfold LD;rcases st n s h with ⟨e,f⟩|⟨e,m,a,k,d,i⟩
   ·rw[e];exact⟨s,rfl,f⟩
   ·rw[e];obtain⟨b,j,f⟩:=xH R S st fuel m a i (by omega);refine⟨b,?_,f⟩;dsimp only;rcases d with d|d<;>(rw[d];exact j)
theorem qg{d:W->Res Bool}{te:W->Res X}(p:W->Bool)(g:W->X):∀l:List W,(∀a∈l,d a=.ok (p a))->(∀a∈l,p a=true->te a=.ok (g a))->gC d te l=.ok ((l.filter p).map g)
 |[],_,_=>rfl
 | a::l,h,f=>by
   have e:=qg p g l (λb c=>h b (List.mem_cons_of_mem _ c)) λb c=>f b (List.mem_cons_of_mem _ c);unfold gC;rw[h a List.mem_cons_self];show(if p a=true then _ else _)=_;cases hp:p a with
   |true=>
     rw[Vo rfl,f a Vt hp,e,Ws,Vo hp];rfl
   |false=>rw[on VC,e,Ws,on (by rw[hp];exact VC)]
theorem l3{src:Z->Res (List W)}{b:W×Z->Res Bool}{te:W×Z->Res X}{s:Z}{l:List W}(p:W->Bool)(g:W->X)(c:src s=.ok l)(d:l.length<ac)(f:∀a∈l,b (a,s)=.ok (p a))(e:∀a∈l,p a=true->te (a,s)=.ok (g a)):
 d9 src b te s=.ok ((l.filter p).map g):=by
 unfold d9;rw[c];show(if l.length<ac then _ else _)=_;rw[if_pos d];exact qg p g l f e
theorem j4{src:Z->Res (List W)}{te:W×Z->Res X}{s:Z}{l:List W}(g:W->X)(b:src s=.ok l)(c:l.length<ac)(e:∀a∈l,te (a,s)=.ok (g a)):
 d9 src (λ_=>.ok true) te s=.ok (l.map g):=by
 rw[l3 (λ_=>true) g b c (λ_ _=>rfl) λa d _=>e a d,List.filter_eq_self.mpr λ_ _=>rfl]
theorem kW(xs:List W){i:Int}(h:0<=i):j8 xs i=xs[i.toNat]?:=by
 unfold j8 mN;rw[if_pos h];by_cases z:i<xs.length
 ·rw[Vo z];rfl
 ·rw[on z,VP (by omega)];rfl
theorem vz(xs:List W):j8 xs (-1)=xs.getLast?:=by
 unfold j8 mN;rw[if_neg (by omega),List.getLast?_eq_getElem?];cases xs with
 |nil=>rfl
 |cons x r=>
   rw[Vo (by simp only[Vx];omega)];show(x::r)[(-1+((x::r).length:Int)).toNat]?=_;rw[show(-1+((x::r).length:Int)).toNat=(x::r).length-1 by omega]
theorem OF{n:Nat}{i:Int}(h:0<=i)(a:i<n):mN n i=some i.toNat:=by unfold mN;rw[if_pos h,if_pos a]
theorem bf(lo hi:Int):(bV lo hi).length=(hi-lo).toNat:=by unfold bV;simp
theorem c8{lo hi x:Int}:x∈bV lo hi↔lo<=x/\x<hi:=by
 unfold bV;rw[List.mem_map];constructor
 · rintro⟨i,a,rfl⟩
   have:=YA.mp a
   omega
 ·rintro⟨c,b⟩;exact⟨(x-lo).toNat,YA.mpr (by omega),by omega⟩
theorem xZ{lo hi x:Int}{p r:List Int}(h:bV lo hi=p++x::r):x=lo+p.length/\lo<=x/\x<hi:=by
 have b:x∈bV lo hi:=by rw[h];simp
 have a:=c8.mp b;have e:(bV lo hi)[p.length]?=some x:=by rw[h,V9 (VG _),XG];rfl
 unfold bV at e;rw[List.getElem?_map]at e
 have c:p.length<(hi-lo).toNat:=by
  have:=bf lo hi
  rw[h,Vw,Vx]at this;omega
 rw[Xg c]at e;injection e with e
 exact⟨e.symm,a⟩
theorem mq(lo hi:Int):(bV lo hi).Nodup:=by
 unfold bV;unfold List.Nodup;rw[List.pairwise_map];refine List.Pairwise.imp ?_ (List.nodup_range (n:=(hi-lo).toNat));intro a b h z;exact h (by omega)
theorem jJ{F:DI X}{k:List Int}{v:X}(h:F.get k=some v):(k,v)∈F:=by
 unfold DI.get at h;obtain⟨p,hp,rfl⟩:=Option.map_eq_some_iff.mp h
 have:=List.find?_some hp
 have e:p.1=k:=by simpa using this
 subst e;exact List.mem_of_find?_eq_some hp
theorem dL{P:List Int->Prop}{F:DI X}{k:List Int}{v:X}(h:∀p∈F,P p.1)(b:P k):∀p∈F.put k v,P p.1:=by
 intro p hp;unfold DI.put at hp;split at hp
 ·obtain⟨q,a,rfl⟩:=VV.mp hp;split<;>exact h q a
 · rcases Vy.mp hp with z|z
   ·exact h p z
   ·rw[VF.mp z];exact b
theorem eB{F:DI X}{k:List Int}{v:X}:(F.put k v).length<=F.length+1:=by
 unfold DI.put;split
 ·rw[Vr];omega
 ·rw[Vw];simp
def DI.nd(F:DI X):Prop:=(F.map (·.1)).Nodup
theorem fA{F:DI X}{k:List Int}{v:X}(h:DI.nd F):DI.nd (F.put k v):=by
 unfold DI.nd DI.put at *;by_cases q:(F.get k).isSome=true
 · rw[Vo q,Wl]
   have:(F.map ((·.1)∘λp=>if p.1=k then (p.1,v) else p))=F.map (·.1):=WJ λp _=>by
    show(if p.1=k then (p.1,v) else p).1=p.1;split<;>rfl
   rw[this];exact h
 · rw[on q,V7];refine VW.mpr ⟨h,by simp,λa d b c=>?_⟩;have e:b=k:=by simpa using c
   subst e;rintro rfl;obtain⟨p,hp,e⟩:=List.mem_map.mp d;apply q;unfold DI.get;rw[Option.isSome_map,List.find?_isSome];exact⟨p,hp,by simpa using e⟩
theorem jc{F:DI X}(h:DI.nd F){k:List Int}{v:X}(a:(k,v)∈F):F.get k=some v:=by
 unfold DI.nd at h
 induction F with
 |nil=>cases a
 |cons p F b=>
   rw[List.map_cons,List.nodup_cons]at h;unfold DI.get;rw[List.find?_cons];by_cases e:p.1=k
   · rw[Wu e];rcases VA.mp a with z|z
     ·rw[<-z];rfl
     ·exact absurd (VV.mpr ⟨(k,v),z,e.symm⟩) h.1
   · rw[V6 e];rcases VA.mp a with z|z
     ·exact absurd (by rw[<-z]) e
     ·exact b h.2 z
end
end Cl
namespace L2
open PySem PySem.Spec PyProof.Rows
theorem BQ{X:Cx}(K:F0)(h:X.K=K):Ur X (L8 K):=by subst h;exact Hc
end L2
namespace Mi
open PySem L2
def Fe:D->D->Res D
 |.lst xs,.int k=>if 0<=k then .ok (.lst (xs.drop k.toNat)) else .bad
 |.scr xs,.int k=>if 0<=k then .ok (.lst (xs.drop k.toNat)) else .bad
 |_,_=>.bad
theorem uB{k:Int}(h:0<=k)(xs:List V):Ba xs (some k) none=xs.drop k.toNat:=by
 unfold Ba;have e:HT.tF xs.length 0 (some k)=min k.toNat xs.length:=by show(if k<0 then _ else _)=_;rw[if_neg (by omega)]
 rw[e,HT.BW];by_cases z:k.toNat<=xs.length
 ·rw[Nat.min_eq_left z,List.take_of_length_le (by rw[List.length_drop];omega)]
 ·rw[Nat.min_eq_right (by omega),XG,List.take_zero,Yo (by omega)]
section
variable{Y:Cm}{E:XK}{ms:List Md}{Kr:KT D V}{pr:Nat->Bool}
theorem M4{ta tb:TE}{l j:X0->Res D}(q:PJ Y (KC Y .F) E ms ta l)(o:PJ Y (KR Y .X) E ms tb j):PJ Y (KO Y (.ct .fz)) E ms (Uy (L8 Y.K) ta (JM tb) xK) (bn Fe l j):=by
 intro B U As Z H T Q R P;refine q.bnd R P λx v I U1 H1 W _ r e1 w J s=>o.bnd r s λy u n m i A _ R2 d t e c=>?_;have J:Cn Y I H1 x v:=J;have e:Dn Y i y u:=e;cases y with
 |int k=>
   rw[Dn]at e;subst e;refine⟨k,rfl,?_⟩;cases x with
   |lst ds=>
     obtain⟨a,xs,rfl,g,f⟩:=J;replace c:Po Y (KO Y (.ct .fz)) E ms n m As Z i T (if 0<=k then .ok (.lst (ds.drop k.toNat)) else .bad) Q:=c;by_cases z:0<=k
     ·rw[Vo z]at c;refine⟨a,xs,rfl,SqL.of (d.h _ _ g),λp hp=>?_⟩;rw[uB z];exact dR R2 c ((f.mono d.b).drop _) hp
     ·rw[on z]at c;exact c.elim
   |scr ds=>
     obtain⟨a,xs,rfl,g,f⟩:=J;replace c:Po Y (KO Y (.ct .fz)) E ms n m As Z i T (if 0<=k then .ok (.lst (ds.drop k.toNat)) else .bad) Q:=c;by_cases z:0<=k
     ·rw[Vo z]at c;refine⟨a,xs,rfl,(g.mono d.h).sq,λp hp=>?_⟩;rw[uB z];exact dR R2 c ((f.mono d.b).drop _) hp
     ·rw[on z]at c;exact c.elim
   |_=>exact c.elim
 |_=>cases x<;>exact c.elim
open Classical in
end
end Mi
namespace Cl
open PySem L2 Mi
section
variable{Z W X M L:Type}{rep:Z->X0}{eR:X->D}
@[simp] def Li(xs:List W)(k:Int):Res (List W):=if 0<=k then .ok (xs.drop k.toNat) else .bad
theorem Ir(xs:List Int)(k:Int):SimR (eL D.int) (Fe (eS xs) (.int k)) (Li xs k):=by
 show SimR (eL D.int) (if 0<=k then .ok (.lst ((xs.map D.int).drop k.toNat)) else .bad) (if 0<=k then .ok (xs.drop k.toNat) else .bad);rw[<-List.map_drop];exact SimR.ite rfl trivial
open Classical in
end
end Cl
namespace Mi
open PySem L2
section
variable{Y:Cm}{E:XK}{ms:List Md}{K:F0}
structure Prt (Y:Cm) (ms:List Md) (t:TE) (get:X0->Option D) (set:X0->D->X0) (i:Nat) (s:Sh):Prop where
 rd:∀{B U:Hp} {As:Nat->List Addr} {Z:St} {H:Hp} {T:X0} {d:D},Rel Y ms B U As Z H T->get T=some d->∃sh v0 d0 v L A R,ms.getD i .F= .O sh/\rg Z i=some v0/\rg T i=some d0/\As i=L++(A++R)/\(∀Q:VK,Q v H->t Z H Q)/\Ow Y B H d s v A/\
  ∀I H1 d' A1,Same B I->(∀a,a∈L\/a∈R->H1 a=H a)->Ow Y I H1 d' s v A1->∃D',Ow Y I H1 D' sh v0 (L++(A1++R))/\set T d'=T.set i (some D')
theorem UQ{i:Nat}{sh:Sh}(b:ms.getD i .F= .O sh):Prt Y ms (bI i) (bK i) (cM i) i sh where
 rd:=λ{B U As Z H T d} R e=>by
  replace e:rg T i=some d:=e;have l:=R.lo i;rw[e,b]at l;obtain⟨v,a,w⟩:=l;exact⟨sh,v,d,v,[],As i,[],b,a,e,by simp,λQ q=>⟨v,bM a,q⟩,w,λI H1 d' A1 _ _ c=>⟨d',by simpa using c,rfl⟩⟩
theorem Owf.lens{sh:List (Str×Sh)}{f:Str}{B H:Hp}:∀{fs:List (Str×V)} {ds:List D} {A:List Addr} {d:D},Owf Y B H ds (fs.map (·.1)) sh (fs.map (·.2)) A->aT (fs.map (·.1)) ds f=some d->
 ∃v L A1 R,fs.lookup f=some v/\A=L++(A1++R)/\Ow Y B H d ((sh.lookup f).getD .fz) v A1/\∀I H1 d' g,Same B I->(∀a,a∈L\/a∈R->H1 a=H a)->Ow Y I H1 d' ((sh.lookup f).getD .fz) v g->Owf Y I H1 (c7 (fs.map (·.1)) ds f d') (fs.map (·.1)) sh (fs.map (·.2)) (L++(g++R))
 |[],ds,A,d,h,e=>by cases ds<;>cases e
 | p::fs,ds,A,d,h,e=>by
   cases ds with
   |nil=>cases e
   |cons d0 ds=>
     rw[List.map_cons,List.map_cons,Owf]at h;obtain⟨n,t,x,r,l,o,y,h0,E,j,m⟩:=h;cases y;cases h0;subst E;rw[List.map_cons]at e;unfold aT at e;by_cases q:p.1=f
     ·rw[Vo q]at e;cases e;rw[q]at j;refine⟨p.2,[],l,o,by rw[V1,<-q,WL],rfl,j,λI H1 d' g i k w=>?_⟩;rw[Vq,Vq,c7,Vo q,Owf];exact⟨p.1,_,p.2,_,g,o,rfl,rfl,rfl,by rw[q];exact w,Owf.mono i (λb c=>k b (.inr c)) m⟩
     ·rw[on q]at e;obtain⟨v,L,A1,R,u,C,s,F⟩:=Owf.lens m e;have c:(f==p.1)=false:=V5.mpr λz=>q z.symm;refine⟨v,l++L,A1,R,by rw[V1,c];exact u,by rw[C,Wk],s,λI H1 d' g i k w=>?_⟩;rw[Vq,Vq,c7,on q,Owf];exact⟨p.1,_,p.2,_,l,L++(g++R),rfl,rfl,by rw[Wk],Ow.mono i (λb c=>k b (.inl (VB _ c))) j,F I H1 d' g i (λb c=>k b (c.imp (λz=>Vs _ z) id)) w⟩
theorem Ows.lens{s:Sh}{B H:Hp}:∀{ds:List D} {xs:List V} {A:List Addr} {n:Nat} {d:D},Ows Y B H ds s xs A->ds[n]?=some d->
 ∃v L A1 R,xs[n]?=some v/\A=L++(A1++R)/\Ow Y B H d s v A1/\∀I H1 d' c,Same B I->(∀a,a∈L\/a∈R->H1 a=H a)->Ow Y I H1 d' s v c->Ows Y I H1 (ds.set n d') s xs (L++(c++R))
 |[],xs,A,n,d,h,e=>by cases e
 | d0::ds,xs,A,n,d,h,e=>by
   rw[Ows]at h;obtain⟨x,r,i,m,rfl,t,l,j⟩:=h;subst t;cases n with
   |zero=>
     cases e;refine⟨x,[],i,m,rfl,rfl,l,λI H1 d' c g k w=>?_⟩;rw[XQ,Ows];exact⟨x,r,c,m,rfl,rfl,w,Ows.mono g (λb f=>k b (.inr f)) j⟩
   |succ n=>
     obtain⟨v,L,A1,R,p,q,o,u⟩:=Ows.lens (n:=n) j (by simpa using e);refine⟨v,i++L,A1,R,by simpa using p,by rw[q,Wk],o,λI H1 d' c g k w=>?_⟩;rw[XR,Ows];exact⟨x,r,i,L++(c++R),rfl,by rw[Wk],Ow.mono g (λb f=>k b (.inl (VB _ f))) l,u I H1 d' c g (λb f=>k b (f.imp (λz=>Vs _ z) id)) w⟩
def gO(get:X0->Option D)(c:Nat)(f:Str):X0->Option D:=λT=>match get T with
 |some (.obj a ns vs)=>if a=c then aT ns vs f else none
 |_=>none
def k8(get:X0->Option D)(set:X0->D->X0)(f:Str):X0->D->X0:=λT d=>match get T with
 |some (.obj c ns vs)=>set T (.obj c ns (c7 ns vs f d))
 |_=>T
theorem Ow.ob{B H:Hp}{c:Nat}{ns:List Str}{ds:List D}{fs:List (Str×Sh)}{v:V}{A:List Addr}(w:Ow Y B H (.obj c ns ds) (.ob fs) v A):∃(a dx:Addr) (xs:List (Str×V)) (b:List Addr),v=.ref a/\H a=some (.ins (Y c) dx xs)/\xs.map (·.1)=ns/\A=a::b/\Owf Y B H ds ns fs (xs.map (·.2)) b:=by rw[Ow]at w;exact w
theorem Ow.ob'{B H:Hp}{c:Nat}{ds:List D}{fs:List (Str×Sh)}{a dx:Addr}{xs:List (Str×V)}{b:List Addr}(h:H a=some (.ins (Y c) dx xs))(k:Owf Y B H ds (xs.map (·.1)) fs (xs.map (·.2)) b):Ow Y B H (.obj c (xs.map (·.1)) ds) (.ob fs) (.ref a) (a::b):=by rw[Ow];exact⟨a,dx,xs,b,rfl,h,rfl,rfl,k⟩
theorem Ow.ls{B H:Hp}{ds:List D}{s:Sh}{v:V}{A:List Addr}(w:Ow Y B H (.lst ds) (.ct s) v A):∃(a:Addr) (xs:List V) (b:List Addr),v=.ref a/\H a=some (.lst xs)/\A=a::b/\Ows Y B H ds s xs b:=by rw[Ow]at w;exact w
theorem Ow.ls'{B H:Hp}{ds:List D}{s:Sh}{a:Addr}{xs:List V}{b:List Addr}(h:H a=some (.lst xs))(k:Ows Y B H ds s xs b):Ow Y B H (.lst ds) (.ct s) (.ref a) (a::b):=by rw[Ow];exact⟨a,xs,b,rfl,h,rfl,k⟩
theorem US{t:TE}{get:X0->Option D}{set:X0->D->X0}{i c:Nat}{f:Str}{fs:List (Str×Sh)}{s:Sh}(p:Prt Y ms t get set i (.ob fs))(V:Cls K (Y c))(O:NoAttr K (Y c) f)(S:(fs.lookup f).getD .fz=s):
 Prt Y ms (l6 K t f) (gO get c f) (k8 get set f) i s where
 rd:=λ{B U As Z H T d} R e=>by
  unfold gO at e;cases e0:get T with
  |none=>rw[e0]at e;cases e
  |some J=>
    cases J with
    |obj n ns vs=>
      rw[e0]at e;replace e:(if n=c then aT ns vs f else none)=some d:=e;by_cases q:n=c
      ·subst q;rw[if_pos rfl]at e;obtain⟨sh,y,d0,v,L,A,o,P,G,hd,W,N,C,cl⟩:=p.rd R e0;obtain⟨a,dx,xs,A',rfl,m,rfl,rfl,X⟩:=C.ob;obtain⟨u,L2,A1,R2,M,rfl,g,h⟩:=Owf.lens X e;rw[S]at g h;refine⟨sh,y,d0,u,L++(a::L2),A1,R2++o,P,G,hd,by rw[W];simp[List.append_assoc],λQ q=>N _ ⟨a,_,dx,xs,u,rfl,m,V,O,M,q⟩,g,λI H1 d' A2 l k w=>?_⟩;have F:∀b,b∈L\/b∈o->H1 b=H b:=λb j=>k b (j.imp (λz=>List.mem_append_left _ z) λz=>List.mem_append_right _ z);have E:H1 a=H a:=k a (.inl (List.mem_append_right _ List.mem_cons_self));have x:=h I H1 d' A2 l (λb j=>k b (j.imp (λz=>List.mem_append_right _ (List.mem_cons_of_mem _ z)) λz=>List.mem_append_left _ z)) w;obtain⟨D',r,e3⟩:=cl I H1 _ _ l F (Ow.ob' (by rw[E];exact m) x);refine⟨D',by simpa [List.append_assoc] using r,?_⟩;unfold k8;rw[e0];exact e3
      ·rw[on q]at e;cases e
    |_=>rw[e0]at e;cases e
def Vl(Y:Cm)(ms:List Md)(a:TE)(mk:X0->Option Int):Prop:=∀{B U:Hp} {As:Nat->List Addr} {Z:St} {H:Hp} {T:X0} {k:Int},Rel Y ms B U As Z H T->mk T=some k->∀Q:VK,Q (.int k) H->a Z H Q
def By(j:Nat):X0->Option Int:=λT=>match rg T j with
 |some (.int k)=>some k
 |_=>none
theorem OD{j:Nat}:Vl Y ms (bI j) (By j):=λ{B U As Z H T k} R e Q q=>by
 unfold By at e;have l:=R.lo j;cases e0:rg T j with
 |none=>rw[e0]at e;cases e
 |some d=>
   cases d with
   |int n=>
     rw[e0]at e l;cases e;obtain⟨v,b,w⟩:=l
     have:v=.int k:=by
      cases a:ms.getD j .F with
      |F=>rw[a]at w;have w:=w.1;rw[Dn]at w;exact w
      |R=>rw[a]at w;have w:=w.1;rw[Dn]at w;exact w
      |O s=>
        rw[a]at w;cases s with
        |fz=>have w:Ow Y B H (.int k) .fz v (As j):=w;rw[Ow]at w;have w:=w.1;rw[Dn]at w;exact w
        |ct s=>have w:Ow Y B H (.int k) (.ct s) v (As j):=w;simp[Ow]at w
        |ob s=>have w:Ow Y B H (.int k) (.ob s) v (As j):=w;simp[Ow]at w
     subst this;exact⟨_,bM b,q⟩
   |_=>rw[e0]at e;cases e
def jK(get:X0->Option D)(mk:X0->Option Int):X0->Option D:=λT=>match get T,mk T with
 |some (.lst xs),some k=>if 0<=k then xs[k.toNat]? else none
 |_,_=>none
def k7(get:X0->Option D)(set:X0->D->X0)(mk:X0->Option Int):X0->D->X0:=λT d=>match get T,mk T with
 |some (.lst xs),some k=>set T (.lst (xs.set k.toNat d))
 |_,_=>T
theorem UR{t j:TE}{get:X0->Option D}{set:X0->D->X0}{mk:X0->Option Int}{i:Nat}{s:Sh}(p:Prt Y ms t get set i (.ct s))(P:Vl Y ms j mk):Prt Y ms (sQ (Hl K) t j) (jK get mk) (k7 get set mk) i s where
 rd:=λ{B U As Z H T d} R e=>by
  unfold jK at e;cases e0:get T with
  |none=>rw[e0]at e;cases e
  |some J=>
    cases J with
    |lst ds=>
      cases e1:mk T with
      |none=>rw[e0,e1]at e;cases e
      |some k=>
        rw[e0,e1]at e;replace e:(if 0<=k then ds[k.toNat]? else none)=some d:=e;by_cases q:0<=k
        ·rw[if_pos q]at e;obtain⟨sh,x,d0,v,L,A,n,O,G,hd,S,N,C,X⟩:=p.rd R e0;obtain⟨a,xs,A',rfl,m,rfl,V⟩:=C.ls;obtain⟨u,L2,A1,R2,M,rfl,c,h⟩:=Ows.lens V e;refine⟨sh,x,d0,u,L++(a::L2),A1,R2++n,O,G,hd,by rw[S];simp[List.append_assoc],λQ y=>N _ (P R e1 _ ⟨a,xs,k,u,rfl,rfl,SqL.of m,by rw[Cl.kW xs q];exact M,y⟩),c,λI H1 d' A2 l f w=>?_⟩;have F:∀b,b∈L\/b∈n->H1 b=H b:=λb g=>f b (g.imp (λz=>List.mem_append_left _ z) λz=>List.mem_append_right _ z);have E:H1 a=H a:=f a (.inl (List.mem_append_right _ List.mem_cons_self));have r:=h I H1 d' A2 l (λb g=>f b (g.imp (λz=>List.mem_append_right _ (List.mem_cons_of_mem _ z)) λz=>List.mem_append_left _ z)) w;obtain⟨D',o,W⟩:=X I H1 _ _ l F (Ow.ls' (by rw[E];exact m) r);refine⟨D',by simpa [List.append_assoc] using o,?_⟩;unfold k7;rw[e0,e1];exact W
        ·rw[on q]at e;cases e
    |_=>rw[e0]at e;cases e
theorem UM{t:TE}{get:X0->Option D}{set:X0->D->X0}{i:Nat}(p:Prt Y ms t get set i (.ct .fz)):Pth Y ms t get set where
 rd:=λ{B U As Z H T d} R e=>by
  obtain⟨sh,N,d0,v,L,A,M,F,C,hd,g,E,y,J⟩:=p.rd R e;have nd:=R.nd i;rw[g]at nd;obtain⟨_,k,j⟩:=VW.mp nd;obtain⟨_,_,h⟩:=VW.mp k;refine⟨v,A,E,y,λa f=>⟨i,by rw[g];exact Vs _ (VB _ f)⟩,λI U1 H1 K w x a f o' d' u=>?_⟩;have q:a∈As i:=by rw[g];exact Vs _ (VB _ f)
  have l:∀b,b∈L\/b∈M->upd H1 a o' b=H b:=λb c=>by
   have n:b∈As i:=by
    rw[g];rcases c with c|c
    ·exact VB _ c
    ·exact Vs _ (Vs _ c)
   have m:b≠a:=λz=>by
    subst z;rcases c with c|c
    ·exact j b c b (VB _ f) rfl
    ·exact h b f b c rfl
   rw[am m];obtain⟨o,r⟩:=R.at n;rw[r,x _ _ r]
  obtain⟨O,s,G⟩:=J I (upd H1 a o') d' A w l u;rw[G];exact K.mut F C hd q (by rw[g];exact s)
end
section
variable{Y:Cm}{E:XK}{ms:List Md}{K:F0}{B U H:Hp}{As:Nat->List Addr}{Z:St}{T:X0}
def An(ms:List Md)(n:Nat)(s:Sh):List Md:=(List.range (max ms.length (n+1))).map λj=>if j=n then .O s else ms.getD j .F
theorem jC{n:Nat}{s:Sh}(j:Nat):(An ms n s).getD j .F=if j=n then .O s else ms.getD j .F:=by
 unfold An;rw[List.getD_eq_getElem?_getD,List.getElem?_map];by_cases h:j<max ms.length (n+1)
 ·rw[Xg h];rfl
 · rw[VP (by rw[Xp];omega)];have a:¬ j=n:=by omega
   rw[on a,VL,VP (by omega)];rfl
def gc(set:X0->D->X0)(b:List D->Out D)(d:D)(ds:List D)(T:X0):Out D:=match b (d::ds) with
 |.ok x a=>(match rg a 0 with|some d'=>.ok x (set T d')|none=>.bad)
 |.exc c a=>(match rg a 0 with|some d'=>.exc c (set T d')|none=>.bad)
 |.bad=>.bad
theorem iG:∀{ps:List Ap} {j:Nat} {a T:X0},cq ps=[]->cf ps j a T=T
 |[],_,_,_,_=>rfl
 | p::r,j,a,T,h=>by
   cases p with
   |O i=>cases h
   |F=>rw[cf];exact iG h;all_goals simp
   |U=>rw[cf];exact iG h;all_goals simp
   |X=>rw[cf];exact iG h;all_goals simp
   |Bo i=>rw[cf];exact iG h;all_goals simp
theorem fitM.any{b:List Md}:∀{ps:List Ap} {mc:List Md},cq ps=[]->fitM ms ps mc->fitM b ps mc
 |[],[],_,_=>trivial
 |[],_::_,_,h=>h.elim
 |_::_,[],_,h=>h.elim
 | p::ps,m::r,a,h=>by
   cases p with
   |O i=>cases a
   |F=>exact⟨by cases m <;> first | trivial | exact h.1.elim,fitM.any a h.2⟩
   |U=>exact⟨by cases m <;> first | trivial | exact h.1.elim,fitM.any a h.2⟩
   |X=>exact⟨by cases m<;>exact h.1.elim,fitM.any a h.2⟩
   |Bo i=>exact⟨by cases m <;> first | trivial | exact h.1.elim,fitM.any a h.2⟩
theorem Ag.plus{U1:Hp}{c:St}{e:X0}{i:Nat}(f:Same U U1)(a:∀j v,rg Z j=some v->rg c j=some v)(b:∀j d,j≠i->rg T j=some d->rg e j=some d):
 ∀{ps:List Ap} {ds:List D} {vs:List V},cq ps=[]->i∉gT ps->Ag Y B U H Z T ps ds vs->Ag Y B U1 H c e ps ds vs
 |[],_,_,_,_,h=>h
 | p::ps,ds,vs,g,l,h=>by
   obtain⟨d,o,v,vr,rfl,rfl,m,n⟩:=h;cases p with
   |O k=>cases g
   |F=>exact⟨d,o,v,vr,rfl,rfl,m,Ag.plus f a b g l n⟩
   |U=>exact⟨d,o,v,vr,rfl,rfl,Dn.mono f m,Ag.plus f a b g l n⟩
   |X=>exact⟨d,o,v,vr,rfl,rfl,m,Ag.plus f a b g l n⟩
   |Bo k=>exact⟨d,o,v,vr,rfl,rfl,⟨a k v m.1,b k d (λz=>l (by rw[z];exact Vt)) m.2⟩,Ag.plus f a b g (λz=>l (Vu _ z)) n⟩
theorem eh{W:Type}{l:List (Option W)}{x:Option W}{j:Nat}:rg (l++[x]) j=if j=l.length then x else rg l j:=by
 unfold rg;by_cases h:j<l.length
 ·rw[Wc h,on (by omega)]
 · rw[V9 (by omega)];by_cases e:j=l.length
   ·rw[Vo e,e,XG];rfl
   ·rw[on e,VP (by simp;omega),VP (by omega)]
open Classical in
theorem HY{i:Nat}{s sh:Sh}{v0 v:V}{d0 d:D}{L A l:List Addr}{set:X0->D->X0}{msR:List Md}{Kr:KT D V}{fm:List D->Out D}{ps:List Ap}{ds:List D}{vs:List V}{Q:VK}(R:Rel Y ms B U As Z H T)
 (hm:ms.getD i .F= .O sh) (hv:rg Z i=some v0) (hd:rg T i=some d0) (hA:As i=L++(A++l)) (ow:Ow Y B H d s v A)
 (cl:∀I H1 d' A1,Same B I->(∀a,a∈L\/a∈l->H1 a=H a)->Ow Y I H1 d' s v A1->∃D',Ow Y I H1 D' sh v0 (L++(A1++l))/\set T d'=T.set i (some D'))
 (G:Ag Y B U H Z T ps ds vs) (hf:fitM ms ps msR) (hl:cq ps=[]) (hb:i∉gT ps) (hU:∀d v B U M H N,Kr d v B U H N->Kr d v B M H N) (P:Mo Y Kr E ms B U Z (gc set fm d ds T) Q):vJ Y (.O s::msR) Kr fm (v::vs) H Q E:=by
 have hi:i<T.length:=(VI.mp (bM hd)).1;have C:=R.len;have nd:=R.nd i;rw[hA]at nd;obtain⟨ndL,nd2,nd3⟩:=VW.mp nd;obtain⟨ndA,ndR,nd4⟩:=VW.mp nd2
 have inI:∀{a},a∈L\/a∈l->a∈As i:=λ{a} h=>by
  rw[hA];rcases h with h|h
  ·exact VB _ h
  ·exact Vs _ (Vs _ h)
 have inA:∀{a},a∈A->a∈As i:=λ{a} h=>by rw[hA];exact Vs _ (VB _ h)
 have offA:∀{a},a∈A->¬ (a∈L\/a∈l):=λ{a} h z=>by
  rcases z with z|z
  ·exact nd3 a z a (VB _ h) rfl
  ·exact nd4 a h a z rfl
 obtain⟨Up,up1,up2⟩:∃Up:Hp,(∀a,a∈L\/a∈l->Up a=H a)/\∀a,¬ (a∈L\/a∈l)->Up a=U a:=⟨λa=>if a∈L\/a∈l then H a else U a,λa h=>Vo h,λa h=>on h⟩
 have sUp:Same U Up:=λa o q=>by
  by_cases z:a∈L\/a∈l
  ·rw[up1 a z];exact R.uh a o q
  ·rw[up2 a z];exact q
 have upH:Same Up H:=λa o q=>by
  by_cases z:a∈L\/a∈l
  ·rw[up1 a z]at q;exact q
  ·rw[up2 a z]at q;exact R.uh a o q
 have Rp:Rel Y (An ms T.length s) B Up (λj=>if j=T.length then A else if j=i then [] else As j) (Z++[some v]) H (T.set i none++[some d]):=by
  have lr:(T.set i (none:Option D)).length=T.length:=VS ..;refine⟨R.bu.trans sUp,upH,λj=>?_,λj k a W f g=>?_,λj a f=>?_,λj=>?_,by rw[Vw,Vw,lr,C];rfl,R.tb⟩
  · try dsimp only
    split
    ·exact ndA
    · split
      ·exact Wg
      ·exact R.nd j
  · try dsimp only at f g
    split at f
    · split at g
      ·exact W (by omega)
      · split at g
        ·cases g
        ·rename_i m r h3;exact R.dj i k a (λz=>h3 z.symm) (inA f) g
    · split at f
      ·cases f
      · split at g
        ·rename_i m r h3;exact R.dj j i a r f (inA g)
        · split at g
          ·cases g
          ·exact R.dj j k a W f g
  · try dsimp only at f
    split at f
    ·rw[up2 a (offA f)];exact R.un i a (inA f)
    · split at f
      ·cases f
      ·rename_i m r;rw[up2 a (λz=>R.dj i j a (λy=>r y.symm) (inI z) f)];exact R.un j a f
  · try dsimp only
    rw[jC,eh,eh,lr,C];by_cases m:j=Z.length
    ·rw[Vo m,Vo m,Vo m,Vo m];exact⟨v,rfl,ow⟩
    · rw[on m,on m,on m,on m,c6];by_cases r:j=i
      ·rw[Vo r,Vo ⟨r.symm,hi⟩];rfl
      ·rw[on r,on λz=>r z.1.symm];exact(R.lo j).mono (Same.refl _) sUp λ_ _=>rfl
 have Gp:Ag Y B Up H (Z++[some v]) (T.set i none++[some d]) (.O T.length::ps) (d::ds) (v::vs):=by
  refine⟨d,ds,v,vs,rfl,rfl,⟨by rw[eh,Vo C],by rw[eh,VS,Vo rfl]⟩,Ag.plus sUp (λj x q=>?_) (λj x W q=>?_) hl hb G⟩
  · have:j<Z.length:=(VI.mp (bM q)).1
    rw[eh,on (by omega)];exact q
  · have:j<T.length:=(VI.mp (bM q)).1
    rw[eh,VS,on (by omega),c6,on λz=>W z.1.symm];exact q
 have back:∀{S M H':Hp} {J:Nat->List Addr} {d':D},Rel Y (An ms T.length s) S M J (Z++[some v]) H' ((T.set i none++[some d]).set T.length (some d'))->Ex B Up S M->
  ∃U2 As2,Rel Y ms S U2 As2 Z H' (set T d')/\Ex B U S U2/\∀N,NewM N M J->NewM N U2 As2:=λ{S M H' J d'} t e1=>by
  have lr:(T.set i (none:Option D)++[some d]).length=T.length+1:=by rw[Vw,VS];rfl
  have there:∀{a},a∈L\/a∈l->∃o,H a=some o/\M a=some o/\H' a=some o:=λ{a} h=>by
   obtain⟨o,q⟩:=R.at (inI h)
   have:=e1.u a o (by rw[up1 a h];exact q)
   exact⟨o,q,this,t.uh a o this⟩
  have keepH:∀a,a∈L\/a∈l->H' a=H a:=λa h=>by obtain⟨o,q1,_,q3⟩:=there h;rw[q1,q3]
  have noB:∀{a},a∈L\/a∈l->S a=none:=λ{a} h=>by
   cases z:S a with
   |none=>rfl
   |some o'=>
     obtain⟨o,q1,q2,q3⟩:=there h;rcases e1.nb a o' z with w|w|w
     ·have:=R.bu a o' w;rw[R.un i a (inI h)]at this;cases this
     ·rw[up1 a h,q1]at w;cases w
     ·rw[t.bh a o' z]at q3;cases q3;exact(R.nt (inI h) q1 w).elim
  obtain⟨U2,u1,u2⟩:∃U2:Hp,(∀a,a∈L\/a∈l->U2 a=none)/\∀a,¬ (a∈L\/a∈l)->U2 a=M a:=⟨λa=>if a∈L\/a∈l then none else M a,λa h=>Vo h,λa h=>on h⟩
  have K:∀{a},M a=none->U2 a=none:=λ{a} h=>by
   by_cases z:a∈L\/a∈l
   ·exact u1 a z
   ·rw[u2 a z];exact h
  have sU2:Same U U2:=λa o q=>by
   have z:¬ (a∈L\/a∈l):=λz=>by rw[R.un i a (inI z)]at q;cases q
   rw[u2 a z];exact e1.u a o (sUp a o q)
  have l1:=t.lo T.length;rw[c6,Vo ⟨rfl,by rw[lr];omega⟩,eh,Vo C,jC,Vo rfl]at l1;obtain⟨v',hv',ow1⟩:=l1;cases hv';have ow1:Ow Y S H' d' s v (J T.length):=ow1;obtain⟨D',ow2,e2⟩:=cl S H' d' (J T.length) e1.b keepH ow1;have X:∀{a j},a∈J j->¬ (a∈L\/a∈l):=λ{a j} h z=>by obtain⟨o,_,q,_⟩:=there z;rw[t.un j a h]at q;cases q
  refine⟨U2,λj=>if j=i then L++(J T.length++l) else if j=T.length then [] else J j,⟨λa o q=>?_,λa o q=>?_,λj=>?_,λj k a W f g=>?_,λj a f=>?_,λj=>?_,by rw[e2,VS];exact C,t.tb⟩,⟨e1.b,sU2,λa o q=>?_⟩,λN n=>⟨n.nd,λa f=>K (n.un a f),λa f j hj=>?_⟩⟩
  · have z:¬ (a∈L\/a∈l):=λz=>by rw[noB z]at q;cases q
    rw[u2 a z];exact t.bu a o q
  · by_cases z:a∈L\/a∈l
    ·rw[u1 a z]at q;cases q
    ·rw[u2 a z]at q;exact t.uh a o q
  · try dsimp only
    split
    · refine VW.mpr ⟨ndL,VW.mpr ⟨t.nd _,ndR,λx hx y hy e=>X hx (.inr (e▸hy))⟩,λx hx y hy e=>?_⟩;rcases Vy.mp hy with hy|hy
      ·exact X hy (.inl (e▸hx))
      ·exact nd3 x hx y (Vs _ hy) e
    · split
      ·exact Wg
      ·exact t.nd j
  · have main:∀{k:Nat},k≠i->a∈L++(J T.length++l)->a∈(if k=i then L++(J T.length++l) else if k=T.length then [] else J k)->False:=λ{k} g f hk2=>by
     rw[on g]at hk2;split at hk2
     ·cases hk2
     · rename_i h3;rcases Vy.mp f with h|h
       ·exact X hk2 (.inl h)
       · rcases Vy.mp h with h|h
         ·exact t.dj T.length k a (λz=>h3 z.symm) h hk2
         ·exact X hk2 (.inr h)
    try dsimp only at f g
    by_cases m:j=i
    ·rw[Vo m]at f;exact main (λz=>W (by omega)) f g
    · by_cases r:k=i
      ·rw[Vo r]at g;exact main m g f
      · rw[on m]at f;rw[on r]at g;split at f
        ·cases f
        · split at g
          ·cases g
          ·exact t.dj j k a W f g
  · try dsimp only at f
    split at f
    · rcases Vy.mp f with h|h
      ·exact u1 a (.inl h)
      · rcases Vy.mp h with h|h
        ·exact K (t.un _ a h)
        ·exact u1 a (.inr h)
    · split at f
      ·cases f
      ·exact K (t.un j a f)
  · try dsimp only
    rw[e2,c6];by_cases m:j=i
    ·subst m;rw[Vo ⟨rfl,hi⟩,Vo rfl,hm];exact⟨v0,hv,ow2⟩
    · rw[on λz=>m z.1.symm,on m];by_cases r:j=T.length
      · subst r;rw[Vo rfl]
        have:rg T T.length=none:=by unfold rg;rw[List.getElem?_eq_none (Nat.le_refl _)];rfl
        rw[this];rfl
      · rw[on r];have l2:=t.lo j;rw[c6,on λz=>r z.1.symm,eh,VS,on r,c6,on λz=>m z.1.symm,eh,on (by omega),jC,on r]at l2;have l0:=R.lo j;cases ed:rg T j with
        |none=>rw[ed]at l2;exact l2
        |some x=>
          rw[ed]at l2 l0;obtain⟨y,hy,w⟩:=l2;refine⟨y,hy,?_⟩;cases em:ms.getD j .F with
          |F=>rw[em]at w;exact w
          |O s'=>rw[em]at w;exact w
          |R=>
            rw[em]at w l0;obtain⟨y',hy',w'⟩:=l0;rw[hy]at hy';cases hy';exact⟨Dn.mono sU2 w'.1,w.2⟩
  · rcases e1.nb a o q with w|w|w
    ·exact .inl w
    ·exact .inr (.inl (sUp.free w))
    ·exact .inr (.inr w)
  · try dsimp only at hj
    split at hj
    · rcases Vy.mp hj with h|h
      ·obtain⟨o,_,q,_⟩:=there (.inl h);rw[n.un a f]at q;cases q
      · rcases Vy.mp h with h|h
        ·exact n.ap a f _ h
        ·obtain⟨o,_,q,_⟩:=there (.inr h);rw[n.un a f]at q;cases q
    · split at hj
      ·cases hj
      ·exact n.ap a f j hj
 have hbo:∀k∈gT ps,k<T.length:=by
  have key:∀{ps:List Ap} {ds:List D} {vs:List V},Ag Y B U H Z T ps ds vs->∀k∈gT ps,k<T.length:=by
   intro ps
   induction ps with
   |nil=>intro ds vs _ k g;cases g
   |cons p ps ih=>
     intro ds vs G k g;obtain⟨d,dr,v,vr,rfl,rfl,m,r⟩:=G;cases p with
     |Bo q=>
       rcases VA.mp g with z|z
       ·subst z;exact(VI.mp (bM m.2)).1
       ·exact ih r k z
     |_=>exact ih r k g
  exact key G
 refine j7 (ms:=An ms T.length s) (ps:= .O T.length::ps) (ds:=d::ds) Rp Gp ⟨show(An ms T.length s).getD T.length .F= .O s by rw[jC,Vo rfl],fitM.any hl hf⟩ (by show(T.length::cq ps).Nodup;rw[hl];simp)
  (λk g z=>by
    have z:k∈T.length::cq ps:=z;rw[hl]at z
    have:=hbo k g
    have:=VF.mp z
    omega) hU ?_
 unfold bQ;unfold gc at P;cases ef:fm (d::ds) with
 |bad=>rw[ef]at P;exact P
 |ok x ρc=>
   rw[ef]at P
   try dsimp only at P ⊢
   rw[cf,iG hl];intro u I U1 As1 H1 N t e1 n1 k1;cases er:rg ρc 0 with
   |none=>rw[er]at P;exact P.elim
   |some d'=>
     rw[er]at P t;obtain⟨U2,As2,R2,e2,n2⟩:=back t e1;exact P u I U2 As2 H1 N R2 e2 (n2 N n1) (hU _ _ _ _ _ _ _ k1)
 |exc c ρc=>
   rw[ef]at P
   try dsimp only at P ⊢
   rw[cf,iG hl];intro I U1 As1 H1 t e1;cases er:rg ρc 0 with
   |none=>rw[er]at P;exact P.elim
   |some d'=>
     rw[er]at P t;obtain⟨U2,As2,R2,e2,n2⟩:=back t e1;exact P I U2 As2 H1 R2 e2
end
end Mi
namespace L2
open PySem PySem.Spec PyProof.Rows PySem.W
section
variable{n:Nat}(hn:0<n)
include hn
end
def pick{W:Type}(l:List W)(p:List Nat):List W:=p.filterMap λi=>l[i]?
end L2
namespace Mi
open PySem L2
def ig:List D->Option (List (List Int))
 |[]=>some []
 |.tup ds::r=>(match bS ds,ig r with|some k,some a=>some (k::a)|_,_=>none)
 |_::_=>none
section
variable{Y:Cm}{E:XK}{ms:List Md}{K:F0}
theorem EO{b:List (List az)}{a:List (List Int)}(e:ig (b.map λk=>.tup (k.map kD))=some a):b=a.map λk=>k.map Sum.inl:=by
 have c:∀{k:List az} {ns:List Int},bS (k.map kD)=some ns->k=ns.map Sum.inl:=by
  intro k
  induction k with
  |nil=>intro ns e;cases e;rfl
  |cons x k d=>
    intro ns e;cases x with
    |inl i=>
      rw[Vq]at e;have e:(bS (k.map kD)).map (i::·)=some ns:=e;obtain⟨ms,e1,rfl⟩:=VJ.mp e;rw[d e1];rfl
    |inr i=>cases e
 induction b generalizing a with
 |nil=>cases e;rfl
 |cons k b d=>
   rw[Vq,ig]at e;cases e1:bS (k.map kD) with
   |none=>rw[e1]at e;cases e
   |some n=>
     cases f:ig (b.map λk=>.tup (k.map kD)) with
     |none=>rw[e1,f]at e;cases e
     |some ns=>
       rw[e1,f]at e;cases e;rw[c e1,d f];rfl
def IC(c:Nat)(b:Str)(get:X0->Option D)(set:X0->D->X0)(d:List D->Out D)(a:X0->Res (List D)):X0->Out D:=λT=>match get T with
 |none=>.bad
 |some o=>if aZ c b o=true then ((a T).up T).bind λds T=>gc set d o ds T else .bad
theorem IL{c:Nat}{n:Str}{g:List Md}{l:KT D V}{C:List D->Out D}{ps:List Ap}{ta:TE}{get:X0->Option D}{set:X0->D->X0}{i:Nat}{s:Sh}{t:TA}{m:X0->Res (List D)}(p:Prt Y ms ta get set i s)(h:AJ Y E ms ps t m)(hf:fitM ms ps g)
 (hl:cq ps=[]) (hb:i∉gT ps) (hU:∀d v B U M H N,l d v B U H N->l d v B M H N):MJ Y l E ms (cg (Y c) n (vJ Y (.O s::g) l C) [] E ta t) (IC c n get set C m):=by
 intro B U As Z H T Q R P;unfold IC at P;cases e:get T with
 |none=>rw[e]at P;exact P.elim
 |some o=>
   rw[e]at P;dsimp only at P;by_cases z:aZ c n o=true
   · rw[Vo z]at P;obtain⟨sh,v0,d0,v,L,A,R',hm,hv,hd,y,ht,K,cl⟩:=p.rd R e;refine ht _ ?_;have x:Dn Y H o v:=Ow.dn R.bh (λ_ _ _ h=>h) K;obtain⟨a,dx,fs,rfl,h1,h2⟩:=iH z x;refine⟨a,dx,fs,rfl,h1,h2,h B U As Z H T _ R ?_⟩;cases F:m T with
     |ok ds=>
       rw[F]at P;intro vs W S J N2 R2 f n2 G;rw[V3]
       have u:∀{a},a∈L\/a∈R'->a∈As i:=λ{a} h=>by
        rw[y];rcases h with h|h
        ·exact VB _ h
        ·exact Vs _ (Vs _ h)
       have same:∀{a},a∈As i->J a=H a:=λ{a} h=>by
        obtain⟨o',q⟩:=R.at h;rw[q,f.h _ _ q]
       exact HY R2 hm hv hd y (Ow.mono f.b (λa j=>same (by rw[y];exact Vs _ (VB _ j))) K)
        (λI H1 d' A1 X k w=>cl I H1 d' A1 (f.b.trans X) (λa j=>by rw[k a j,same (u j)]) w) G hf hl hb hU (Mo.at (r:=gc set C o ds T) P f.toEx)
     |exc c=>rw[F]at P;exact λW S J R2 f=>P W S As J R2 f.toEx
     |bad=>rw[F]at P;exact P
   ·rw[on z]at P;exact P.elim
theorem Iz{c:Nat}{b:Str}{a:List Md}{d:List D->Out D}{ps:List Ap}{ta:TE}{get:X0->Option D}{set:X0->D->X0}{i:Nat}{s:Sh}{t:TA}{m:X0->Res (List D)}(p:Prt Y ms ta get set i s)(h:AJ Y E0 ms ps t m)(f:fitM ms ps a)
 (e:cq ps=[]) (g:i∉gT ps):MJ Y (KR Y .F) E0 ms (cg (Y c) b (dq Y (.O s::a) (KR Y .F) d) [] E0 ta t) (IC c b get set d m):=IL p h f e g λ_ _ _ _ _ _ _ h=>h
end
end Mi
namespace Cl
open PySem L2 Mi
section
variable{Z σ' W X M L:Type}{rep:Z->X0}{Y:σ'->X0}
theorem pX:∀l:List (List Int),ig (l.map (o0 D.int))=some l
 |[]=>rfl
 | k::l=>by
   rw[Vq];show(match bS (k.map D.int),ig (l.map (o0 D.int)) with|some k,some a=>some (k::a)|_,_=>none)=_;rw[dG,pX l]
@[simp] def gI(g:Z->Option (List W))(k:Z->Option Int):Z->Option W:=λs=>match g s,k s with
 |some l,some k=>if 0<=k then l[k.toNat]? else none
 |_,_=>none
@[simp] def pI(g:Z->Option (List W))(p:Z->List W->Z)(k:Z->Option Int):Z->W->Z:=λs y=>match g s,k s with
 |some l,some k=>p s (l.set k.toNat y)
 |_,_=>s
theorem mM{j:Nat}{k:Z->Option Int}(h:∀s,rg (rep s) j=(k s).map D.int):∀s,By j (rep s)=k s:=λs=>by
 unfold By;rw[h];cases k s<;>rfl
theorem Uk{e:W->D}{get:X0->Option D}{mk:X0->Option Int}{g:Z->Option (List W)}{k:Z->Option Int}(b:∀s,get (rep s)=(g s).map (eL e))(a:∀s,mk (rep s)=k s)(s:Z):jK get mk (rep s)=(gI g k s).map e:=by
 unfold jK gI;rw[b,a];cases g s with
 |none=>rfl
 |some l=>
   cases k s with
   |none=>rfl
   |some k=>
     show(if 0<=k then (l.map e)[k.toNat]? else none)=(if 0<=k then l[k.toNat]? else none).map e;by_cases z:0<=k
     ·rw[Vo z,Vo z,VN]
     ·rw[on z,on z];rfl
theorem Va{e:W->D}{get:X0->Option D}{set:X0->D->X0}{mk:X0->Option Int}{g:Z->Option (List W)}{p:Z->List W->Z}{k:Z->Option Int}(c:∀s,get (rep s)=(g s).map (eL e))(a:∀s l,set (rep s) (eL e l)=rep (p s l))(b:∀s,mk (rep s)=k s)(s:Z)(y:W):
 k7 get set mk (rep s) (e y)=rep (pI g p k s y):=by
 unfold k7 pI;rw[c,b];cases g s with
 |none=>rfl
 |some l=>
   cases k s with
   |none=>rfl
   |some k=>
     show set (rep s) (.lst ((l.map e).set k.toNat (e y)))=rep (p s (l.set k.toNat y));rw[<-a,<-Y6];rfl
@[simp] def Uh(g:Z->Option W)(p:Z->W->Z)(a:σ'->W)(d:Z->Res L)(f:W->L->OutC σ' M):Z->OutC Z M:=λs=>match g s with
 |none=>.bad
 | some o=>match d s with
   |.ok r=>(match f o r with | .ok x b=>.ok x (p s (a b)) | .exc c b=>.exc c (p s (a b)) | .bad=>.bad)
   |.exc c=>.exc c s
   |.bad=>.bad
theorem Ko{e0:W->D}{e:L->List D}{eR:M->D}{c:Nat}{n:Str}{get:X0->Option D}{set:X0->D->X0}{l:List D->Out D}{b:X0->Res (List D)}{g:Z->Option W}{p:Z->W->Z}{j:σ'->W}{m:Z->Res L}{f:W->L->OutC σ' M}
 (A:∀s,get (rep s)=(g s).map e0) (t:∀s y,set (rep s) (e0 y)=rep (p s y)) (v:∀a,aZ c n (e0 a)=true) (u:EJ rep e (λT=>(b T).bind .ok) m) (B:∀a r,SimO Y eR (l (e0 a::e r)) (f a r)) (d:∀i,rg (Y i) 0=some (e0 (j i))):
 NJ rep eR (IC c n get set l b) (Uh g p j m f):=λs=>by
 unfold IC Uh;rw[A];cases g s with
 |none=>trivial
 |some o=>
   dsimp only[Option.map];rw[if_pos (v o)];have h:=u s;cases q:m s with
   |bad=>trivial
   |exc x=>
     rw[q]at h;have h:(b (rep s)).bind .ok=.exc x:=h;cases z:b (rep s) with
     |ok y=>rw[z]at h;cases h
     |exc y=>rw[z]at h;cases h;rfl
     |bad=>rw[z]at h;cases h
   |ok r=>
     rw[q]at h;have h:(b (rep s)).bind .ok=.ok (e r):=h
     have z:b (rep s)=.ok (e r):=by
      cases z:b (rep s) with
      |ok y=>rw[z]at h;exact h
      |exc y=>rw[z]at h;cases h
      |bad=>rw[z]at h;cases h
     rw[z];show SimO rep eR (gc set l (e0 o) (e r) (rep s)) _;unfold gc;have k:=B o r;dsimp only;cases w:f o r with
     |bad=>trivial
     |ok x i=>
       rw[w]at k;have k:l (e0 o::e r)=.ok (eR x) (Y i):=k;rw[k];dsimp only;rw[d];dsimp only;rw[t];rfl
     |exc x i=>
       rw[w]at k;have k:l (e0 o::e r)=.exc x (Y i):=k;rw[k];dsimp only;rw[d];dsimp only;rw[t];rfl
end
end Cl
namespace L2
open PySem PySem.Spec PyProof.Rows
section
variable{X:Cx}{G:P4}{Z:St}{H:Hp}{s:Shared}{a:Addr}{kvs:List (List az×V)}
theorem Fb{h:Heap}{u:HO}(f:∀b xs,H b=some (.tup xs)->b≠a)(x:ObjOk X.prog X.w H h a (.dT kvs)):ObjOk X.prog X.w (upd H a u) h a (.dT kvs):=by
 obtain⟨z,y,xs,r,aY⟩:=x;refine⟨z,y,xs,?_,aY⟩
 have d:∀{c:List (List az×V)} {l2:List (List az×Addr×Value)},Paired (λ(p:List az×V) (q:List az×Addr×Value)=>p.1=q.1/\H q.2.1=some (.tup (p.1.map kV))/\RelV p.2 q.2.2) c l2->
  Paired (λ(p:List az×V) (q:List az×Addr×Value)=>p.1=q.1/\upd H a u q.2.1=some (.tup (p.1.map kV))/\RelV p.2 q.2.2) c l2:=by
  intro c l2 h
  induction h with
  |nil=>exact .nil
  |cons h _ e=>exact .cons ⟨h.1,by rw[am (f _ _ h.2.1)];exact h.2.1,h.2.2⟩ e
 exact d r
theorem Inv.freeze(I:Inv X G Z H s)(d:H a=some (.dT kvs)):∃o,s.heap.get? a=some o/\Inv X G Z (upd H a (.frz o (.dT kvs))) s:=by
 have x:=I.hok a _ d;obtain⟨_,_,_,_,o,f,ep,c,_⟩:=(show ObjOk X.prog X.w H s.heap a (.dT kvs) from x);refine⟨o,c,?_⟩
 have:=I.write (x:=a) (e:=a) (o:=.frz o (.dT kvs)) (h':=s.heap) (t':=s.toks) (by rw[d];trivial) (.inl rfl) (λb u _ e=>e) ⟨o,c⟩ ⟨c,Fb (X:=X) (λb xs e z=>by rw[z,d]at e;cases e) x⟩
 exact this
theorem Inv.thaw{o:Obj}(I:Inv X G Z H s)(D:H a=some (.frz o (.dT kvs)))(h0:∀o u,X.H₀ a≠some (.frz o u)):Inv X G Z (upd H a (.dT kvs)) s:=by
 have x:ObjOk X.prog X.w H s.heap a (.frz o (.dT kvs)):=I.hok a _ D;have ne:∀{b:Addr} {u:HO},H b=some u->(∀o v,u≠ .frz o v)->b≠a:=λ{b u} e h z=>by rw[z,D]at e;cases e;exact h _ _ rfl
 have d:∀{b:Addr},H b=none->b≠a:=λ{b} e z=>by rw[z,D]at e;cases e
 refine⟨I.ok,I.os,I.bare,⟨I.base.keep,I.base.slot,λb ob q n B=>?_,I.base.there,λb xs e=>?_,λb ob u e=>?_,λb l e=>?_⟩,I.loc,I.cell,?_,λy c e=>?_,λp hp=>?_,λb u e=>?_,I.len⟩
 · have:=I.base.free b ob q n B
   rw[am (d this)];exact this
 · have:=I.base.tups b xs e
   rw[am (ne this λ_ _ z=>by cases z)];exact this
 ·have F:b≠a:=λz=>h0 ob u (z▸e);rw[am F];exact I.base.frzs b ob u e
 ·obtain⟨f,g⟩:=I.base.tbls b l e;refine⟨by rw[am (ne f λ_ _ z=>by cases z)];exact f,λc ob e1 m=>?_⟩;obtain⟨j,k⟩:=g c ob e1 m;exact⟨by rw[am (ne j λ_ _ z=>by cases z)];exact j,k⟩
 ·rw[am (d I.free)];exact I.free
 ·rw[am (d (I.freeC y c e))];exact I.freeC y c e
 ·obtain⟨f,g,j,k⟩:=I.pin p hp;exact⟨f,by rw[am (d g)];exact g,j,k⟩
 · have tn:∀b xs,H b=some (.tup xs)->b≠a:=λb xs e=>ne e λ_ _ z=>by cases z
   by_cases z:b=a
   ·subst z;rw[ao]at e;cases e;exact Fb (X:=X) tn x.2
   · rw[am z]at e;have y:=I.hok b u e
     have i:∀(u:HO) (b:Addr),ObjOk X.prog X.w H s.heap b u->ObjOk X.prog X.w (upd H a (.dT kvs)) s.heap b u:=by
      intro u
      induction u with
      |dT E=>
        intro b y;obtain⟨z,w,xs,r,aY⟩:=(show ObjOk X.prog X.w H s.heap b (.dT E) from y);refine⟨z,w,xs,?_,aY⟩
        have i:∀{t:List (List az×V)} {l2:List (List az×Addr×Value)},Paired (λ(p:List az×V) (q:List az×Addr×Value)=>p.1=q.1/\H q.2.1=some (.tup (p.1.map kV))/\RelV p.2 q.2.2) t l2->
         Paired (λ(p:List az×V) (q:List az×Addr×Value)=>p.1=q.1/\upd H a (.dT kvs) q.2.1=some (.tup (p.1.map kV))/\RelV p.2 q.2.2) t l2:=by
         intro t l2 h
         induction h with
         |nil=>exact .nil
         |cons h _ A=>exact .cons ⟨h.1,by rw[am (tn _ _ h.2.1)];exact h.2.1,h.2.2⟩ A
        exact i r
      |ins C dx fs=>
        intro b y;obtain⟨f,g⟩:=(show ObjOk X.prog X.w H s.heap b (.ins C dx fs) from y);exact⟨by rw[am (ne f λ_ _ z=>by cases z)];exact f,g⟩
      |frz o u A=>intro b y;exact⟨y.1,A b y.2⟩
      |tbl l=>
        intro b y;obtain⟨f,ps,g,j,k⟩:=(show ObjOk X.prog X.w H s.heap b (.tbl l) from y);exact⟨f,ps,g,j,λx B=>(k x B).imp id λ⟨c,e1,m,J⟩=>⟨c,e1,by rw[am (ne m λ_ _ z=>by cases z)];exact m,J⟩⟩
      |_=>intro b y;exact y
     exact i u b y
def Itd(a:Addr)(o:Obj)(bs:List Addr):It:=
 ⟨λi H=>(∃kvs:List (List az×V),H a=some (.frz o (.dT kvs)))/\i<bs.length,λi H x H'=>H'=H/\∃b,bs[i]?=some b/\x=.ref b,λi H=>(∃kvs:List (List az×V),H a=some (.frz o (.dT kvs)))/\bs.length<=i⟩
theorem z8{P:Program}{w:World}{K:F0}{M:Expr}{o:Obj}{f:Array DictEntry}{ep:Nat}{bs:List Addr}(a g:Addr)(J:o.ExactDict)(hd:o.data=.dict f ep)(U:bs.length=f.size)(O:∀(i:Nat) (h:i<f.size) b,bs[i]?=some b->f[i].key=.ref b):
 Turn P w K M (Itd a o bs) [g] g (λi h=>i<=f.size/\h.IsKeyIter g a i f.size ep) where
 mem:=by simp
 obj:=λi h st b l=>by
  have e:b=g:=by simpa using l
  subst e;obtain⟨_,o,e,c,d⟩:=st;exact⟨o,e,λv z=>by rw[d]at z;cases z⟩
 keep:=λi h h' st k=>⟨st.1,st.2.at λo e=>k g (by simp) o e⟩
 item:=by
  intro X u q x L i G s Z H E I n st r;subst u q x;obtain⟨⟨kvs,t⟩,hi⟩:=r;have y:ObjOk X.prog X.w H s.heap a (.frz o (.dT kvs)):=I.hok a _ t;obtain⟨F,D,Q,C,B,A⟩:=n g (by simp);have j:i<f.size:=by omega
  refine tI st.2 ⟨o,y.1,J,hd⟩ j λh' m N=>?_;have S:Inv X G Z H {s with heap:=h'}:=I.turned (t':=s.toks) (λb o l e=>(N.2 b l).trans e) F D C B A;obtain⟨T,e,c,d⟩:=id m;have p:bs[i]?=some (bs[i]):=VH hi;refine⟨_,rfl,E3 (s:={s with heap:=h'}) e c d (by decide) ⟨.ref bs[i],H,S,O i j _ p,⟨rfl,_,p,rfl⟩,⟨j,m⟩,λb l=>(n b l).1⟩⟩
 done:=by
  intro X u q x L i G s Z H E I n st r;subst u q x;obtain⟨⟨kvs,t⟩,hi⟩:=r;have y:ObjOk X.prog X.w H s.heap a (.frz o (.dT kvs)):=I.hok a _ t;obtain⟨F,D,Q,C,B,A⟩:=n g (by simp);have R:i=f.size:=Nat.le_antisymm st.1 (by omega);subst R;exact yt (I.ok.hd L) st.2 ⟨o,y.1,J,hd⟩ λh' p=>⟨rfl,I.turned (t':=s.toks) (λb o l e=>p b o l e) F D C B A⟩
 self:=λ_ _ _ _ _ st h=>wpAny_pyIter_keyiter st.2 h
def EZ(c:TE):TI:=λZ H R=>c Z H λx H1=>∃a o kvs,x=.ref a/\H1 a=some (.frz o (.dT kvs))/\
 ∀bs:List Addr,bs.length=kvs.length->(∀(i:Nat) k v b,kvs[i]?=some (k,v)->bs[i]?=some b->H1 b=some (.tup (k.map kV)))->R (Itd a o bs) H1
theorem Mx{J l:Expr}{D:TE}(O:PE X l D):PI X J l (EZ D):=by
 intro G s Z H R I h;refine a7 (O G s Z H _ I h) λv c ⟨x,H1,A,K,L⟩=>?_;obtain⟨a,o,kvs,rfl,S,q⟩:=L;cases K;have y:ObjOk X.prog X.w H1 c.heap a (.frz o (.dT kvs)):=A.hok a _ S;obtain⟨z,hd,ys,m,o',j,ep,F,E,d,t,N⟩:=(show ObjOk X.prog X.w H1 c.heap a (.dT kvs) from y.2);have U:o'=o:=by have:=y.1;rw[F]at this;exact VQ this
 subst U;have r:kvs.length=ys.length:=WV m
 have n:j.size=ys.length:=by
  have e:=congrArg List.length t
  rwa [Vr,Wi]at e
 have P:∀(i:Nat) (h:i<j.size) b,(ys.map λy=>y.2.1)[i]?=some b->j[i].key=.ref b:=λi h b e=>by
  rw[VN]at e;cases g:ys[i]? with
  |none=>rw[g]at e;cases e
  |some y=>
    rw[g]at e;have C:y.2.1=b:=VQ e;have u:j.toList[i]?=some j[i]:=by rw[W7];exact Wx h
    rw[t,VN,g]at u;have W:entryOfKey (tupleKind (aq X.prog X.w)) y=j[i]:=VQ u;rw[<-W,pS,C]
 refine tH hd ⟨o',F,E,d⟩ ?_;have Y:Inv X G Z H1 {c with heap:=c.heap.push {cls:=.type "dict_keyiterator",data:=.fields #[.ref a,.int 0 0,.int j.size 0,.int ep 0]}}:=A.kept (t':=c.toks) λb o e=>Vv _ e;refine⟨c.heap.objs.size,[c.heap.objs.size],_,_,H1,rfl,Y,z8 (bs:=ys.map λy=>y.2.1) a _ E d (by rw[Vr,n]) P,⟨Wr _,⟨_,VO _ rfl,rfl,rfl⟩⟩,λb Q=>?_,q _ (by rw[Vr,r]) λi k v b e1 f=>?_⟩
 · have e:b=c.heap.objs.size:=by simpa using Q
   subst e;exact A.fpOk (VG _) (A.hok.fresh (VG _))
 · rw[VN]at f;cases g:ys[i]? with
   |none=>rw[g]at f;cases f
   |some y=>
     rw[g]at f;have C:y.2.1=b:=VQ f
     have pr:∀{B:List (List az×V)} {l2:List (List az×Addr×Value)},Paired (λ(p:List az×V) (q:List az×Addr×Value)=>p.1=q.1/\H1 q.2.1=some (.tup (p.1.map kV))/\RelV p.2 q.2.2) B l2->
      ∀{i:Nat} {p q},B[i]?=some p->l2[i]?=some q->H1 q.2.1=some (.tup (p.1.map kV)):=by
      intro B l2 hp
      induction hp with
      |nil=>intro i p q e;cases e
      |cons T _ M=>
        intro i p q e1 f;cases i with
        |zero=>cases e1;cases f;exact T.2.1
        |succ i=>exact M e1 f
     rw[<-C];exact pr m e1 g
def xJ(t:TE):TE:=λZ H Q=>t Z H Q\/∃a kvs,H a=some (.dT kvs)/\∀o,t Z (upd H a (.frz o (.dT kvs))) λv H1=>H1 a=some (.frz o (.dT kvs))/\Q v (upd H1 a (.dT kvs))
theorem HJ{e:Expr}{t:TE}(h:PE X e t):PE X e (xJ t):=by
 intro G s Z H Q I q;rcases q with q|⟨a,kvs,b,q⟩
 ·exact h G s Z H Q I q
 · obtain⟨o,j,g⟩:=I.freeze b;refine a7 (h G s Z _ _ g (q o)) λu i ⟨v,H1,f,r,e1,d⟩=>⟨v,_,f.thaw e1 λo' c z=>?_,r,d⟩
   have:=I.base.frzs a o' c z
   rw[b]at this;cases this
end
end L2
namespace Mi
open PySem L2
structure Fz (a:Addr) (kvs:List (List az×V)) (G G':Hp):Prop where
 ne:∀b,b≠a->G' b=G b
 fr:∀x,G a=some x->x=.dT kvs\/∃o,x=.frz o (.dT kvs)
 to:∀x,G a=some x->Rd G' a (.dT kvs)
 no:G a=none->G' a=none
section
variable{Y:Cm}{a:Addr}{kvs:List (List az×V)}{E:XK}{ms:List Md}{K:F0}
theorem Fz.at{G d:Hp}(F:Fz a kvs G d){b:Addr}{x:HO}(e:G b=some x)(n:nd x):b≠a/\d b=some x:=by
 have c:b≠a:=λz=>by
  subst z;rcases F.fr x e with q|⟨o,q⟩<;>rw[q]at n<;>exact n
 exact⟨c,by rw[F.ne b c];exact e⟩
theorem y6{G e:Hp}(F:Fz a kvs G e){d:D}{v:V}:Dn Y G d v->Dn Y e d v:=Dn.imp ⟨λb x q n=>(F.at q n).2,λb k c=>by
 by_cases z:b=a
 ·subst z;rcases c with c|⟨o,c⟩<;>rcases F.fr _ c with q|⟨o,q⟩<;>cases q<;>exact F.to _ c
 · show e b=_\/∃o,e b=_;rw[F.ne b z]
   exact c⟩
theorem Rel.fz{B U H S M H':Hp}{As:Nat->List Addr}{Z:St}{T:X0}(R:Rel Y ms B U As Z H T)(FB:Fz a kvs B S)(g:Fz a kvs U M)(o:Fz a kvs H H')(k:∀i,a∉As i)(bu:Same S M)(uh:Same M H'):Rel Y ms S M As Z H' T:=by
 have c:∀{i b},b∈As i->b≠a:=λ{i b} h z=>k i (z▸h);refine⟨bu,uh,R.nd,R.dj,λi b e=>by rw[g.ne b (c e)];exact R.un i b e,λi=>?_,R.len,λp hp=>?_⟩
 · have l:=R.lo i;unfold Lo at l ⊢;cases q:rg T i with
   |none=>rw[q]at l;exact l
   |some d=>
     rw[q]at l;obtain⟨v,j,w⟩:=l;refine⟨v,j,?_⟩;cases f:ms.getD i .F with
     |F=>rw[f]at w;exact⟨y6 FB w.1,w.2⟩
     |R=>rw[f]at w;exact⟨y6 g w.1,w.2⟩
     |O s=>rw[f]at w;exact Ow.imp (y6 FB) (λb e=>o.ne b (c e)) w
 ·obtain⟨l,n,m⟩:=R.tb p hp;exact⟨l,(FB.at n trivial).2,m⟩
def lQ(G:Hp)(a:Addr)(u:HO):Hp:=λb=>if b=a then (G a).map λ_=>u else G b
theorem bz{G:Hp}{u:HO}{b:Addr}(h:b≠a):lQ G a u b=G b:=on h
theorem cL{G:Hp}{u x:HO}(h:G a=some x):lQ G a u a=some u:=by unfold lQ;rw[if_pos rfl,h];rfl
theorem mS{G:Hp}{u:HO}(h:G a=none):lQ G a u a=none:=by unfold lQ;rw[if_pos rfl,h];rfl
theorem jd{G:Hp}{u:HO}(fr:∀x,G a=some x->x=.dT kvs\/∃o,x=.frz o (.dT kvs))(c:u=.dT kvs\/∃o,u=.frz o (.dT kvs)):Fz a kvs G (lQ G a u):=
 ⟨λb h=>bz h,fr,λx e=>by
  rcases c with q|⟨o,q⟩
  ·exact .inl (by rw[cL e,q])
  ·exact .inr ⟨o,by rw[cL e,q]⟩,λe=>mS e⟩
theorem jM{G c:Hp}{u:HO}(s:Same G c):Same (lQ G a u) (lQ c a u):=λb x e=>by
 by_cases z:b=a
 · subst z;cases q:G b with
   |none=>rw[mS q]at e;cases e
   |some y=>rw[cL q]at e;rw[cL (s _ _ q)];exact e
 ·rw[bz z]at e ⊢;exact s _ _ e
theorem lJ{mi:X0->Res Bool}{me:X0->Res D}{W:X0}:∀(ds:List D) (c:Nat),aI mi me W ds≠ .exc c
 |[],c,h=>by cases h
 | d::ds,c,h=>by
   rw[aI]at h;have f:=lJ (mi:=mi) (me:=me) (W:=W) ds;cases e1:mi (some d::W) with
   |bad=>rw[e1]at h;cases h
   |exc x=>rw[e1]at h;cases h
   |ok b=>
     rw[e1]at h;cases b with
     |false=>exact f c h
     |true=>
       cases e:me (some d::W) with
       |bad=>rw[e]at h;cases h
       |exc x=>rw[e]at h;cases h
       |ok x=>
         rw[e]at h;cases a:aI mi me W ds with
         |ok y=>rw[a]at h;cases h
         |exc y=>exact f y a
         |bad=>rw[a]at h;cases h
def vY(m:X0->Res D):X0->Res (List D):=λT=>(m T).bind λd=>match d with
 |.dT a _=>.ok (a.map λk=>.tup (k.map kD))
 |_=>.bad
theorem C7{Kl:KT D V}{i c:Nat}{f:Str}{L:List Nat}{ti:TT}{te:TE}{mi:X0->Res Bool}{me:X0->Res D}(hc:Cls K (Y c))(hn:NoAttr K (Y c) f)(hm:ms.getD i .F= .R)
 (ca:∀{I U1 H1:Hp} {As:Nat->List Addr} {Z:St} {T:X0} {Q:VK} {ds:List D} {J:It} {vs:List V},Rel Y ms I U1 As Z H1 T->Bs J H1 vs->Dns Y I ds vs->Po Y Kl E ms I U1 As Z H1 T (if ds.length<ac then (aI mi me (cz T L) ds).bind λr=>.ok (.lst r) else .bad) Q->∀p,H1 p=none->vE J (λv=>some v::gb Z L) ti te p H1 Q)
 (th:∀{d:D} {v:V} {B U H:Hp} {N:List Addr} {S M:Hp} {a:Addr} {o:Obj} {kvs:List (List az×V)},H a=some (.frz o (.dT kvs))->a∉N->(∀{d v},Dn Y B d v->Dn Y S d v)->Kl d v B U H N->Kl d v S M (lQ H a (.dT kvs)) N):
 PJ Y Kl E ms (xJ (gY (EZ (l6 K (bI i) f)) L ti te)) (fc (vY (un (bb c f) (vr i))) L mi me):=by
 intro B U As Z H T Q R P;have l:=R.lo i;rw[hm]at l;unfold fc vY un vr at P;cases e:rg T i with
 |none=>rw[e]at P;exact P.elim
 |some d0=>
   rw[e]at P l;obtain⟨v0,hv0,w0⟩:=l;have w0:Dn Y U d0 v0:=w0.1;replace P:Po Y (Kl) E ms B U As Z H T (((bb c f d0).bind λd=>match d with | .dT O _=>Res.ok (O.map λk=>D.tup (k.map kD))|_=>.bad).bind λxs=>if xs.length<ac then (aI mi me (cz T L) xs).bind λys=>.ok (.lst ys) else .bad) Q:=P;cases ef:bb c f d0 with
   |bad=>rw[ef]at P;exact P.elim
   |exc x=>exact(mV ef).elim
   |ok d=>
     rw[ef]at P;obtain⟨ns,vs,rfl,lk⟩:=rs ef;rw[Dn]at w0;obtain⟨b,dx,fs,rfl,hb,hns,hvs⟩:=w0;subst hns;obtain⟨x,hx,dx'⟩:=mE hvs lk;cases d with
     |dT O ds=>
       replace P:Po Y (Kl) E ms B U As Z H T (if (O.map λk=>D.tup (k.map kD)).length<ac then (aI mi me (cz T L) (O.map λk=>D.tup (k.map kD))).bind λys=>.ok (.lst ys) else .bad) Q:=P;rw[Dn]at dx';obtain⟨a,kvs,rfl,hrd,hks,_⟩:=dx'
       -- the Qr over a frozen dict
       have core:∀{I U1 H1:Hp} {o:Obj} {Q1:VK},Rel Y ms I U1 As Z H1 T->H1 a=some (.frz o (.dT kvs))->H1 b=some (.ins (Y c) dx fs)->
        (∀bs:List Addr,(∀y∈bs,∃q,H1 y=some q/\cX q)->Po Y (Kl) E ms (Mi.frz I H1 bs) (Mi.frz U1 H1 bs) As Z H1 T (if (O.map λk=>D.tup (k.map kD)).length<ac then (aI mi me (cz T L) (O.map λk=>D.tup (k.map kD))).bind λys=>.ok (.lst ys) else .bad) Q1)->
        gY (EZ (l6 K (bI i) f)) L ti te Z H1 Q1:=λ{I U1 H1 o Q1} A ha1 hb1 P1=>by
        refine⟨.ref b,bM hv0,b,_,dx,fs,.ref a,rfl,hb1,hc,hn,hx,a,o,kvs,rfl,ha1,λbs hl hk p hp=>?_⟩
        have g:∀y∈bs,∃q,H1 y=some q/\cX q:=λy m=>by
         obtain⟨j,hj,ej⟩:=XD m;have h4:bs[j]?=some y:=by rw[<-ej];exact VH hj
         have h5:kvs[j]?=some (kvs[j]'(by omega)):=VH (by omega);exact⟨_,hk j _ _ y (by rw[h5]) h4,_,rfl⟩
        have R2:Rel Y ms (Mi.frz I H1 bs) (Mi.frz U1 H1 bs) As Z H1 T:=A.grow (bE A.bh) (bE A.uh) (Same.refl _) (mT A.bu) (rn A.uh) λi a n=>by
         unfold Mi.frz;split
         ·rename_i z;obtain⟨o,e,t⟩:=g a z;exact(A.nt n e t).elim
         ·exact A.un i a n
        refine ca R2 (vs:=bs.map V.ref) (λH2 s2=>?_) ?_ (P1 bs g) p hp
        ·have h1:=s2 _ _ ha1;refine⟨λj hj=>⟨⟨kvs,h1⟩,by simpa using hj⟩,λj hj=>⟨⟨kvs,h1⟩,by simpa using hj⟩,λj y H' hj m=>⟨m.1,?_⟩⟩;obtain⟨q,e1,e2⟩:=m.2;rw[VN,e1,e2];rfl
        · refine Dns.of_get (by rw[Vr,Vr,hl,<-hks,Vr]) λj d y ed ey=>?_;rw[VN]at ed ey;obtain⟨kk,ek,rfl⟩:=VJ.mp ed;obtain⟨q,eq,rfl⟩:=VJ.mp ey;rw[<-hks,VN]at ek;obtain⟨kv,ekv,rfl⟩:=VJ.mp ek
          have:=hk j kv.1 kv.2 q (by rw[ekv]) eq
          show Dn Y (Mi.frz I H1 bs) (.tup (kv.1.map kD)) (.ref q);rw[Dn];refine⟨q,_,rfl,?_,wR kv.1⟩;unfold Mi.frz;rw[if_pos (List.mem_of_getElem? eq)];exact this
       have X:∀{I U1 H1:Hp} {bs:List Addr},Rel Y ms I U1 As Z H1 T->(∀y∈bs,∃q,H1 y=some q/\cX q)->Gw I U1 H1 (Mi.frz I H1 bs) (Mi.frz U1 H1 bs) H1:=λ{I U1 H1 bs} A g=>by
        refine⟨⟨bE A.bh,bE A.uh,λa o q=>?_⟩,Same.refl _,λa o q=>?_⟩
        · unfold Mi.frz at q;split at q
          ·rename_i z;obtain⟨o',e,t⟩:=g a z;rw[e]at q;cases q;exact .inr (.inr t)
          ·exact .inl q
        · unfold Mi.frz at q;split at q
          ·rename_i z;obtain⟨o',e,t⟩:=g a z;rw[e]at q;cases q;exact .inr (.inr t)
          ·exact .inl q
       rcases hrd with n|⟨o,n⟩
       · refine .inr ⟨a,kvs,R.uh _ _ n,λo=>?_⟩;have hU:∀x,U a=some x->x=.dT kvs:=λx q=>by rw[n]at q;cases q;rfl
         have hB:∀x,B a=some x->x=.dT kvs:=λx q=>hU x (R.bu _ _ q);have W:H a=some (.dT kvs):=R.uh _ _ n;have hA:∀i,a∉As i:=λi z=>by rw[R.un i a z]at n;cases n
         have eH:upd H a (.frz o (.dT kvs))=lQ H a (.frz o (.dT kvs)):=by
          funext y;by_cases z:y=a
          ·subst z;rw[ao,cL W]
          ·rw[am z,bz z]
         rw[eH];have u0:(HO.frz o (.dT kvs))=.dT kvs\/∃o',(HO.frz o (.dT kvs))=.frz o' (.dT kvs):=.inr ⟨o,rfl⟩
         have A:Rel Y ms (lQ B a (.frz o (.dT kvs))) (lQ U a (.frz o (.dT kvs))) As Z (lQ H a (.frz o (.dT kvs))) T:=
          R.fz (jd (λx q=>.inl (hB x q)) u0) (jd (λx q=>.inl (hU x q)) u0) (jd (λx q=>by rw[W]at q;cases q;exact .inl rfl) u0) hA (jM R.bu) (jM R.uh)
         have hb1:lQ H a (.frz o (.dT kvs)) b=some (.ins (Y c) dx fs):=by
          have hba:b≠a:=λz=>by rw[z,n]at hb;cases hb
          rw[bz hba];exact R.uh _ _ hb
         refine core A (cL W) hb1 λbs g=>?_;have g1:=X A g
         have abs:a∉bs:=λz=>by
          obtain⟨q,e1,t⟩:=g a z;rw[cL W]at e1;cases e1;obtain⟨_,t⟩:=t;cases t
         by_cases zl:(O.map λk=>D.tup (k.map kD)).length<ac
         · rw[Vo zl]at P ⊢;cases ec:aI mi me (cz T L) (O.map λk=>D.tup (k.map kD)) with
           |bad=>rw[ec]at P;exact P.elim
           |exc q=>exact(lJ _ _ ec).elim
           |ok zs=>
             rw[ec]at P;intro v B3 U3 H3 N R3 g3 n3 w3;have w:H3 a=some (.frz o (.dT kvs)):=g3.h _ _ (cL W);refine⟨w,?_⟩
             have Lh:upd H3 a (.dT kvs)=lQ H3 a (.dT kvs):=by
              funext y;by_cases z:y=a
              ·subst z;rw[ao,cL w]
              ·rw[am z,bz z]
             rw[Lh];have t0:(HO.dT kvs)=.dT kvs\/∃o',(HO.dT kvs)=.frz o' (.dT kvs):=.inl rfl
             have f3:∀{G:Hp},Same G H3->∀x,G a=some x->x=.dT kvs\/∃o',x=.frz o' (.dT kvs):=λs x q=>by
              have:=s _ _ q
              rw[w]at this;cases this;exact .inr ⟨o,rfl⟩
             have hA3:a∉N:=λz=>by have:=n3.fr a z;rw[cL W]at this;cases this
             have U2a:Mi.frz (lQ U a (.frz o (.dT kvs))) (lQ H a (.frz o (.dT kvs))) bs a=some (.frz o (.dT kvs)):=by unfold Mi.frz;rw[if_neg abs];exact cL n
             have C:∀{G G3:Hp},Same G H->Same (Mi.frz (lQ G a (.frz o (.dT kvs))) (lQ H a (.frz o (.dT kvs))) bs) G3->Same G (lQ G3 a (.dT kvs)):=λ{G G3} sg s3 y x q=>by
              by_cases z:y=a
              · subst z;have hx:x=.dT kvs:=by have:=sg _ _ q;rw[W]at this;cases this;rfl
                have:Mi.frz (lQ G y (.frz o (.dT kvs))) (lQ H y (.frz o (.dT kvs))) bs y=some (.frz o (.dT kvs)):=by unfold Mi.frz;rw[if_neg abs];exact cL q
                rw[cL (s3 _ _ this),hx]
              · rw[bz z];refine s3 _ _ ?_;unfold Mi.frz;split
                ·rw[bz z];exact sg _ _ q
                ·rw[bz z];exact q
             refine P v (lQ B3 a (.dT kvs)) (lQ U3 a (.dT kvs)) (lQ H3 a (.dT kvs)) N (R3.fz (jd (f3 R3.bh) t0) (jd (f3 R3.uh) t0) (jd (f3 (Same.refl _)) t0) hA (jM R3.bu) (jM R3.uh)) ⟨⟨C R.bh g3.b,C R.uh g3.u,λy x q=>?_⟩,λy x q=>?_,λy x q=>?_⟩ ⟨n3.nd,λy m=>?_,λy m=>?_⟩ (th w hA3 (y6 (jd (f3 R3.bh) t0)) w3)
             · by_cases z:y=a
               · subst z;cases qb:B3 y with
                 |none=>rw[mS qb]at q;cases q
                 |some x'=>
                   rw[cL qb]at q;cases q;rcases g3.nb y x' qb with h|h|h
                   · unfold Mi.frz at h;rw[if_neg abs]at h;cases q0:B y with
                     |none=>rw[mS q0]at h;cases h
                     |some x0=>rw[hB x0 q0];exact .inl rfl
                   ·rw[U2a]at h;cases h
                   ·have:=R3.bh _ _ qb;rw[w]at this;cases this;obtain⟨_,h⟩:=h;cases h
               · rw[bz z]at q;rcases g3.nb y x q with h|h|h
                 · unfold Mi.frz at h;split at h
                   ·rename_i m;obtain⟨q1,e1,t⟩:=g y m;rw[e1]at h;cases h;exact .inr (.inr t)
                   ·rw[bz z]at h;exact .inl h
                 · unfold Mi.frz at h;split at h
                   ·rename_i m;obtain⟨q1,e1,t⟩:=g y m;rw[e1]at h;cases h
                   ·rw[bz z]at h;exact .inr (.inl h)
                 ·exact .inr (.inr h)
             · by_cases z:y=a
               ·subst z;rw[W]at q;cases q;exact cL w
               ·rw[bz z];exact g3.h _ _ (by rw[bz z];exact q)
             · by_cases z:y=a
               · subst z;cases qb:U3 y with
                 |none=>rw[mS qb]at q;cases q
                 |some x'=>rw[cL qb]at q;cases q;exact .inl n
               · rw[bz z]at q;rcases g3.fr y x q with h|h|h
                 · unfold Mi.frz at h;split at h
                   ·rename_i m;obtain⟨q1,e1,t⟩:=g y m;rw[e1]at h;cases h;exact .inr (.inr t)
                   ·rw[bz z]at h;exact .inl h
                 ·rw[bz z]at h;exact .inr (.inl h)
                 ·exact .inr (.inr h)
             · have:=n3.fr y m
               have z:y≠a:=λz=>hA3 (z▸m);rw[bz z]at this;exact this
             · have:=n3.un y m
               have z:y≠a:=λz=>hA3 (z▸m);rw[bz z];exact this
         ·rw[on zl]at P;exact P.elim
       ·exact .inl (core R (R.uh _ _ n) (R.uh _ _ hb) λbs g=>Po.at P (X R g))
     |_=>exact P.elim
end
end Mi
namespace L2
open PySem PySem.Spec PyProof.Rows
section
variable{prog:Program}{w:World}{A:Around}{E:T1}{s:Shared}
def sN(h:Heap)(a:Array DictEntry):Prop:=∀e∈a,∃b o,e.key=.ref b/\h.get? b=some o/\o.cls=.type "tuple"
theorem Am{b:Addr}{o:Obj}{Q:Bool->Shared->Prop}(a:s.heap.get? b=some o)(c:o.cls=.type "tuple")(h:Q false s):wpAny (model prog w) A (Builtin.Dict.quietEq (.ref b)) Q E s:=by
 unfold Builtin.Dict.quietEq;dsimp only;refine wpAny_bind (wpAny_specialOf (T := "tuple") ⟨o,a,c⟩ PySem.F.slot_tuple_eq.lookup ?_);exact wpAny_pure h
theorem E9{id:String}{d:Addr}{o:Obj}{a:Array DictEntry}{ep:Nat}{Q:Array DictEntry->Shared->Prop}(k:s.heap.get? d=some o)(hd:o.data=.dict a ep)(m:sN s.heap a)(n:∀e∈a,¬ (a.filter (·.hash==e.hash)).size>1)(h:Q a s):
 wpAny (model prog w) A (Builtin.Dict.entriesForEmpty id d) Q E s:=by
 unfold Builtin.Dict.entriesForEmpty;refine wpAny_bind (wpAny_dictEntries k hd ?_);refine wpAny_bind ?_;rw[<-Array.forIn_toList]
 have c:∀l:List DictEntry,(∀e∈l,e∈a)->wpAny (model prog w) A (forIn l PUnit.unit λe (_:PUnit)=>(do
  let q <-Builtin.Dict.quietEq e.key
  if (!q)=true then
   if (a.filter (·.hash==e.hash)).size>1 then (do let _ <-(unsupported s!"{id}:keys-of-equal-hash" : Sem PUnit);pure (ForInStep.yield PUnit.unit)) else pure (ForInStep.yield PUnit.unit)
  else pure (ForInStep.yield PUnit.unit):Sem (ForInStep PUnit))) (λ_ g=>g=s) E s:=by
  intro l
  induction l with
  |nil=>intro _;exact Vz rfl
  |cons e l i=>
    intro f;rw[List.forIn_cons];obtain⟨b,ob,u,t,r⟩:=m e (f e Vt);refine Vp (Vp ?_);rw[u];refine Am t r ?_;simp only[Bool.not_false,XW];rw[on (n e (f e Vt))];exact Vz (i λx j=>f x (Vu _ j))
 refine Xw (c a.toList λe p=>Xy.mp p) (λ_ g e=>?_) λ_ _ e=>e;subst e;exact Vz h
theorem DE{p:String}{d o:Addr}{m:Obj}{l:Nat}{a:Array DictEntry}{ep:Nat}{Q:Unit->Shared->Prop}(j:d≠o)(h:(o==sysModules)=false)(hd:s.heap.get? d=some m)(g:m.data=.dict #[] l)(r:RawD s.heap o a ep)
 (n:sN s.heap a) (t:∀e∈a,¬ (a.filter (·.hash==e.hash)).size>1) (hz:a.size<=sizeLine) (h0:a=#[]->Q () s) (u:Q () {s with heap:=s.heap.update d (Obj.mapDictKeys λ_=>a)}):
 wpAny (model prog w) A (Builtin.Dict.mergeDict p d o) Q E s:=by
 obtain⟨x,c,y,f⟩:=id r;unfold Builtin.Dict.mergeDict;rw[if_neg (by simpa using j)];unfold Builtin.Dict.showsAll;rw[if_neg (by rw[h];exact Bool.false_ne_true)];refine wpAny_bind (wpAny_pure ?_);refine wpAny_bind (wpAny_dictEntries c f ?_);dsimp only;by_cases k:a=#[]
 · subst k;have few:(!(decide ((#[]:Array DictEntry).size<=8)&&(#[]:Array DictEntry).all λe=>(keyPart e.key).isSome))=false:=by simp
   rw[few,on VC];refine Vp (Ys c f ?_);refine Vp (WU c f ?_);refine Vp ?_;rw[Std.Legacy.Range.forIn_eq_forIn_range'];simp only[Std.Legacy.Range.size,Nat.sub_zero,Nat.add_sub_cancel,Nat.div_one,Array.size_empty,List.range'_zero,List.forIn_nil];exact Vz (Vz (h0 rfl))
 · have hsz:0<a.size:=by
    by_cases z:0<a.size
    ·exact z
    ·exact absurd (Array.eq_empty_of_size_eq_zero (by omega)) k
   have few:(!(decide (a.size<=8)&&a.all λe=>(keyPart e.key).isSome))=true:=by
    obtain⟨b,ob,v,_⟩:=n a[0] (Array.getElem_mem hsz)
    have:(a.all λe=>(keyPart e.key).isSome)=false:=by
     cases q:a.all λe=>(keyPart e.key).isSome with
     |false=>rfl
     |true=>
       have:=Array.all_eq_true.mp q 0 hsz
       rw[v]at this;cases this
    rw[this,Bool.and_false];rfl
   rw[few,Vo rfl];refine Vp (WU hd g ?_);rw[Vo (by rfl)];refine Vp (E9 c f n t ?_);have i:(!a.isEmpty)=true:=by simp[k]
   rw[Vo i];exact Vp (wpAny_updateDictKeysTo hd g (Vz u) (by omega))
end
def cH(k:List Int):Int:=reduceHash (Builtin.Tuple.tupleHashOf (k.map hashInt))
theorem AZ{P:Program}{w:World}(k:List Int):(tupleKind (aq P w)).hash (k.map Sum.inl)=cH k:=by
 show reduceHash (Builtin.Tuple.tupleHashOf ((k.map Sum.inl).map (SI w)))=_;rw[Wl];rfl
theorem wN{b:Array DictEntry}(h:(b.toList.map (·.hash)).Nodup):∀e∈b,¬ (b.filter (·.hash==e.hash)).size>1:=λe g=>by
 rw[<-Wi,Array.toList_filter]
 have a:∀{l:List DictEntry},(l.map (·.hash)).Nodup->(l.filter (·.hash==e.hash)).length<=1:=by
  intro l
  induction l with
  |nil=>intro _;simp
  |cons x l c=>
    intro nd;rw[Vq,VM]at nd;rw[Ws];by_cases z:(x.hash==e.hash)=true
    · rw[Vo z]
      have:l.filter (·.hash==e.hash)=[]:=List.filter_eq_nil_iff.mpr λy d q=>by
       have e1:x.hash=e.hash:=by simpa using z
       have f:y.hash=e.hash:=by simpa using q
       exact nd.1 (VV.mpr ⟨y,d,by rw[e1,f]⟩)
      rw[this];simp
    ·rw[on z];exact c nd.2
 have:=a h
 omega
section
variable{X:Cx}
def QZ:V->List V->Hp->VK->Prop:=λx vs H Q=>∃(d b:Addr) (kvs:List (List az×V)) (a:List (List Int)),x=.ref d/\vs=[.ref b]/\H d=some (.dT [])/\Rd H b (.dT kvs)/\d≠b/\kvs.map (·.1)=a.map (λk=>k.map Sum.inl)/\(a.map cH).Nodup/\Q .non (upd H d (.dT kvs))
theorem AD:Vj X "dict.update" QZ:=by
 intro G s Z H x vs v us Q I rx rv h;obtain⟨d,b,kvs,E,rfl,rfl,hd,hb,U,hk,hh,q⟩:=h;cases rx;obtain⟨u,rfl,ru⟩:=rv.one;cases ru;obtain⟨_,S,R,D,od,O,epd,c,t,j,M,_⟩:=(show ObjOk X.prog X.w H s.heap d (.dT []) from I.hok d _ hd);obtain⟨z,T,ys,g,ob,P,ep,L,K,hdb,i,W⟩:=(show ObjOk X.prog X.w H s.heap b (.dT kvs) from hb.ok I.hok);have l0:R=[]:=by cases D;rfl
 subst l0
 have e0:O=#[]:=by
  have:O.toList=[]:=M
  exact Array.toList_inj.mp this
 subst e0;have m:kvs.length=ys.length:=WV g
 have l:P.size=ys.length:=by
  have e:=congrArg List.length i
  rwa [Vr,Wi]at e
 have tk:sN s.heap P:=λe he=>by
  have N:e∈P.toList:=Xy.mpr he;rw[i]at N;obtain⟨y,r,rfl⟩:=VV.mp N
  have n:∀{f:List (List az×V)} {l2:List (List az×Addr×Value)},Paired (λ(p:List az×V) (q:List az×Addr×Value)=>p.1=q.1/\H q.2.1=some (.tup (p.1.map kV))/\RelV p.2 q.2.2) f l2->∀y∈l2,∃k:List az,H y.2.1=some (.tup (k.map kV)):=by
   intro f l2 h
   induction h with
   |nil=>intro y r;cases r
   |cons h _ J=>
     intro y r;rcases VA.mp r with e|e
     ·subst e;exact⟨_,h.2.1⟩
     ·exact J y e
  obtain⟨k,hk⟩:=n g y r;obtain⟨its,_,⟨o,ho,hc,_⟩,_⟩:=I.tuple (a:=y.2.1) (xs:=k.map kV) (.inl (.inl hk));exact⟨y.2.1,o,rfl,ho,hc⟩
 have Y:∀{f:List (List az×V)} {l2:List (List az×Addr×Value)},Paired (λ(p:List az×V) (q:List az×Addr×Value)=>p.1=q.1/\H q.2.1=some (.tup (p.1.map kV))/\RelV p.2 q.2.2) f l2->f.map (·.1)=l2.map (·.1):=by
  intro f l2 h
  induction h with
  |nil=>rfl
  |cons h _ J=>rw[Vq,Vq,h.1,J]
 have A:(P.toList.map (·.hash)).Nodup:=by
  rw[i,Wl]
  have e1:(ys.map ((·.hash)∘entryOfKey (tupleKind (aq X.prog X.w))))=E.map cH:=by
   have e2:ys.map (·.1)=E.map λk=>k.map Sum.inl:=by rw[<-Y g];exact hk
   have e3:ys.map ((·.hash)∘entryOfKey (tupleKind (aq X.prog X.w)))=(ys.map (·.1)).map (tupleKind (aq X.prog X.w)).hash:=by rw[Wl];rfl
   rw[e3,e2,Wl];exact WJ λk _=>AZ k
  rw[e1];exact hh
 refine wpAny_call_entry PySem.F.slot_dict_update ⟨od,c,t.1⟩ PySem.F.entry_dict_update ?_ (PySem.F.args_dict_update_2 _ _);have hTd:s.TypeIs (.ref d) "dict" := ⟨od,c,t.1⟩;have B:s.TypeIs (.ref b) "dict" := ⟨ob,L,K.1⟩;unfold Builtin.«dict.update»;refine wpAny_bind ?_;unfold Builtin.Dict.selfAndRest;refine wpAny_bind (wpAny_notOrdered_dict hTd ?_);show wpAny _ _ (pure (d,[Value.ref b])) _ _ s;refine wpAny_pure ?_;show wpAny _ _ (Builtin.Dict.updateFrom "dict.update" d (.ref b) [] .none) _ _ s;unfold Builtin.Dict.updateFrom;refine wpAny_bind (wpAny_typeOf B ?_);rw[if_neg (by decide)];refine wpAny_bind ?_;unfold Builtin.Dict.merge;refine wpAny_bind ?_;unfold Builtin.Dict.readDirectly;refine wpAny_bind (wpAny_isInstance B isSubtype_dict_dict ?_);simp only[Bool.not_true,Bool.false_eq_true,if_false];refine wpAny_bind (wpAny_specialOf B PySem.F.slot_dict_iter.lookup (wpAny_pure ?_));simp only[beq_self_eq_true,if_true];refine wpAny_bind (wpAny_pure ?_)
 have C:Paired (λ(p:List az×V) (q:List az×Addr×Value)=>p.1=q.1/\upd H d (.dT kvs) q.2.1=some (.tup (p.1.map kV))/\RelV p.2 q.2.2) kvs ys:=by
  have n:∀{f:List (List az×V)} {l2:List (List az×Addr×Value)},Paired (λ(p:List az×V) (q:List az×Addr×Value)=>p.1=q.1/\H q.2.1=some (.tup (p.1.map kV))/\RelV p.2 q.2.2) f l2->
   Paired (λ(p:List az×V) (q:List az×Addr×Value)=>p.1=q.1/\upd H d (.dT kvs) q.2.1=some (.tup (p.1.map kV))/\RelV p.2 q.2.2) f l2:=by
   intro f l2 h
   induction h with
   |nil=>exact .nil
   |cons h _ J=>exact .cons ⟨h.1,by rw[am (λz=>by have:=h.2.1;rw[z,hd]at this;cases this)];exact h.2.1,h.2.2⟩ J
  exact n g
 refine DE U T c j ⟨ob,L,K,hdb⟩ tk (wN A) (by rw[l,<-m];exact z) (λez=>?_) ?_
 · show wpAny _ _ (Builtin.Dict.addKeywords d [] >>= _) _ _ _;have ey:kvs=[]:=VZ.mp (by rw[m,<-l,ez];rfl);refine Vp (Vz (Vz ⟨.none,rfl,.non,H,I,rfl,?_⟩))
   have:upd H d (.dT kvs)=H:=by
    funext y;by_cases zy:y=d
    ·subst zy;rw[ao,ey,hd]
    ·exact am zy
   rw[this]at q;exact q
 · show wpAny _ _ (Builtin.Dict.addKeywords d [] >>= _) _ _ _;refine Vp (Vz (Vz ⟨.none,rfl,.non,_,I.write (x:=d) (e:=d) (o:=.dT kvs) (t':=s.toks) (by rw[hd];trivial) (.inl rfl) (λy u r e=>?_) ⟨_,V4 _ c (WH (Wb j _))⟩ ?_,rfl,q⟩))
   ·exact(V0 _ _ (WZ r)).trans e
   ·exact⟨z,S,ys,C,_,P,epd+1,V4 _ c (WH (Wb j _)),t.mapDictKeys _,Wb j _,i,W⟩
end
section
variable{X:Cx}
def BG(b:TE):TE:=λZ H Q=>b Z H λx H1=>∃a kvs,x=.ref a/\Rd H1 a (.dK kvs)/\∀l,H1 l=none->Q (.ref l) (upd H1 l (.lst (kvs.map (·.2))))
theorem IW{kvs:List (az×V)}{vs:List (az×Value)}(r:KV kvs vs):Vals (kvs.map (·.2)) (vs.map (·.2)):=by
 induction r with
 |nil=>exact .nil
 |cons h _ a=>exact .cons h.2 a
theorem tN{x:Str}{o:Expr}{L:TE}{p ap m pos:Pos}(hc:X.calm=true)(hg:Gl X x)(hm:X.mg x=none)(U:bootBuiltins x=some (.type "list"))(V:PE X o L)
 (Y:x ≠ "__name__" := by decide) (J:(x==("__debug__" : Str))=false:=by decide)
 (k:attributeBase o "values" X.env (eval o X.env)=eval o X.env:=by rfl) (i:(ap.endLine==m.line)=true:=by rfl)
 (t:starEach [.Call (.Attribute o "values" ap) [] [] m] X.env=(false,eval (.Call (.Attribute o "values" ap) [] [] m) X.env)::starEach [] X.env:=by rfl):
 PE X (.Call (.Name x p) [.Call (.Attribute o "values" ap) [] [] m] [] pos) (BG L):=by
 intro G s Z H Q I h;refine WM (kq I hg hm U ?_ Y J);refine WK (e:= .Call (.Attribute o "values" ap) [] [] m) ?_ t rfl;rw[t];show wpAny _ _ (spliced ((false,eval (.Call (.Attribute o "values" ap) [] [] m) X.env)::backTo pos (starEach [] X.env))) _ _ s;refine Wd ?_;refine wpAny_Call_method0_late k i (a7 (V G s Z H _ I h) λu c ⟨x1,H1,B,R,S⟩=>?_);obtain⟨a,kvs,rfl,N,q⟩:=S;have C:u=Value.ref a:=R;subst C;obtain⟨M,P,_⟩:=kB B (.inl ⟨kvs,N⟩);refine⟨"dict","dict.values",Wm,X9,PySem.F.type_dict_values,M,P,We rfl (PySem.evalArgs_none ?_)⟩;obtain⟨z,hd,vs,n,dd⟩:=jP B.hok N;refine Xc X9 M PySem.F.entry_dict_values (PySem.F.args_dict_values_1 _) (meets_dict_values (aq X.prog X.w) a hd) ⟨⟨vs,dd⟩,?_⟩;refine WE ?_;obtain⟨ob,es,ep,y,T,A,hk,hp,E⟩:=id dd;have hla:a<c.heap.objs.size:=VD y
 refine PySem.W.kdl_call (s:={c with heap:=c.heap.push {cls:=.type "dict_values",data:=.fields #[.ref a]}}) (PySem.W.kdl_values (knd:=aq X.prog X.w) (d:=a) (r:=c.heap.objs.size) (kvs:=vs) (ep:=ep)) (B.ok.hd hc)
  ⟨⟨_,VO _ rfl,rfl,rfl⟩,ob,es,Vv _ y,T,A,hk,hp,E⟩ (by rw[<-n.length];exact z) λh' O g c' kp K f=>?_
 have D:∀b o,c.heap.get? b=some o->h'.get? b=some o:=λb o eb=>kp b o (Heap.get?_push_of_some _ eb);have l:g.toList=vs.map (·.2):=PySem.W.kdl_vals_eq _ (by rw[Array.length_toList,f.1]) λj v e=>f.2 j v (by rw[<-Array.getElem?_toList];exact e);have sz:(c.heap.push {cls:=.type "dict_values",data:=.fields #[.ref a]}).objs.size=c.heap.objs.size+1:=Heap.size_push ..;dsimp only at K;rw[sz]at K;show EP X G Z Q (.ref (c.heap.push {cls:=.type "dict_values",data:=.fields #[.ref a]}).objs.size) _;rw[sz];refine⟨.ref (c.heap.objs.size+1),_,B.laid (t':=O) D (Nat.le_succ _) ?_,rfl,q _ (B.hok.fresh (Nat.le_succ _))⟩;refine⟨by rw[List.length_map];exact z,g.toList,c',by rw[l];exact IW n,?_⟩;rw[Array.toArray_toList];exact K
end
end L2
namespace Mi
open PySem L2
section
variable{Y:Cm}{E:XK}{ms:List Md}{K:F0}{B U H:Hp}{As:Nat->List Addr}{Z:St}{T:X0}{t:TE}{get:X0->Option D}{set:X0->D->X0}
def Qb(get:X0->Option D):X0->Res D:=λT=>match get T with|some d=>.ok d|none=>.bad
theorem Rl{i:Nat}(p:Prt Y ms t get set i (.ct .fz)):PJ Y (KC Y .F) E ms t (Qb get):=by
 intro B U As Z H T Q R P;unfold Qb at P;cases e:get T with
 |none=>rw[e]at P;exact P.elim
 |some d=>
   rw[e]at P;obtain⟨sh,c,d0,v,L,A,k,g,f,hd,h,b,a,j⟩:=p.rd R e;exact b _ (P v B U H [] R (Gw.refl _ _ _) New.nil (Ow.cn R.bh a))
def Bz:D->Res D | .dK _ vs=>.ok (.lst vs)|_=>.bad
theorem MR{ta:TE}{b:X0->Res D}(e:PJ Y (KC Y .F) E ms ta b):PJ Y (KO Y (.ct .fz)) E ms (BG ta) (un Bz b):=by
 intro B U As Z H T Q R P;refine e.bnd R P λx v I U1 H1 W _ h e1 i J c=>?_;cases x with
 |dK j ds=>
   obtain⟨a,kvs,rfl,g,k,f⟩:=J;exact⟨a,kvs,rfl,.inl g,λl d=>dR h c f d⟩
 |_=>exact c.elim
def gP:List az->List D->az->List az×List D
 |k::a,d::ds,j=>if k=j then gP a ds j else (k::(gP a ds j).1,d::(gP a ds j).2)
 |_,_,_=>([],[])
theorem p9{G:Hp}{k:az}:∀{kvs:List (az×V)} {ds:List D},Dns Y G ds (kvs.map (·.2))->(dZ kvs k).map (·.1)=(gP (kvs.map (·.1)) ds k).1/\Dns Y G (gP (kvs.map (·.1)) ds k).2 ((dZ kvs k).map (·.2))
 | [],ds,h=>by
   cases ds<;>exact⟨rfl,by show Dns Y G [] [];rw[Dns]⟩
 | p::kvs,ds,h=>by
   cases ds with
   |nil=>rw[Dns]at h;cases h
   |cons d ds=>
     rw[List.map_cons,Dns]at h;obtain⟨y,r,e,f,c⟩:=h;cases e;obtain⟨b,a⟩:=p9 (k:=k) c;unfold dZ at b a ⊢;rw[List.map_cons,List.filter_cons,gP];by_cases q:p.1=k
     ·rw[on (by simp[q]),Vo q];exact⟨b,a⟩
     ·rw[Vo (by simpa using q),on q];refine⟨by rw[Vq,b],?_⟩;rw[Vq,Dns];exact⟨_,_,rfl,f,a⟩
def lC(set:X0->D->X0)(T:X0)(a:List az)(vs:List D)(k:az):Out D:=match aT a vs k with
 |some y=>.ok y (set T (.dK (gP a vs k).1 (gP a vs k).2))
 |none=>.ok .non T
def m8(get:X0->Option D)(set:X0->D->X0)(mk:X0->Res D):X0->Out D:=λT=>match get T with
 |some (.dK a vs)=>((mk T).up T).bind λk T=>(match dX k with|some k=>lC set T a vs k|none=>.bad)
 |_=>.bad
theorem IR{z:TE}{mk:X0->Res D}(p:Pth Y ms t get set)(S:PJ Y (KR Y .X) E ms z mk):MJ Y (KR Y .F) E ms (vS t z (tC .non)) (m8 get set mk):=by
 intro B U As Z H T Q R P;unfold m8 at P;cases e:get T with
 |none=>rw[e]at P;exact P.elim
 |some d=>
   obtain⟨v,A,O,K,hA,cl⟩:=p.rd R e;cases d with
   |dK n vs=>
     rw[e]at P;replace P:Mo Y (KR Y .F) E ms B U Z (((mk T).up T).bind λk T=>(match dX k with|some k=>lC set T n vs k|none=>.bad)) Q:=P;obtain⟨a,kvs,rfl,C,W,rfl,V⟩:=K.dK rfl;refine O _ ⟨a,rfl,.inl ⟨kvs,.inl C⟩,S B U As Z H T _ R ?_⟩;cases s:mk T with
     |exc c=>rw[s]at P;exact λI U1 H1 m f=>P I U1 As H1 m f.toEx
     |bad=>rw[s]at P;exact P.elim
     |ok o=>
       rw[s]at P;intro u I U1 H1 N m f n1 q;have q:Dn Y H1 o u:=q;replace P:Mo Y (KR Y .F) E ms B U Z (match dX o with|some k=>lC set T n vs k|none=>.bad) Q:=P;cases x:dX o with
       |none=>rw[x]at P;exact P.elim
       |some k=>
         rw[x]at P;replace P:Mo Y (KR Y .F) E ms B U Z (lC set T n vs k) Q:=P;have j:Dns Y I vs (kvs.map (·.2)):=V.mono f.b;have i:=fQ (Y:=Y) (G:=I) k j;subst W;unfold lC at P;refine⟨kvs,k,f.h _ _ C,mL x q,λv g=>?_,λg=>?_⟩
         · cases l:aT (kvs.map (·.1)) vs k with
           |none=>rw[l]at i;rw[show cJ kvs k=none from i]at g;cases g
           |some y=>
             rw[l]at i P;obtain⟨w,r,J⟩:=i;rw[r]at g;cases g;obtain⟨M,L⟩:=p9 (Y:=Y) (G:=I) (k:=k) j;refine P _ I U1 As _ [] (cl I U1 H1 m f.b f.h a Vt _ _ ?_) f.toEx NewM.nil J;rw[<-M];exact Ow.dK' ao L
         · cases l:aT (kvs.map (·.1)) vs k with
           |some y=>rw[l]at i;obtain⟨w,r,J⟩:=i;rw[r]at g;cases g
           |none=>
             rw[l]at P;exact P .non I U1 As H1 [] m f.toEx NewM.nil (by show Dn Y I .non .non;rw[Dn])
   |_=>rw[e]at P;exact P.elim
def GO(set:X0->D->X0)(T:X0):D->Out D
 |.dT b vs=>(match ig (b.map λk=>.tup (k.map kD)) with|some a=>(if (a.map cH).Nodup/\vs.all aN=true then .ok .non (set T (.dT b vs)) else .bad)|none=>.bad)
 |_=>.bad
def qu(get:X0->Option D)(set:X0->D->X0)(me:X0->Res D):X0->Out D:=λT=>match get T with
 |some (.dT [] _)=>((me T).up T).bind λd T=>GO set T d
 |_=>.bad
theorem D8{te:TE}{me:X0->Res D}(p:Pth Y ms t get set)(W:PJ Y (KR Y .U) E ms te me):MJ Y (KR Y .F) E ms (Ab K "dict" QZ t (aA te bx)) (qu get set me):=by
 intro B U As Z H T Q R P;unfold qu at P;cases e:get T with
 |none=>rw[e]at P;exact P.elim
 |some d=>
   obtain⟨v,A,V,S,X,cl⟩:=p.rd R e;cases d with
   |dT l vs=>
     cases l with
     |cons _ _=>rw[e]at P;exact P.elim
     |nil=>
       rw[e]at P;replace P:Mo Y (KR Y .F) E ms B U Z (((me T).up T).bind λd T=>GO set T d) Q:=P;obtain⟨a,kvs,rfl,M,h2,rfl,h3⟩:=S.dT rfl;have y:kvs=[]:=List.map_eq_nil_iff.mp h2;subst y;refine V _ ⟨.inr (.inr (.inl ⟨rfl,.inr ⟨_,M⟩⟩)),W B U As Z H T _ R ?_⟩;cases J:me T with
       |exc c=>rw[J]at P;exact λI U1 H1 n j=>P I U1 As H1 n j.toEx
       |bad=>rw[J]at P;exact P.elim
       |ok x=>
         rw[J]at P;intro u I U1 H1 N n j n1 r;have r:Dn Y U1 x u:=r;replace P:Mo Y (KR Y .F) E ms B U Z (GO set T x) Q:=P;cases x with
         |dT l ds=>
           replace P:Mo Y (KR Y .F) E ms B U Z (match ig (l.map λk=>.tup (k.map kD)) with|some f=>(if (f.map cH).Nodup/\ds.all aN=true then .ok .non (set T (.dT l ds)) else .bad)|none=>.bad) Q:=P;cases L:ig (l.map λk=>.tup (k.map kD)) with
           |none=>rw[L]at P;exact P.elim
           |some f=>
             rw[L]at P;dsimp only at P;by_cases z:(f.map cH).Nodup/\ds.all aN=true
             · rw[Vo z]at P;rw[Dn]at r;obtain⟨b,s,rfl,g,m,C⟩:=r;have ek:=EO L;obtain⟨i,G⟩:=X a Vt;have O:=n.un i a G
               have w:a≠b:=λq=>by
                subst q;rcases g with g|⟨o,g⟩<;>(rw[O]at g;cases g)
               refine⟨a,b,s,f,rfl,rfl,j.h _ _ M,lY n.uh g,w,by rw[m,ek],z.1,?_⟩;refine P .non I U1 As _ [] (cl I U1 H1 n j.b j.h a Vt _ _ ?_) j.toEx NewM.nil (by show Dn Y I .non .non;rw[Dn]);rw[<-m];exact Ow.dT' ao (ci z.2 C)
             ·rw[on z]at P;exact P.elim
         |_=>exact P.elim
   |_=>rw[e]at P;exact P.elim
def Ks(c:Nat)(f:Str)(i:Nat)(g:List D->Out D)(a b:X0->Res D)(x:X0->Out D):X0->Out D:=λT=>match rg T i with
 |none=>.bad
 |some o=>if aZ c f o=true then ((a T).up T).bind λy T=>((b T).up T).bind λz T=>(x T).bind λw d=>(match rg d i with|some e=>bQ [.O i,.F,.F,.F] g [e,y,z,w] d|none=>.bad) else .bad
theorem IM{c:Nat}{C:Str}{p:List Md}{j:KT D V}{m:List D->Out D}{i:Nat}{ta tb tx:TE}{G x:X0->Res D}{n:X0->Out D}(ha:PJ Y (KR Y .F) E ms ta G)(hb:PJ Y (KR Y .F) E ms tb x)(hx:MJ Y (KR Y .F) E ms tx n)
 (hf:fitM ms [.O i,.F,.F,.F] p) (hU:∀d v B U M H N,j d v B U H N->j d v B M H N):MJ Y j E ms (cg (Y c) C (vJ Y p j m) [] E (bI i) (aA ta (aA tb (aA tx bx)))) (Ks c C i m G x n):=by
 intro B U As Z H T Q R P;unfold Ks at P;cases e:rg T i with
 |none=>rw[e]at P;exact P.elim
 |some o=>
   rw[e]at P;dsimp only at P;by_cases z:aZ c C o=true
   · rw[Vo z]at P;have l:=R.lo i;rw[e]at l;obtain⟨v0,h,_⟩:=l;refine⟨v0,bM h,?_⟩;obtain⟨a,dx,fs,rfl,h1,h2⟩:=iH z (R.read h e);refine⟨a,dx,fs,rfl,h1,h2,ha B U As Z H T _ R ?_⟩;cases e1:G T with
     |bad=>rw[e1]at P;exact P
     |exc c=>rw[e1]at P;exact λI U1 H1 R1 t=>P I U1 As H1 R1 t.toEx
     |ok y=>
       rw[e1]at P;intro v1 I U1 H1 W R1 t n1 J;refine hb I U1 As Z H1 T _ R1 ?_;replace P:Mo Y j E ms B U Z (((x T).up T).bind λz T=>(n T).bind λw f=>(match rg f i with|some g=>bQ [.O i,.F,.F,.F] m [g,y,z,w] f|none=>.bad)) Q:=P;cases S:x T with
       |bad=>rw[S]at P;exact P
       |exc c=>rw[S]at P;exact λA U2 H2 R2 s=>P A U2 As H2 R2 (t.toEx.trans s.toEx)
       |ok z=>
         rw[S]at P;intro v2 A U2 H2 N2 R2 s n2 d2;refine hx A U2 As Z H2 T _ R2 ?_;replace P:Mo Y j E ms B U Z ((n T).bind λw f=>(match rg f i with|some g=>bQ [.O i,.F,.F,.F] m [g,y,z,w] f|none=>.bad)) Q:=P;cases L:n T with
         |bad=>rw[L]at P;exact P
         |exc c f=>rw[L]at P;exact λB3 U3 u H3 R3 q=>P B3 U3 u H3 R3 ((t.toEx.trans s.toEx).trans q)
         |ok w f=>
           rw[L]at P;replace P:Mo Y j E ms B U Z (match rg f i with|some g=>bQ [.O i,.F,.F,.F] m [g,y,z,w] f|none=>.bad) Q:=P;intro v3 B3 U3 u H3 N3 R3 q n3 X;cases K:rg f i with
           |none=>rw[K]at P;exact P.elim
           |some g=>
             rw[K]at P;dsimp only at P;have J:Dn Y I y v1:=J;have d2:Dn Y A z v2:=d2;have X:Dn Y B3 w v3:=X;refine j7 (ps:=[.O i,.F,.F,.F]) (ds:=[g,y,z,w]) (vs:=[.ref a,v1,v2,v3]) R3 ?_ hf (by simp[cq]) (λk hk=>by simp[gT]at hk) hU (Mo.at (r:=bQ [.O i,.F,.F,.F] m [g,y,z,w] f) P ((t.toEx.trans s.toEx).trans q));exact⟨g,_,_,_,rfl,rfl,⟨h,K⟩,y,_,_,_,rfl,rfl,Dn.mono (s.b.trans q.b) J,z,_,_,_,rfl,rfl,Dn.mono q.b d2,w,_,_,_,rfl,rfl,X,rfl,rfl⟩
   ·rw[on z]at P;exact P.elim
theorem IB{c:Nat}{e:Str}{a:List Md}{j:List D->Out D}{i:Nat}{ta tb b:TE}{g f:X0->Res D}{d:X0->Out D}(n:PJ Y (KR Y .F) E0 ms ta g)(m:PJ Y (KR Y .F) E0 ms tb f)(k:MJ Y (KR Y .F) E0 ms b d)
 (l:fitM ms [.O i,.F,.F,.F] a):MJ Y (KR Y .F) E0 ms (cg (Y c) e (dq Y a (KR Y .F) j) [] E0 (bI i) (aA ta (aA tb (aA b bx)))) (Ks c e i j g f d):=IM n m k l λ_ _ _ _ _ _ _ h=>h
end
section
variable{Y:Cm}{E:XK}{Kr:KT D V}{pr:Nat->Bool}{ms:List Md}{K:F0}{B U H:Hp}{As:Nat->List Addr}{Z:St}{T:X0}
theorem C5{s:Sh}{wi:TI}{L:List Nat}{ti:TT}{te:TE}{src:X0->Res (List D)}{mi:X0->Res Bool}{me:X0->Res D}(hs:PJ Y (KI Y .F .X) E ms wi src)(hix:L.Nodup)(hti:PJ Y KB E0 (ia .F ms L) ti mi)(hte:PJ Y (KO Y s) E0 (ia .F ms L) te me):
 PJ Y (KO Y (.ct s)) E ms (gY wi L ti te) (fc src L mi me):=by
 intro B U As Z H T Q R P;refine hs.bnd R P λds J I U1 H1 W _ R1 e1 n1 ⟨vs,hJ,hd⟩ P1 p hp=>?_;have hd:Dns Y I ds vs:=hd;by_cases z:ds.length<ac
 · rw[Vo z]at P1;have hvl:ds.length=vs.length:=hd.len;have hpA:∀i,p∉As i:=λi=>R1.fresh hp i
   refine⟨λi m ys H2=>i<=ds.length/\m=ds.length-i/\H2 p=some (.lst ys)/\ys.length<=i/\∃S K l N,Rel Y ms S K As Z H2 T/\Gw I U1 H1 S K H2/\K p=none/\p∉N/\New N H1 K As/\Ows Y S H2 l s ys N/\
    Po Y (KO Y (.ct s)) E ms I U1 As Z H1 T ((aI mi me (cz T L) (ds.drop i)).bind λr=>.ok (.lst (l++r))) Q,⟨ds.length,Wr _,rfl,ao,VG _,I,U1,[],[],R1.new hp,Gw.newO R1 hp,R1.uh.free hp,by simp,New.nil,by rw[Ows];exact⟨rfl,rfl⟩,P1⟩,?_⟩
   rintro i m ys H2 ⟨hi,rfl,hy,hle,S,K,l,N,R2,g2,u2,pN,nN,dz,k⟩;have M:=hJ H2 g2.h;refine⟨hy,WA hle (cA (Wj (WA hi z))),?_⟩;by_cases hlt:i<ds.length
   · refine .inr ⟨M.2.1 i (by omega),λv H3 hyl=>?_⟩;obtain⟨rfl,ev⟩:=M.2.2 i v H3 (by omega) hyl;obtain⟨d,ed,dd⟩:=hd.geti ev;rw[iM ed,aI]at k;have RI:=R2.inner (m:= .F) hix (SK R2.bu R2.uh (Dn.mono g2.b dd));refine hti S K _ _ H3 _ _ RI ?_
     -- what an inner step leaves
     have n:∀{C f t:Hp} {a:Addr} {o1:HO},Same f t->Gw S K H3 C f t->K a=none->H3 a=some o1->¬ cX o1->f a=none:=λ{C f t a o1} uh g h1 h2 h3=>by
      cases q:f a with
      |none=>rfl
      |some o=>
        rcases g.fr a o q with z|z|z
        ·rw[h1]at z;cases z
        ·rw[h2]at z;cases z
        ·have:=uh a o q;rw[g.h _ _ h2]at this;cases this;exact(h3 z).elim
     have relU:∀{C f t:Hp},Same C f->Same f t->Gw S K H3 C f t->Rel Y ms C f As Z t T:=λ{C f t} bu uh g=>R2.grow g.b g.u g.h bu uh λj a A=>by
      obtain⟨o',q',nt⟩:=(R2.lo j).at2 A;exact n uh g (R2.un j a A) q' nt
     have nU:∀{C f t:Hp},Same f t->Gw S K H3 C f t->New N H1 f As:=λ{C f t} uh g=>⟨nN.nd,nN.fr,λa A=>by
      obtain⟨o',q',nt⟩:=Ows.at2 dz A
      exact n uh g (nN.un a A) q' nt⟩
     have dzU:∀{C f t:Hp},Gw S K H3 C f t->Ows Y C t l s ys N:=λ{C f t} g=>Ows.mono g.b (λa A=>by
      obtain⟨o',q',nt⟩:=Ows.at2 dz A
      rw[q',g.h _ _ q']) dz
     have pt:¬ cX (.lst ys):=λ⟨_,z⟩=>by cases z
     cases eb:mi (some d::cz T L) with
     |bad=>rw[eb]at k;exact k.elim
     |exc c=>rw[eb]at k;exact k.elim
     |ok c=>
       rw[eb]at k;intro b C f t N3 O g3 n3 hb;cases hb;cases c with
       |false=>
         rw[on VC];exact⟨ds.length-(i+1),by omega,hlt,rfl,g3.h _ _ hy,by omega,C,f,l,N,relU O.bu O.uh g3,g2.trans g3,n O.uh g3 u2 hy pt,pN,nU O.uh g3,dzU g3,k⟩
       |true=>
         rw[Vo rfl];refine hte C f _ _ t _ _ O ?_;replace k:Po Y (KO Y (.ct s)) E ms I U1 As Z H1 T (((me (some d::cz T L)).calm.bind λx=>(aI mi me (cz T L) (ds.drop (i+1))).bind λxs=>.ok (x::xs)).bind λr=>.ok (.lst (l++r))) Q:=k;cases ee:me (some d::cz T L) with
         |bad=>rw[ee]at k;exact k.elim
         |exc c=>rw[ee]at k;exact k.elim
         |ok x=>
           rw[ee]at k;intro y B4 U4 H5 N4 R4' g4 n4 hx;have hx:Ow Y B4 H5 x s y N4:=hx;have G:=g3.trans g4;have y5:H5 p=some (.lst ys):=G.h _ _ hy;have pN4:p∉N4:=λhm=>by have:=n4.fr p hm;rw[g3.h _ _ hy]at this;cases this
           have up4:=n R4'.uh G u2 hy pt;have nN4:=nU R4'.uh G;have R4:=relU R4'.bu R4'.uh G
           have g5:Gw I U1 H1 B4 U4 (upd H5 p (.lst (ys++[y]))):=by
            have g:=g2.trans G;exact⟨g.toEx,λa o q=>by rw[am (aL q hp)];exact g.h a o q,g.fr⟩
           refine⟨y5,ds.length-(i+1),by omega,hlt,rfl,ao,by rw[Vw,Wz];omega,B4,U4,l++[x],N++N4,R4.poke up4 hpA,g5,up4,?_,?_,?_,?_⟩
           · intro hm;rcases Vy.mp hm with h|h
             ·exact pN h
             ·exact pN4 h
           · refine⟨VW.mpr ⟨nN.nd,n4.nd,λa A c hc e=>?_⟩,λa A=>?_,λa A=>?_⟩
             · obtain⟨o',q',nt⟩:=Ows.at2 dz A
               have:=n4.fr c hc
               rw[<-e,g3.h _ _ q']at this;cases this
             · rcases Vy.mp A with h|h
               ·exact nN.fr a h
               ·exact(g2.h.trans g3.h).free (n4.fr a h)
             · rcases Vy.mp A with h|h
               ·exact nN4.un a h
               ·exact n4.un a h
           · have app:∀{l:List D} {ys:List V} {N:List Addr},Ows Y B4 H5 l s ys N->p∉N->Ows Y B4 (upd H5 p (.lst (ys++[y]))) l s ys N->True:=λ_ _ _=>trivial
             have key:∀{H6:Hp} {l:List D} {ys:List V} {N:List Addr},Ows Y B4 H6 l s ys N->Ow Y B4 H6 x s y N4->Ows Y B4 H6 (l++[x]) s (ys++[y]) (N++N4):=by
              intro H6 l
              induction l with
              |nil=>
                intro ys N h w;rw[Ows]at h;obtain⟨rfl,rfl⟩:=h;show Ows Y B4 H6 [x] s [y] N4;rw[Ows];exact⟨y,[],N4,[],rfl,by simp,w,by rw[Ows];exact⟨rfl,rfl⟩⟩
              |cons z l ih=>
                intro ys N h w;rw[Ows]at h;obtain⟨u,r,A1,A2,rfl,rfl,h1,h2⟩:=h;show Ows Y B4 H6 (z::(l++[x])) s (u::(r++[y])) _;rw[Ows];exact⟨u,r++[y],A1,A2++N4,rfl,by rw[Wk],h1,ih h2 w⟩
             exact key (Ows.mono (Same.refl _) (λa A=>am (λe:a=p=>pN (e▸A))) (dzU G)) (Ow.mono (Same.refl _) (λa A=>am (λe:a=p=>pN4 (e▸A))) hx)
           · cases eg:aI mi me (cz T L) (ds.drop (i+1)) with
             |ok r=>
               rw[eg]at k;show Po Y (KO Y (.ct s)) E ms I U1 As Z H1 T (.ok (.lst (l++[x]++r))) Q;rw[Wk];exact k
             |exc c=>rw[eg]at k;exact k
             |bad=>rw[eg]at k;exact k
   · have e:i=ds.length:=by omega
     subst e;rw[Xx,aI]at k;refine .inl ⟨M.1 _ (by omega),?_⟩;have P3:Po Y (KO Y (.ct s)) E ms I U1 As Z H1 T (.ok (.lst (l++[]))) Q:=k;rw[V3]at P3;refine P3 (.ref p) S K H2 (p::N) R2 g2 ⟨VM.mpr ⟨pN,nN.nd⟩,λa q=>?_,λa q=>?_⟩ ?_
     · rcases VA.mp q with e|e
       ·rw[e];exact hp
       ·exact nN.fr a e
     · rcases VA.mp q with e|e
       ·rw[e];exact u2
       ·exact nN.un a e
     ·show Ow Y S H2 (.lst l) (.ct s) (.ref p) (p::N);rw[Ow];exact⟨p,ys,N,rfl,hy,rfl,dz⟩
 ·rw[on z]at P1;exact P1.elim
end
end Mi
namespace Cl
open PySem L2 Mi
abbrev DJ(X:Type):=List (Int×X)
section
variable{X:Type}
def kG(f:X->D)(F:DJ X):D:=.dK (F.map λp=>Sum.inl p.1) (F.map λp=>f p.2)
def DJ.get(F:DJ X)(k:Int):Option X:=(F.find? λp=>decide (p.1=k)).map (·.2)
def DJ.put(F:DJ X)(k:Int)(v:X):DJ X:=if (DJ.get F k).isSome=true then F.map λp=>if p.1=k then (p.1,v) else p else F++[(k,v)]
def DJ.del(F:DJ X)(k:Int):DJ X:=F.filter λp=>decide (p.1≠k)
theorem pL{f:X->D}{k:Int}:∀F:DJ X,aT (F.map λp=>(Sum.inl p.1:az)) (F.map λp=>f p.2) (Sum.inl k)=(DJ.get F k).map f
 |[]=>rfl
 | p::F=>by
   have a:=pL (f:=f) (k:=k) F;unfold DJ.get at *;rw[List.map_cons,List.map_cons,aT,List.find?_cons];by_cases q:p.1=k
   ·simp[q]
   · have:¬ (Sum.inl p.1:az)=Sum.inl k:=λz=>q (XU z)
     rw[on this,a];simp[q]
theorem ug{k:Int}:∀F:DJ X,bX (F.map λp=>(Sum.inl p.1:az)) (Sum.inl k)=(DJ.get F k).isSome
 |[]=>rfl
 | p::F=>by
   have a:=ug (k:=k) F;unfold bX DJ.get at *;rw[List.map_cons,List.any_cons,List.find?_cons,a];by_cases q:p.1=k
   ·simp[q]
   · have:¬ (Sum.inl p.1:az)=Sum.inl k:=λz=>q (XU z)
     simp[q,this]
theorem pw{f:X->D}{k:Int}{v:X}:∀F:DJ X,g9 (F.map λp=>(Sum.inl p.1:az)) (F.map λp=>f p.2) (Sum.inl k) (f v)=(F.map λp=>if p.1=k then (p.1,v) else p).map λp=>f p.2
 |[]=>rfl
 | p::F=>by
   rw[Vq,Vq,g9,pw F];by_cases q:p.1=k
   ·simp[q]
   · have:¬ (Sum.inl p.1:az)=Sum.inl k:=λz=>q (XU z)
     simp[q,this]
theorem A6{f:X->D}{F:DJ X}{k:Int}{v:X}(h:F.length<ac):qa (kG f F) (.int k) (f v)=some (kG f (DJ.put F k v)):=by
 show((dX (.int k)).bind λk=>if (F.map λp=>(Sum.inl p.1:az)).length<ac then some (if bX (F.map λp=>(Sum.inl p.1:az)) k=true then D.dK _ (g9 _ _ k (f v)) else .dK _ _) else none)=_;show(if (F.map λp=>(Sum.inl p.1:az)).length<ac then some (if bX (F.map λp=>(Sum.inl p.1:az)) (Sum.inl k)=true then D.dK _ (g9 _ _ (Sum.inl k) (f v)) else .dK _ _) else none)=_;rw[if_pos (by rw[List.length_map];exact h),ug];unfold DJ.put;by_cases q:(DJ.get F k).isSome=true
 ·rw[if_pos q,if_pos q,pw];unfold kG;congr 2;rw[List.map_map];refine List.map_congr_left λp _=>?_;show Sum.inl p.1=Sum.inl (if p.1=k then (p.1,v) else p).1;split<;>rfl
 ·rw[if_neg q,if_neg q];unfold kG;rw[List.map_append,List.map_append];rfl
theorem p8{f:X->D}{k:Int}:∀F:DJ X,gP (F.map λp=>(Sum.inl p.1:az)) (F.map λp=>f p.2) (Sum.inl k)=((DJ.del F k).map (λp=>Sum.inl p.1),(DJ.del F k).map λp=>f p.2)
 |[]=>rfl
 | p::F=>by
   have a:=p8 (f:=f) (k:=k) F;unfold DJ.del at *;rw[List.map_cons,List.map_cons,gP,List.filter_cons,a];by_cases q:p.1=k
   ·simp[q]
   · have:¬ (Sum.inl p.1:az)=Sum.inl k:=λz=>q (XU z)
     simp[q,this]
theorem A4{p:Int×X}{F:DJ X}{k:Int}:DJ.get (p::F) k=if p.1=k then some p.2 else DJ.get F k:=by
 unfold DJ.get;rw[List.find?_cons];by_cases q:p.1=k
 ·simp[q]
 ·simp[q]
def DJ.nd(F:DJ X):Prop:=(F.map (·.1)).Nodup
theorem E5{F:DJ X}(n:DJ.nd F){k:Int}{v:X}(h:(k,v)∈F):DJ.get F k=some v:=by
 induction F with
 |nil=>cases h
 |cons p F a=>
   unfold DJ.nd at n;rw[List.map_cons,List.nodup_cons]at n;rw[A4];rcases List.mem_cons.mp h with e|e
   ·subst e;rw[Vo rfl]
   · by_cases q:p.1=k
     ·exact(n.1 (VV.mpr ⟨_,e,q.symm⟩)).elim
     ·rw[on q];exact a n.2 e
theorem yA{F:DJ X}{k:Int}(n:DJ.nd F):DJ.nd (DJ.del F k):=by
 unfold DJ.nd DJ.del at *;exact n.sublist (List.Sublist.map _ List.filter_sublist)
theorem AS{F:DJ X}{k:Int}{v:X}:(DJ.put F k v).map (·.1)=if (DJ.get F k).isSome=true then F.map (·.1) else F.map (·.1)++[k]:=by
 unfold DJ.put;split
 ·rw[Wl];refine WJ λp _=>?_;show(if p.1=k then (p.1,v) else p).1=p.1;split<;>rfl
 ·rw[V7];rfl
theorem Iw{F:DJ X}{k:Int}{v:X}(n:DJ.nd F):DJ.nd (DJ.put F k v):=by
 unfold DJ.nd at *;rw[AS];split
 ·exact n
 ·rename_i q;refine VW.mpr ⟨n,by simp,λa d b c e=>?_⟩;rw[VF.mp c]at e;subst e;obtain⟨p,hp,rfl⟩:=VV.mp d;exact q (by rw[E5 n (show(p.1,p.2)∈F from hp)];rfl)
end
section
variable{Z σ' W X M L:Type}{rep:Z->X0}{Y:σ'->X0}
theorem OP{e:W->D}{get:X0->Option D}{g:Z->Option W}(b:∀s,get (rep s)=(g s).map e):EJ rep e (Qb get) (vC g):=λs=>by
 unfold Qb vC;rw[b];cases g s with
 |none=>trivial
 |some a=>exact rfl
@[simp] def JJ(F:DJ X):Res (List X):=.ok (F.map (·.2))
theorem NC{e:X->D}(F:DJ X):SimR (eL e) (Bz (kG e F)) (JJ F):=by
 show Res.ok (D.lst (F.map λp=>e p.2))=Res.ok (D.lst ((F.map (·.2)).map e));rw[Wl];rfl
@[simp] def Fk(F:DI (Option X))(k:List Int):Res (Option X):=.ok ((F.get k).bind id)
theorem uo{e:X->D}{a mk:X0->Res D}{b:Z->Res (DI (Option X))}{ck:Z->Res (List Int)}(d:EJ rep (aS (eO e)) a b)(c:EJ rep (o0 D.int) mk ck):EJ rep (eO e) (mR a mk) (aD Fk b ck):=λs=>(d s).bnd λF=>by
 show SimR (eO e) (if true=true then _ else _) _;rw[if_pos rfl];refine(c s).bnd λk=>?_;show fB (aS (eO e) F) (.tup (k.map D.int)) .non=.ok (eO e ((F.get k).bind id));unfold fB;rw[fU];cases F.get k<;>rfl
theorem Jf{e:X->D}{m:X0->Res D}{c:Z->Res (DI X)}(h:EJ rep (aS e) m c):EJ rep (List.map (o0 D.int)) (vY m) (aR pR c):=λs=>by
 unfold vY aR;refine(h s).bnd λF=>?_;show Res.ok _=Res.ok _;rw[List.map_map,List.map_map];congr 1;refine List.map_congr_left λp _=>?_;show D.tup ((p.1.map (Sum.inl:Int->az)).map kD)=D.tup (p.1.map D.int);rw[List.map_map];rfl
@[simp] def K9(g:Z->Option (DJ W))(p:Z->DJ W->Z)(ck:Z->Res Int)(a:Z->OutC Z W):Z->FlC Z X:=λs=>Js (a s) λx s=>match g s with
 |none=>.bad
 | some F=>(match ck s with
   |.ok k=>if F.length<ac then .nx (p s (DJ.put F k x)) else .bad
   |.exc y=>.exc y s
   |.bad=>.bad)
theorem GR{e:W->D}{eR:X->D}{get:X0->Option D}{set:X0->D->X0}{g:Z->Option (DJ W)}{p:Z->DJ W->Z}{mk:X0->Res D}{ck:Z->Res Int}{b:X0->Out D}{c:Z->OutC Z W}(i:∀s,get (rep s)=(g s).map (kG e))(f:∀s F,set (rep s) (kG e F)=rep (p s F))
 (a:EJ rep D.int mk ck) (d:NJ rep e b c):TJ rep eR (eQ get set mk b) (K9 g p ck c):=λs=>SimS.bd (d s) λx s=>by
 have a:=a s;rw[i];cases g s with
 |none=>trivial
 |some F=>
   show SimS rep eR (lA set (e x) (kG e F) (rep s) (mk (rep s))) _;dsimp only;refine SimR.el a (λk=>?_) (λ_=>rfl) λ_=>trivial;show SimS rep eR (lA set (e x) (kG e F) (rep s) (.ok (.int k))) (if F.length<ac then FlC.nx (p s (DJ.put F k x)) else .bad);by_cases h:F.length<ac
   ·rw[if_pos h];unfold lA;dsimp only;rw[A6 h];show SO.nx _=SO.nx _;rw[f]
   ·rw[on h];trivial
@[simp] def pV(g:Z->Option (DJ W))(p:Z->DJ W->Z)(ck:Z->Res Int):Z->OutC Z (Option W):=λs=>match g s with
 |none=>.bad
 | some F=>bndO (ck s) s λk=>match DJ.get F k with
   |some x=>.ok (some x) (p s (DJ.del F k))
   |none=>.ok none s
theorem yz{e:W->D}{get:X0->Option D}{set:X0->D->X0}{g:Z->Option (DJ W)}{p:Z->DJ W->Z}{mk:X0->Res D}{ck:Z->Res Int}(c:∀s,get (rep s)=(g s).map (kG e))(b:∀s F,set (rep s) (kG e F)=rep (p s F))(a:EJ rep D.int mk ck):NJ rep (eO e) (m8 get set mk) (pV g p ck):=λs=>by
 have a:=a s;unfold m8 pV;rw[c];cases g s with
 |none=>trivial
 |some F=>
   show SimO rep (eO e) (((mk (rep s)).up (rep s)).bind λk T=>(match dX k with|some k=>lC set T (F.map λp=>(Sum.inl p.1:az)) (F.map λp=>e p.2) k|none=>.bad)) (bndO (ck s) s _);refine SimR.el a (λk=>?_) (λ_=>rfl) λ_=>trivial;show SimO rep (eO e) (lC set (rep s) (F.map λp=>(Sum.inl p.1:az)) (F.map λp=>e p.2) (Sum.inl k)) (match DJ.get F k with|some x=>OutC.ok (some x) (p s (DJ.del F k))|none=>.ok none s);unfold lC;rw[pL];cases d:DJ.get F k with
   |none=>exact rfl
   |some x=>
     show Out.ok (e x) (set (rep s) (.dK (gP _ _ (Sum.inl k)).1 (gP _ _ (Sum.inl k)).2))=Out.ok (e x) (rep (p s (DJ.del F k)));rw[p8,<-b];rfl
open Classical in
noncomputable def qv(g:Z->Option (DI W))(p:Z->DI W->Z)(c:Z->Res (DI W)):Z->OutC Z Unit:=λs=>match g s with
 |some []=>bndO (c s) s λF=>if ((F.map (·.1)).map cH).Nodup then .ok () (p s F) else .bad
 |_=>.bad
theorem wJ(F:DI W):ig ((F.map λp=>p.1.map (Sum.inl:Int->az)).map λk=>.tup (k.map kD))=some (F.map (·.1)):=by
 have:((F.map λp=>p.1.map (Sum.inl:Int->az)).map λk=>D.tup (k.map kD))=(F.map (·.1)).map (o0 D.int):=by
  rw[Wl,Wl];refine WJ λp _=>?_;show D.tup ((p.1.map (Sum.inl:Int->az)).map kD)=D.tup (p.1.map D.int);rw[Wl];rfl
 rw[this];exact pX _
theorem qS{e:W->D}{get:X0->Option D}{set:X0->D->X0}{g:Z->Option (DI W)}{p:Z->DI W->Z}{me:X0->Res D}{c:Z->Res (DI W)}(j:∀s,get (rep s)=(g s).map (aS e))(h:∀s F,set (rep s) (aS e F)=rep (p s F))(f:∀a,aN (e a)=true)(l:EJ rep (aS e) me c):NJ rep eN (qu get set me) (qv g p c):=λs=>by
 have i:=l s;unfold qu qv;rw[j];cases g s with
 |none=>trivial
 |some m=>
   cases m with
   |cons _ _=>trivial
   |nil=>
     show SimO rep eN (((me (rep s)).up (rep s)).bind λd T=>GO set T d) (bndO (c s) s _);refine SimR.el i (λF=>?_) (λ_=>rfl) λ_=>trivial;show SimO rep eN (match ig ((F.map λp=>p.1.map (Sum.inl:Int->az)).map λk=>.tup (k.map kD)) with|some b=>(if (b.map cH).Nodup/\(F.map λp=>e p.2).all aN=true then Out.ok .non (set (rep s) (aS e F)) else .bad)|none=>.bad) (if ((F.map (·.1)).map cH).Nodup then OutC.ok () (p s F) else .bad);rw[wJ];dsimp only;by_cases z:((F.map (·.1)).map cH).Nodup
     ·rw[Vo z,Vo ⟨z,by rw[Yq,Wh];exact λa _=>f _⟩,h];rfl
     ·rw[on z];trivial
@[simp] def UZ{d c b a:Type}(f:d->c->b->a->OutC σ' M)(w:σ'->Z->Z)(e:Z->Option d)(o:Z->Res c)(n:Z->Res b)(m:Z->OutC Z a):Z->OutC Z M:=λs=>match e s with
 |none=>.bad
 | some _=>bndO (o s) s λk=>bndO (n s) s λj=>xy (m s) λi g=>match e g with
   |none=>.bad
   |some l=>(match f l k j i with | .ok r h=>.ok r (w h g) | .exc x h=>.exc x (w h g) | .bad=>.bad)
theorem RY{p n m l:Type}{e0:p->D}{e1:n->D}{v:m->D}{C:l->D}{L u:X0->Res D}{A:X0->Out D}{e:Z->Option p}{P:Z->Res n}{E:Z->Res m}{G:Z->OutC Z l}{eR:M->D}{c:Nat}{K:Str}{i:Nat}{t:List D->Out D}{f:p->n->m->l->OutC σ' M}{w:σ'->Z->Z}
 (R:∀a,aZ c K (e0 a)=true) (N:∀y s,cf [.O i,.F,.F,.F] 0 (Y y) (rep s)=rep (w y s)) (j:∀s,rg (rep s) i=(e s).map e0) (S:∀H d g q,SimO Y eR (t [e0 H,e1 d,v g,C q]) (f H d g q)) (W:EJ rep e1 L P) (V:EJ rep v u E) (U:NJ rep C A G):
 NJ rep eR (Ks c K i t L u A) (UZ f w e P E G):=λs=>by
 have g1:=W s;have B:=V s;have X:=U s;unfold Ks UZ;rw[j];cases e s with
 |none=>trivial
 |some o=>
   dsimp only[Option.map];rw[if_pos (R o)];refine SimR.el g1 (λd=>?_) (λ_=>rfl) λ_=>trivial;show SimO rep eR (((u (rep s)).up (rep s)).bind λz T=>(A T).bind λw b=>(match rg b i with|some h=>bQ [.O i,.F,.F,.F] t [h,e1 d,z,w] b|none=>.bad)) (bndO (E s) s _);cases J:E s with
   |bad=>trivial
   |exc x=>rw[J]at B;rw[show u (rep s)=_ from B];rfl
   |ok g=>
     rw[J]at B;rw[show u (rep s)=_ from B];show SimO rep eR ((A (rep s)).bind λw b=>(match rg b i with|some h=>bQ [.O i,.F,.F,.F] t [h,e1 d,v g,w] b|none=>.bad)) (xy (G s) _);refine SimO.bd X λq Q=>?_;rw[j];cases e Q with
     |none=>trivial
     |some h=>
       dsimp only[Option.map];have k:=S h d g q;unfold bQ;cases I:f h d g q with
       |bad=>trivial
       |ok r y=>rw[I]at k;rw[show t [e0 h,e1 d,v g,C q]=_ from k];show Out.ok _ _=Out.ok _ _;rw[N]
       |exc x y=>rw[I]at k;rw[show t [e0 h,e1 d,v g,C q]=_ from k];show Out.exc _ _=Out.exc _ _;rw[N]
end
end Cl
namespace L2
open PySem PySem.Spec PyProof.Rows
section
variable{X:Cx}{G:P4}{Z:St}{H:Hp}{s:Shared}{a b:Addr}{kvs:List (List az×V)}{k:List az}{v:V}{A:Around}{E:T1}
theorem Jk{dflt:Value}{Q:T1}(l:A.units+1<cLine)(I:Inv X G Z H s)(e:H a=some (.dT kvs))(V:H b=some (.tup (k.map kV)))
 (h:∀v M r,cJ kvs k=some v->Inv X G Z (upd H a (.dT (dZ kvs k))) r->RelV v M->Q M r) (h0:cJ kvs k=none->∀r,Inv X G Z H r->Q dflt r):wpAny (model X.prog X.w) A (call (.builtin "dict.pop") [.ref a,.ref b,dflt]) Q E s:=by
 obtain⟨z,hd,xs,f,dd⟩:=Fc I.hok e;have hz:xs.length<=sizeLine:=by rw[<-WV f];exact z
 have i:=eJ I.hok V;have g:=tupleKind_room_in1 (knd:=aq X.prog X.w) l;have N:=dd.typeIs;obtain⟨o,n,ep,m,U,d,x,K,t⟩:=dd;have T:n.size=xs.length:=size_of_entries x;refine wpAny_call_entry PySem.F.slot_dict_pop N PySem.F.entry_dict_pop ?_ (PySem.F.args_dict_pop_3 _ _ _);unfold Builtin.«dict.pop»;refine wpAny_bind ?_;unfold Builtin.Dict.keyAndDefault;refine wpAny_bind (wpAny_notOrdered_dict N ?_);show wpAny _ _ (pure (a,Value.ref b,some dflt)) _ _ s;refine wpAny_pure ?_;dsimp only;rw[if_neg (by simp[keyPart])];refine wpAny_bind (wpAny_dictEntries m d ?_);refine wpAny_bind (wpAny_pure ?_);cases D:n.isEmpty with
 |true=>
   have R:xs=[]:=by
    have e1:n.size=0:=by simpa using D
    exact VZ.mp (by omega)
   rw[Vo rfl];refine Vp (Vp (wpAny_rule (Vz ?_)));show wpAny _ _ (Builtin.Dict.missedRemoval a (.ref b) >>= _) _ _ _;refine Vp (wpAny_missedRemoval_other hd ?_);refine Vp (wpAny_rule (Vz ⟨_,rfl,?_⟩));refine h0 ?_ _ I
   have:=f.val k
   rw[R]at this;cases q:cJ kvs k with
   |none=>rfl
   |some v=>rw[q]at this;obtain⟨u,l,_⟩:=RelO.some_of this;cases l
 |false=>
   rw[if_neg Bool.false_ne_true];refine wpAny_bind ?_;unfold Builtin.Dict.takeOut
   try with_reducible refine WW ?_
   refine Vp ((tupleKind (aq X.prog X.w)).pyHash g i ?_);refine Vp (wpAny_dictFind_heap (knd:=tupleKind (aq X.prog X.w)) (s:={s with toks:=s.toks+(tupleKind (aq X.prog X.w)).draws k}) g i m d x K t ?_ ?_)
   · intro C
     have B:cJ kvs k=none:=by
      have:=f.val k
      rw[atKey_none_of_get C]at this;cases q:cJ kvs k with
      |none=>rfl
      |some v=>rw[q]at this;obtain⟨u,l,_⟩:=RelO.some_of this;cases l
     refine Vz ?_;simp only[Option.isNone_none,XW];refine Vp (wpAny_missedRemoval_other hd ?_);exact Vp (wpAny_rule (Vz ⟨_,rfl,h0 B _ (I.tok _)⟩))
   · intro j p J;have hp:atKey xs k=some p:=atKey_of_get t J
     obtain⟨v,B,y⟩:∃v,cJ kvs k=some v/\RelV v p.2:=by
      have:=f.val k
      rw[hp]at this;cases q:cJ kvs k with
      |none=>rw[q]at this;have:=RelO.none_of this;cases this
      |some v=>rw[q]at this;obtain⟨u,l,P⟩:=RelO.some_of this;cases l;exact⟨v,rfl,P⟩
     refine Vp (WU (s:={s with toks:=s.toks+(tupleKind (aq X.prog X.w)).draws k}) m d ?_);rw[entry_at x j,J];refine Vp (wpAny_updateDictKeys (hz:=by omega) (s:={s with toks:=s.toks+(tupleKind (aq X.prog X.w)).draws k}) m d (Vz ?_));rw[on (by simp)];refine Vp (Xz (Vz ⟨_,rfl,?_⟩));show Q p.2 _;refine h v p.2 _ B ?_ y;have S:=Xh s.heap a (Obj.mapDictKeys λn=>n.eraseIdxIfInBounds j);refine jR (s:=s) (t':=s.toks+(tupleKind (aq X.prog X.w)).draws k) I (by rw[e];exact True.intro) S ⟨_,V4 _ m (WH (Wb d _))⟩ ⟨VT (m7 kvs k) z,hd,_,(f.drop k).keeps λc ys O=>?_,_,_,ep+1,V4 _ m (WH (Wb d _)),U.mapDictKeys _,Wb d _,?_,?_⟩
     ·rw[am (Dv O e (λz=>nomatch z))];exact O
     ·rw[<-gr t J];obtain⟨el⟩:=n;have L:el=xs.map (entryOfKey (tupleKind (aq X.prog X.w))):=x;rw[Ww];show el.eraseIdx j=_;rw[L];exact km
     ·exact(t.sublist ((List.filter_sublist).map _))
end
def qx(e ty d:TE):TE:=λZ H Q=>e Z H λx H1=>∃a,x=.ref a/\LC H1 a/\ty Z H1 λy f=>d Z f λz c=>∃kvs k b,c a=some (.dT kvs)/\y=.ref b/\c b=some (.tup (k.map kV))/\(∀v,cJ kvs k=some v->Q v (upd c a (.dT (dZ kvs k))))/\(cJ kvs k=none->Q z c)
theorem Au{X:Cx}{o e f:Expr}{g c:Pos}{p ty n:TE}(O:X.A.units+1<cLine)(P:PE X o p)(S:PE X e ty)(R:PE X f n)(m:M2 X o "pop" g e f c):PE X (.Call (.Attribute o "pop" g) [e,f] [] c) (qx p ty n):=by
 intro G s Z H Q I h;refine W9 m.base m.few m.line Wm WO Xu (a7 (P G s Z H _ I h) λu C ⟨x,H1,q,F,a,ex,d,M⟩=>?_);subst ex;obtain rfl:u=Value.ref a:=F;obtain⟨t,r,_⟩:=kB q d;refine⟨t,r,?_⟩;rw[m.trees]
 refine We rfl (WC (Wd (a7 (S G C Z H1 _ q M) λN B ⟨y,H2,Y,E,L⟩=>
  Wd (a7 (R G B Z H2 _ Y L) λfv s3 ⟨z,H3,W,D,kvs,k,b,V,T,U,K,J⟩=>WE ?_))))
 subst T;obtain rfl:N=Value.ref b:=E;exact Jk O W V U (λv w' w l j i=>⟨v,_,j,i,K v l⟩) λl w j=>⟨z,H3,j,D,J l⟩
end L2
namespace Mi
open PySem L2
section
variable{Y:Cm}{E:XK}{ms:List Md}{B U H:Hp}{As:Nat->List Addr}{Z:St}{T:X0}{t:TE}{get:X0->Option D}{set:X0->D->X0}
def gv(set:X0->D->X0)(a:List (List az))(vs:List D)(k:List az)(T:X0):Out D:=match aT a vs k with
 |some y=>.ok y (set T (.dT (dC a vs k).1 (dC a vs k).2))
 |none=>.ok .non T
def il(get:X0->Option D)(set:X0->D->X0)(mk:X0->Res D):X0->Out D:=λT=>match get T with
 |some (.dT b vs)=>((mk T).up T).bind λk T=>(match k with | .tup a=>(match bq a with|some k=>gv set b vs k T|none=>.bad)|_=>.bad)
 |_=>.bad
theorem Ed{C:TE}{mk:X0->Res D}(p:Pth Y ms t get set)(W:PJ Y (KR Y .X) E ms C mk):MJ Y (KR Y .F) E ms (qx t C (tC .non)) (il get set mk):=by
 intro B U As Z H T Q R P;unfold il at P;cases e:get T with
 |none=>rw[e]at P;exact P.elim
 |some d=>
   obtain⟨v,A,V,M,hA,cl⟩:=p.rd R e;cases d with
   |dT r vs=>
     rw[e]at P;replace P:Mo Y (KR Y .F) E ms B U Z (((mk T).up T).bind λk T=>(match k with | .tup n=>(match bq n with|some k=>gv set r vs k T|none=>.bad)|_=>.bad)) Q:=P;obtain⟨a,kvs,rfl,K,h2,rfl,h3⟩:=M.dT rfl;refine V _ ⟨a,rfl,.inr ⟨kvs,.inl K⟩,W B U As Z H T _ R ?_⟩;cases x:mk T with
     |exc c=>rw[x]at P;exact λI U1 H1 q f=>P I U1 As H1 q f.toEx
     |bad=>rw[x]at P;exact P.elim
     |ok J=>
       rw[x]at P;intro u I U1 H1 N q f n1 o;have o:Dn Y H1 J u:=o;cases J with
       |tup n=>
         replace P:Mo Y (KR Y .F) E ms B U Z (match bq n with|some k=>gv set r vs k T|none=>.bad) Q:=P;cases z:bq n with
         |none=>rw[z]at P;exact P.elim
         |some g=>
           rw[z]at P;replace P:Mo Y (KR Y .F) E ms B U Z (gv set r vs g T) Q:=P;rw[Dn]at o;obtain⟨b,xs,rfl,h4,h5⟩:=o;have ex:=eI z h5;subst ex;subst h2;have l:Dns Y I vs (kvs.map (·.2)):=h3.mono f.b;have j:=fQ (Y:=Y) (G:=I) g l;unfold gv at P;refine⟨kvs,g,b,f.h _ _ K,rfl,h4,λv i=>?_,λi=>?_⟩
           · cases m:aT (kvs.map (·.1)) vs g with
             |none=>rw[m]at j;rw[show cJ kvs g=none from j]at i;cases i
             |some y=>
               rw[m]at j P;obtain⟨w,s,L⟩:=j;rw[s]at i;cases i;obtain⟨S,O⟩:=m6 (Y:=Y) (G:=I) (k:=g) l;refine P _ I U1 As _ [] (cl I U1 H1 q f.b f.h a Vt _ _ ?_) f.toEx NewM.nil L;rw[<-S];exact Ow.dT' ao O
           · cases m:aT (kvs.map (·.1)) vs g with
             |some y=>rw[m]at j;obtain⟨w,s,L⟩:=j;rw[s]at i;cases i
             |none=>
               rw[m]at P;exact P .non I U1 As H1 [] q f.toEx NewM.nil (by show Dn Y I .non .non;rw[Dn])
       |_=>exact P.elim
   |_=>rw[e]at P;exact P.elim
end
end Mi
namespace Cl
open PySem L2 Mi
section
variable{Z W X M:Type}{rep:Z->X0}
def rJ{e:W->D}{d:X->D}{c:M->D}[DecidableEq W][DecidableEq X][DecidableEq M](A:Dat e)(B:Dat d)(C:Dat c):Dat (lw e d c):=⟨λp=>.tuple [A.py p.1,B.py p.2.1,C.py p.2.2],A.dep+B.dep+C.dep+1,λp=>by
 show(toPys [e p.1,d p.2.1,c p.2.2]).map PyData.tuple=_;rw[toPys,toPys,toPys,toPys,A.h0,B.h0,C.h0];rfl,λp=>by rw[PyData.canLay0];simp[PyData.canLayAll0,A.lay,B.lay,C.lay],λp=>by
 rw[PyData.depth];simp only[PyData.depthAll];have:=A.depth p.1;have:=B.depth p.2.1;have:=C.depth p.2.2;omega,λa b=>by
 rw[PyData.eqv];simp only[PyData.eqvAll,A.eqv,B.eqv,C.eqv];obtain⟨n,m,l⟩:=a;obtain⟨k,j,i⟩:=b
 by_cases h:n=k<;>by_cases g:m=j<;>by_cases f:l=i<;>simp[h,g,f],λa b=>by rw[SeqAt.noMix];simp[SeqAt.noMixAll,A.nomix,B.nomix,C.nomix]⟩
@[simp] def i8(g:Z->Option (DI (Option W)))(p:Z->DI (Option W)->Z)(ck:Z->Res (List Int)):Z->OutC Z (Option W):=λs=>match g s with
 |none=>.bad
 | some F=>bndO (ck s) s λk=>match DI.get F k with
   |some x=>.ok x (p s (F.del k))
   |none=>.ok none s
theorem mK:∀k:List Int,bq (k.map D.int)=some (k.map Sum.inl)
 |[]=>rfl
 | x::k=>by
   have:=mK k
   rw[Vq,Vq,bq,this];rfl
theorem mz{e:W->D}{get:X0->Option D}{set:X0->D->X0}{g:Z->Option (DI (Option W))}{p:Z->DI (Option W)->Z}{mk:X0->Res D}{ck:Z->Res (List Int)}(d:∀s,get (rep s)=(g s).map (aS (eO e)))(c:∀s F,set (rep s) (aS (eO e) F)=rep (p s F))(a:EJ rep (o0 D.int) mk ck):NJ rep (eO e) (il get set mk) (i8 g p ck):=λs=>by
 have a:=a s;unfold il i8;rw[d];cases g s with
 |none=>trivial
 |some F=>
   show SimO rep (eO e) (((mk (rep s)).up (rep s)).bind λk T=>(match k with | .tup b=>(match bq b with|some k=>gv set (F.map λp=>p.1.map (Sum.inl:Int->az)) (F.map λp=>eO e p.2) k T|none=>.bad)|_=>.bad)) (bndO (ck s) s _);refine SimR.el a (λk=>?_) (λ_=>rfl) λ_=>trivial;show SimO rep (eO e) (match bq (k.map D.int) with|some k=>gv set (F.map λp=>p.1.map (Sum.inl:Int->az)) (F.map λp=>eO e p.2) k (rep s)|none=>.bad) (match DI.get F k with|some x=>OutC.ok x (p s (F.del k))|none=>.ok none s);rw[mK];show SimO rep (eO e) (gv set (F.map λp=>p.1.map (Sum.inl:Int->az)) (F.map λp=>eO e p.2) (k.map Sum.inl) (rep s)) _;unfold gv;rw[jF];cases f:DI.get F k with
   |none=>exact rfl
   |some x=>
     show Out.ok (eO e x) (set (rep s) (.dT (dC _ _ (k.map Sum.inl)).1 (dC _ _ (k.map Sum.inl)).2))=Out.ok (eO e x) (rep (p s (F.del k)));rw[mZ,<-c];rfl
end
section
variable{Z W X M:Type}{rep:Z->X0}{e:W->D}{e':X->D}{e'':M->D}
instance SW {W X M:Type} [DecidableEq W] [DecidableEq X] [DecidableEq M]:DecidableEq (W×X×M):=inferInstance
def Lh(e:W->D)(e':X->D)(e'':M->D):W×X×M->D:=λp=>.lst [e p.1,e' p.2.1,e'' p.2.2]
theorem Jg{m n o:X0->Res D}{c:Z->Res W}{d:Z->Res X}{f:Z->Res M}(i:EJ rep e m c)(h:EJ rep e' n d)(g:EJ rep e'' o f):EJ rep (Lh e e' e'') (ke (ai m (ai n (ai o ax)))) (ff c (ff d f)):=λs=>lO i λa=>by
 show SimR _ _ (((d s).bind λy=>(f s).bind λz=>.ok (y,z)).bind λy=>.ok (a,y));rw[Jq];exact lO h λb=>by rw[Jq];exact lO g λz=>by simp only[ax,Res.bind];rw[Vo (by show 3<=ac;decide)];rfl
def Fp[DecidableEq W][DecidableEq X][DecidableEq M](A:Dat e)(B:Dat e')(C:Dat e''):Dat (Lh e e' e''):=⟨λp=>.list [A.py p.1,B.py p.2.1,C.py p.2.2],A.dep+B.dep+C.dep+1,λp=>by
 show(toPys [e p.1,e' p.2.1,e'' p.2.2]).map PyData.list=_;rw[toPys,toPys,toPys,toPys,A.h0,B.h0,C.h0];rfl,λp=>by rw[PyData.canLay0];simp[PyData.canLayAll0,A.lay,B.lay,C.lay],λp=>by
 rw[PyData.depth];simp only[PyData.depthAll];have:=A.depth p.1;have:=B.depth p.2.1;have:=C.depth p.2.2;omega,λa b=>by
 rw[PyData.eqv];simp only[PyData.eqvAll,A.eqv,B.eqv,C.eqv];obtain⟨l,k,j⟩:=a;obtain⟨i,h,g⟩:=b
 by_cases f:l=i<;>by_cases d:k=h<;>by_cases c:j=g<;>simp[f,d,c],λa b=>by rw[SeqAt.noMix];simp[SeqAt.noMixAll,A.nomix,B.nomix,C.nomix]⟩
end
end Cl
namespace Mi
open PySem L2
section
variable{Y:Cm}{E:XK}{Kr:KT D V}{pr:Nat->Bool}{ms:List Md}{K:F0}{B U H:Hp}{As:Nat->List Addr}{Z:St}{T:X0}
open Classical in
noncomputable def sub(H:Hp)(N:List Addr):Hp:=λa=>if a∈N\/(∃xs,H a=some (.tup xs)) then H a else none
theorem gZ{N:List Addr}:Same (sub H N) H:=λa o q=>by
 unfold sub at q;split at q
 ·exact q
 ·cases q
theorem jz{N:List Addr}{a:Addr}(h:a∈N):sub H N a=H a:=Vo (.inl h)
theorem xM{N:List Addr}{a:Addr}{xs:List V}(h:H a=some (.tup xs)):sub H N a=some (.tup xs):=(Vo (.inr ⟨xs,h⟩)).trans h
theorem l8{H':Hp}{N c:List Addr}(h:∀a∈N,∀o,H a=some o->H' a=some o)(d:∀a xs,H a=some (.tup xs)->H' a=some (.tup xs))(e:∀a∈N,a∈c):Same (sub H N) (sub H' c):=λa o q=>by
 have b:=gZ a o q;unfold sub at q;split at q
 · rename_i z;rcases z with z|⟨xs,z⟩
   ·rw[jz (e a z)];exact h a z o b
   ·rw[z]at b;cases b;exact xM (d a xs z)
 ·cases q
def Nt(H:Hp)(N:List Addr):Prop:=∀a∈N,∃o,H a=some o/\¬ cX o
def KG(Y:Cm):KT D V:=λd v B U H N=>Dn Y (sub H N) d v/\Nt H N
def sO(Y:Cm):KT D V:=λd v B U H N=>∃ds a xs b,d=.lst ds/\v=.ref a/\H a=some (.lst xs)/\N=a::b/\Dns Y (sub H b) ds xs/\Nt H b
theorem Nt.up{H':Hp}{N:List Addr}(h:Nt H N)(s:Same H H'):Nt H' N:=λa b=>let ⟨o,e,n⟩:=h a b;⟨o,s a o e,n⟩
theorem pU{l e:Hp}{k b f:Hp}{a:Addr}{c:HO}(uh:Same b f)(g:Gw l e H k b f)(j:e a=none)(d:H a=some c)(i:¬ cX c):b a=none:=by
 cases q:b a with
 |none=>rfl
 |some o=>
   rcases g.fr a o q with z|z|z
   ·rw[j]at z;cases z
   ·rw[d]at z;cases z
   ·have:=uh a o q;rw[g.h _ _ d]at this;cases this;exact(i z).elim
theorem fI{H':Hp}{N b:List Addr}(s:Same H H')(c:∀a∈N,a∈b):Same (sub H N) (sub H' b):=l8 (λa _ o q=>s a o q) (λa xs q=>s a _ q) c
theorem oG{t:TE}{m:X0->Res D}(h:PJ Y (KO Y (.ct .fz)) E ms t m):PJ Y (KG Y) E ms t (j6 m):=by
 intro B U As Z H T Q R P;refine h B U As Z H T Q R ?_;unfold j6 at P;cases e:m T with
 |ok d=>
   rw[e]at P;replace P:Po Y (KG Y) E ms B U As Z H T (if iV d=true then .ok d else .bad) Q:=P;intro v I U1 H1 W o e1 j J;by_cases z:iV d=true
   · rw[Vo z]at P;have J:Ow Y I H1 d (.ct .fz) v W:=J;refine P v I U1 H1 W o e1 j ⟨?_,λb l=>Ow.at2 J l⟩;cases d with
     |lst ds=>
       obtain⟨a,xs,rfl,f,rfl,n⟩:=J.lst rfl;rw[Dn];exact⟨a,xs,rfl,by rw[jz (by simp)];exact f,ci z n⟩
     |dK k ds=>
       rw[Ow]at J;obtain⟨a,kvs,p,rfl,f,g,rfl,i⟩:=J;rw[Dn];exact⟨a,kvs,rfl,by rw[jz (by simp)];exact f,g,ci z (Ows.fz i).1⟩
     |dT k ds=>
       rw[Ow]at J;obtain⟨a,kvs,p,rfl,f,g,rfl,i⟩:=J;rw[Dn];exact⟨a,kvs,rfl,.inl (by rw[jz (by simp)];exact f),g,ci z (Ows.fz i).1⟩
     |_=>simp[Ow]at J
   ·rw[on z]at P;exact P.elim
 |exc c=>rw[e]at P;exact P
 |bad=>rw[e]at P;exact P
theorem Rel.freezeG{N:List Addr}(R:Rel Y ms B U As Z H T)(h:∀a∈N,U a=none/\∀i,a∉As i):Rel Y ms (ov B (sub H N)) (ov U (sub H N)) As Z H T/\Ex B U (ov B (sub H N)) (ov U (sub H N))/\∀a o,ov U (sub H N) a=some o->U a=some o\/a∈N\/cX o:=by
 have b:∀{G:Hp},Same G (ov G (sub H N)):=λ{G} a o q=>by unfold ov;rw[q]
 have d:∀{G:Hp},Same G H->Same (ov G (sub H N)) H:=λ{G} e a o q=>by
  unfold ov at q;cases z:G a with
  |none=>rw[z]at q;exact gZ a o q
  |some o'=>rw[z]at q;cases q;exact e a _ z
 have c:∀{G:Hp} a o,ov G (sub H N) a=some o->G a=some o\/a∈N\/cX o:=λ{G} a o q=>by
  unfold ov at q;cases z:G a with
  |some o'=>rw[z]at q;exact .inl q
  |none=>
    rw[z]at q;have g:=gZ a o q;replace q:sub H N a=some o:=q;unfold sub at q;split at q
    · rename_i y;rcases y with y|⟨xs,y⟩
      ·exact .inr (.inl y)
      ·rw[y]at g;cases g;exact .inr (.inr ⟨xs,rfl⟩)
    ·cases q
 refine⟨R.grow b b (Same.refl _) (λa o q=>?_) (d R.uh) λi a f=>?_,⟨b,b,λa o q=>?_⟩,c⟩
 · have j:=d R.bh a o q;unfold ov at q ⊢;cases z:B a with
   |some o'=>rw[z]at q;cases q;rw[R.bu a _ z]
   |none=>
     rw[z]at q;cases y:U a with
     |none=>exact q
     |some o'=>have:=R.uh a o' y;rw[j]at this;cases this;rfl
 · cases q:ov U (sub H N) a with
   |none=>rfl
   |some o=>
     rcases c a o q with z|z|z
     ·rw[R.un i a f]at z;cases z
     ·exact absurd f ((h a z).2 i)
     ·exact(R.nt f (d R.uh a o q) z).elim
 · rcases c a o q with z|z|z
   ·exact .inl z
   ·exact .inr (.inl (h a z).1)
   ·exact .inr (.inr z)
theorem gF{t:TE}{m:X0->Res D}(h:PJ Y (sO Y) E ms t m):PJ Y (KR Y .F) E ms t m:=by
 intro B U As Z H T Q R P;refine h B U As Z H T Q R ?_;cases e:m T with
 |ok d=>
   rw[e]at P;intro v S M H' N l i g n;obtain⟨ds,a,xs,j,rfl,rfl,p,rfl,hd,nt⟩:=n;obtain⟨R2,s,r⟩:=l.freezeG λb f=>⟨g.un b f,R.apart g b f⟩
   have k:Same (sub H' (a::j)) (ov S (sub H' (a::j))):=λb o q=>by
    unfold ov;cases z:S b with
    |none=>exact q
    |some o'=>have:=l.bh b o' z;rw[gZ b o q]at this;cases this;rfl
   refine P (.ref a) _ _ H' [] R2 ⟨i.toEx.trans s,i.h,λb o q=>?_⟩ New.nil ?_
   · rcases r b o q with z|z|z
     ·exact i.fr b o z
     ·exact .inr (.inl (g.fr b z))
     ·exact .inr (.inr z)
   ·show Dn Y (ov S (sub H' (a::j))) (.lst ds) (.ref a);rw[Dn];exact⟨a,xs,rfl,k _ _ (by rw[jz (by simp)];exact p),hd.mono ((fI (Same.refl _) λb f=>Vu _ f).trans k)⟩
 |exc c=>rw[e]at P;exact P
 |bad=>rw[e]at P;exact P
def z9(a me:X0->Res D):X0->Out D:=λT=>match a T with
 |.ok (.lst ds)=>if ds.length<ac then (match me T with | .ok _=>.ok .non T|_=>.bad) else .bad
 |_=>.bad
theorem Oi{ta te:TE}{b me:X0->Res D}(m:PJ Y (KO Y (.ct .fz)) E ms ta b)(l:PJ Y (KR Y .F) E ms te me):MJ Y (KR Y .F) E ms (Ab K "list" fe ta (aA te bx)) (z9 b me):=by
 intro B U As Z H T Q R P;refine m B U As Z H T _ R ?_;unfold z9 at P;cases e:b T with
 |bad=>rw[e]at P;exact P
 |exc c=>rw[e]at P;exact P.elim
 |ok d=>
   rw[e]at P;cases d with
   |lst ds=>
     replace P:Mo Y (KR Y .F) E ms B U Z (if ds.length<ac then (match me T with | .ok _=>.ok .non T|_=>.bad) else .bad) Q:=P;by_cases z:ds.length<ac
     · rw[Vo z]at P;intro v I U1 H1 N q o j J;obtain⟨a,xs,rfl,f,rfl,n⟩:=(show Ow Y I H1 (.lst ds) (.ct .fz) v N from J).lst rfl;refine⟨.inl ⟨rfl,xs,SqL.of f⟩,l I U1 As Z H1 T _ q ?_⟩;cases i:me T with
       |bad=>rw[i]at P;exact P
       |exc c=>rw[i]at P;exact P.elim
       |ok y=>
         rw[i]at P;intro u r p x w R2 g s t;have k:=pU R2.uh g (j.un a (by simp)) f (λ⟨_,z⟩=>by cases z);exact⟨a,xs,u,rfl,rfl,g.h _ _ f,cA (Wj (by rw[<-n.len];exact z)),P .non r p As _ [] (R2.poke k (R.apart j a (by simp))) (o.trans g).toEx NewM.nil (by show Dn Y _ _ _;rw[Dn])⟩
     ·rw[on z]at P;exact P.elim
   |_=>exact P.elim
end
end Mi
namespace Cl
open PySem L2 Mi
section
variable{Z W X M:Type}{rep:Z->X0}{e:W->D}{e':X->D}{eR:M->D}
@[simp] def LI(a:Z->Res (List W))(b:Z->Res X):Z->OutC Z Unit:=λs=>match a s with
 |.ok l=>if l.length<ac then (match b s with | .ok _=>.ok () s|_=>.bad) else .bad
 |_=>.bad
theorem NI{f me:X0->Res D}{a:Z->Res (List W)}{b:Z->Res X}(d:EJ rep (eL e) f a)(c:EJ rep e' me b):NJ rep eN (z9 f me) (LI a b):=λs=>by
 have d:=d s;have c:=c s;unfold z9 LI;cases q:a s with
 |ok l=>
   rw[q]at d;rw[show f (rep s)=.ok (.lst (l.map e)) from d];dsimp only;rw[List.length_map];by_cases z:l.length<ac
   · rw[Vo z,Vo z];cases g:b s with
     |ok x=>rw[g]at c;rw[show me (rep s)=_ from c];rfl
     |_=>trivial
   ·rw[on z,on z];trivial
 |_=>trivial
end
end Cl
namespace Mi
open PySem L2
section
variable{Y:Cm}{E:XK}{Kr:KT D V}{pr:Nat->Bool}{ms:List Md}{K:F0}{B U H:Hp}{As:Nat->List Addr}{Z:St}{T:X0}
theorem vg{k:Kd}{m0:Md}{t:List Nat}{ti:TT}{te:TE}{mi:X0->Res Bool}{me:X0->Res D}(hix:t.Nodup)(h0:∀B U H d v,Same B U->Same U H->Dn Y (hp k B U H) d v->Lo Y B U H m0 (some d) (some v) [])
 (hti:PJ Y KB E0 (ia m0 ms t) ti mi) (hte:PJ Y (KG Y) E0 (ia m0 ms t) te me)
 {As:Nat->List Addr} {Z:St} {T:X0} {Q:VK} {ds:List D} {J:It} {I U1 H1:Hp} {vs:List V} (R1:Rel Y ms I U1 As Z H1 T) (hJ:Bs J H1 vs) (hd:Dns Y (hp k I U1 H1) ds vs)
 (P1:Po Y (sO Y) E ms I U1 As Z H1 T (if ds.length<ac then (aI mi me (cz T t) ds).bind λr=>.ok (.lst r) else .bad) Q) (p:Addr) (hp:H1 p=none):vE J (λv=>some v::gb Z t) ti te p H1 Q:=by
 by_cases z:ds.length<ac
 · rw[Vo z]at P1;have hvl:ds.length=vs.length:=hd.len;have hpA:∀i,p∉As i:=λi=>R1.fresh hp i
   refine⟨λi m ys S=>i<=ds.length/\m=ds.length-i/\S p=some (.lst ys)/\ys.length<=i/\∃W F L N,Rel Y ms W F As Z S T/\Gw I U1 H1 W F S/\F p=none/\p∉N/\New N H1 F As/\Dns Y (sub S N) L ys/\Nt S N/\
    Po Y (sO Y) E ms I U1 As Z H1 T ((aI mi me (cz T t) (ds.drop i)).bind λr=>.ok (.lst (L++r))) Q,⟨ds.length,Wr _,rfl,ao,VG _,I,U1,[],[],R1.new hp,Gw.newO R1 hp,R1.uh.free hp,by simp,New.nil,by rw[Dns],λ_ h=>(nomatch h),P1⟩,?_⟩
   rintro i m ys S ⟨hi,rfl,hy,hle,W,F,L,N,R2,g2,u2,pN,R,dz,nt,f⟩;have w:=hJ S g2.h;refine⟨hy,WA hle (cA (Wj (WA hi z))),?_⟩;by_cases hlt:i<ds.length
   · refine .inr ⟨w.2.1 i (by omega),λv H3 hyl=>?_⟩;obtain⟨rfl,ev⟩:=w.2.2 i v H3 (by omega) hyl;obtain⟨d,ed,dd⟩:=hd.geti ev;rw[iM ed,aI]at f;have RI:=R2.inner hix (h0 W F H3 d v R2.bu R2.uh (Dn.mono (fq g2) dd));refine hti W F _ _ H3 _ _ RI ?_
     have P:∀{K s G:Hp},Same K s->Same s G->Gw W F H3 K s G->Rel Y ms K s As Z G T:=λ{K s G} bu uh g=>R2.grow g.b g.u g.h bu uh λj a l=>by
      obtain⟨o',q',nt⟩:=(R2.lo j).at2 l;exact pU uh g (R2.un j a l) q' nt
     have nU:∀{K s G:Hp},Same s G->Gw W F H3 K s G->New N H1 s As:=λ{K s G} uh g=>⟨R.nd,R.fr,λa l=>by
      obtain⟨o',q',nt⟩:=nt a l
      exact pU uh g (R.un a l) q' nt⟩
     have pt:¬ cX (.lst ys):=λ⟨_,z⟩=>by cases z
     cases eb:mi (some d::cz T t) with
     |bad=>rw[eb]at f;exact f.elim
     |exc c=>rw[eb]at f;exact f.elim
     |ok c=>
       rw[eb]at f;intro b K s G N3 C A n3 hb;cases hb;cases c with
       |false=>
         rw[on VC];exact⟨ds.length-(i+1),by omega,hlt,rfl,A.h _ _ hy,by omega,K,s,L,N,P C.bu C.uh A,g2.trans A,pU C.uh A u2 hy pt,pN,nU C.uh A,dz.mono (fI A.h λ_ h=>h),nt.up A.h,f⟩
       |true=>
         rw[Vo rfl];refine hte K s _ _ G _ _ C ?_;replace f:Po Y (sO Y) E ms I U1 As Z H1 T (((me (some d::cz T t)).calm.bind λx=>(aI mi me (cz T t) (ds.drop (i+1))).bind λxs=>.ok (x::xs)).bind λr=>.ok (.lst (L++r))) Q:=f;cases ee:me (some d::cz T t) with
         |bad=>rw[ee]at f;exact f.elim
         |exc c=>rw[ee]at f;exact f.elim
         |ok x=>
           rw[ee]at f;intro y B4 U4 H5 N4 O g4 n4 hx;obtain⟨hx,nt4⟩:=hx;have n:=A.trans g4;have y5:H5 p=some (.lst ys):=n.h _ _ hy;have X:p∉N4:=λhm=>by have:=n4.fr p hm;rw[A.h _ _ hy]at this;cases this
           have up4:=pU O.uh n u2 hy pt;have nN4:=nU O.uh n;have R4:=P O.bu O.uh n
           have g5:Gw I U1 H1 B4 U4 (upd H5 p (.lst (ys++[y]))):=by
            have g:=g2.trans n;exact⟨g.toEx,λa o q=>by rw[am (aL q hp)];exact g.h a o q,g.fr⟩
           have nt5:Nt H5 N:=nt.up n.h;have hm5:∀{M:List Addr} {M':List Addr},p∉M->(∀a∈M,a∈M')->Same (sub H5 M) (sub (upd H5 p (.lst (ys++[y]))) M'):=λ{M M'} hM hs=>l8 (λa l o q=>by rw[am (λe:a=p=>hM (e▸l))];exact q) (λa xs q=>by rw[am (λe:a=p=>by rw[e,y5]at q;cases q)];exact q) hs;have ntu:∀{M:List Addr},p∉M->Nt H5 M->Nt (upd H5 p (.lst (ys++[y]))) M:=λ{M} hM h a l=>by rw[am (λe:a=p=>hM (e▸l))];exact h a l
           refine⟨y5,ds.length-(i+1),by omega,hlt,rfl,ao,by rw[Vw,Wz];omega,B4,U4,L++[x],N++N4,R4.poke up4 hpA,g5,up4,?_,?_,?_,?_,?_⟩
           · intro hm;rcases Vy.mp hm with h|h
             ·exact pN h
             ·exact X h
           · refine⟨VW.mpr ⟨R.nd,n4.nd,λa l c hc e=>?_⟩,λa l=>?_,λa l=>?_⟩
             · obtain⟨o',q',nt⟩:=nt a l
               have:=n4.fr c hc
               rw[<-e,A.h _ _ q']at this;cases this
             · rcases Vy.mp l with h|h
               ·exact R.fr a h
               ·exact(g2.h.trans A.h).free (n4.fr a h)
             · rcases Vy.mp l with h|h
               ·exact nN4.un a h
               ·exact n4.un a h
           ·exact((dz.mono (fI n.h λ_ h=>h)).mono (hm5 pN λa h=>VB _ h)).append (Dns.one (Dn.mono (hm5 X λa h=>Vs _ h) hx))
           · intro a l;rcases Vy.mp l with h|h
             ·exact ntu pN nt5 a h
             ·exact ntu X nt4 a h
           · cases eg:aI mi me (cz T t) (ds.drop (i+1)) with
             |ok r=>
               rw[eg]at f;show Po Y (sO Y) E ms I U1 As Z H1 T (.ok (.lst (L++[x]++r))) Q;rw[Wk];exact f
             |exc c=>rw[eg]at f;exact f
             |bad=>rw[eg]at f;exact f
   · have e:i=ds.length:=by omega
     subst e;rw[Xx,aI]at f;refine .inl ⟨w.1 _ (by omega),?_⟩;have P3:Po Y (sO Y) E ms I U1 As Z H1 T (.ok (.lst (L++[]))) Q:=f;rw[V3]at P3;refine P3 (.ref p) W F S (p::N) R2 g2 ⟨VM.mpr ⟨pN,R.nd⟩,λa q=>?_,λa q=>?_⟩ ⟨L,p,ys,N,rfl,rfl,hy,rfl,dz,nt⟩
     · rcases VA.mp q with e|e
       ·rw[e];exact hp
       ·exact R.fr a e
     · rcases VA.mp q with e|e
       ·rw[e];exact u2
       ·exact R.un a e
 ·rw[on z]at P1;exact P1.elim
theorem C3{e:TI}{a:List Nat}{f:TT}{te:TE}{src:X0->Res (List D)}{mi:X0->Res Bool}{me:X0->Res D}(g:PJ Y (KI Y .U .X) E ms e src)(d:a.Nodup)(b:PJ Y KB E0 (ia .R ms a) f mi)(c:PJ Y (KG Y) E0 (ia .R ms a) te me):
 PJ Y (sO Y) E ms (gY e a f te) (fc src a mi me):=by
 intro B U As Z H T Q R P;exact g.bnd R P λds J I U1 H1 W _ i e1 l ⟨vs,h,hd⟩ j p hp=>vg (k:= .U) d (λ_ _ _ _ _=>inU) b c i h hd j p hp
theorem C8{i c:Nat}{f:Str}{g:List Nat}{n:TT}{te:TE}{mi:X0->Res Bool}{me:X0->Res D}(A:Cls K (Y c))(t:NoAttr K (Y c) f)(u:ms.getD i .F= .R)(m:g.Nodup)
 (j:PJ Y KB E0 (ia .F ms g) n mi) (l:PJ Y (KG Y) E0 (ia .F ms g) te me):PJ Y (sO Y) E ms (xJ (gY (EZ (l6 K (bI i) f)) g n te)) (fc (vY (un (bb c f) (vr i))) g mi me):=
 C7 A t u (λR I hd P p hp=>vg (k:= .F) m (λ_ _ _ _ _=>SK) j l R I hd P p hp) λ{d v B U H N S M a o kvs} G r J w=>by
  obtain⟨ds,b,xs,s,rfl,rfl,C,rfl,hd,nt⟩:=w;have ne:∀y∈s,y≠a:=λy e z=>r (z▸Vu _ e);refine⟨ds,b,xs,s,rfl,rfl,by rw[bz (λz:b=a=>r (z▸Vt))];exact C,rfl,hd.mono (l8 (λy e x q=>by rw[bz (ne y e)];exact q) (λy ys q=>by rw[bz (λz:y=a=>by rw[z,G]at q;cases q)];exact q) λ_ h=>h),λy e=>by rw[bz (ne y e)];exact nt y e⟩
theorem ggF{t:TE}{m:X0->Res D}(h:PJ Y (KG Y) E ms t m):PJ Y (KR Y .F) E ms t m:=by
 intro B U As Z H T Q R P;refine h B U As Z H T Q R ?_;cases e:m T with
 |ok d=>
   rw[e]at P;intro v S M H' N i f a k;obtain⟨hd,nt⟩:=k;obtain⟨R2,n,l⟩:=i.freezeG λb g=>⟨a.un b g,R.apart a b g⟩
   have j:Same (sub H' N) (ov S (sub H' N)):=λb o q=>by
    unfold ov;cases z:S b with
    |none=>exact q
    |some o'=>have:=i.bh b o' z;rw[gZ b o q]at this;cases this;rfl
   refine P v _ _ H' [] R2 ⟨f.toEx.trans n,f.h,λb o q=>?_⟩ New.nil (Dn.mono j hd);rcases l b o q with z|z|z
   ·exact f.fr b o z
   ·exact .inr (.inl (a.fr b z))
   ·exact .inr (.inr z)
 |exc c=>rw[e]at P;exact P
 |bad=>rw[e]at P;exact P
theorem pNG:PJ Y (KG Y) E ms (tC .non) (ay .non):=λB U As Z H T Q R P=>P .non B U H [] R (Gw.refl _ _ _) New.nil ⟨by rw[Dn],λ_ h=>(nomatch h)⟩
theorem H8{ta tb tc:TE}{j i mc:X0->Res D}(k:PJ Y (KR Y .X) E ms ta j)(t:PJ Y (KR Y .X) E ms tb i)(s:PJ Y (KG Y) E ms tc mc):PJ Y (KG Y) E ms (BH (aA ta (aA tb (aA tc bx)))) (gU (ai (jA j) (ai (jA i) (ai mc ax)))):=by
 intro B U As Z H T Q R P;unfold gU ai jA at P;refine k B U As Z H T _ R ?_;cases e:j T with
 |bad=>simp only[e,Res.bind]at P;exact P
 |exc c=>simp only[e,Res.bind]at P;exact P
 |ok x=>
   by_cases z:aN x=true
   · simp only[e,Res.bind,z,XW]at P;intro v I U1 H1 W J b n1 dx;refine t I U1 As Z H1 T _ J ?_;cases d:i T with
     |bad=>simp only[d,Res.bind]at P;exact P
     |exc c=>simp only[d,Res.bind]at P;exact λS M H' o g'=>P S M H' o (b.trans g')
     |ok y=>
       by_cases f:aN y=true
       · simp only[d,Res.bind,f,XW]at P;intro u V G L N2 R2 l n2 C;refine s V G As Z L T _ R2 ?_;cases m:mc T with
         |bad=>simp only[m,Res.bind]at P;exact P
         |exc c=>simp only[m,Res.bind]at P;exact λS M H' o g'=>P S M H' o (b.trans (l.trans g'))
         |ok w=>
           simp only[m,Res.bind,ax]at P;rw[Vo (by show 3<=ac;decide)]at P;intro q O F K N r A g n;obtain⟨n,nt⟩:=n;refine⟨by show 3<=sizeLine;decide,λp hp=>P (.ref p) O F (upd K p (.tup [v,u,q])) N (r.new hp) (b.trans (l.trans (A.trans (Gw.newO r hp)))) ⟨g.nd,λa k=>(b.h.trans l.h).free (g.fr a k),g.un⟩ ⟨?_,nt.up (Gd.bo hp)⟩⟩;rw[Dn];refine⟨p,[v,u,q],rfl,xM ao,?_⟩;rw[Dns];refine⟨v,[u,q],rfl,dI z dx,?_⟩;rw[Dns];exact⟨u,[q],rfl,dI f C,Dns.one (Dn.mono (fI (Gd.bo hp) λa h=>h) n)⟩
       ·simp only[d,Res.bind,f]at P;exact P.elim
   ·simp only[e,Res.bind,z]at P;exact P.elim
theorem MM{a:List Md}{c:List D->Out D}{ps:List Ap}{t:TA}{m:X0->Res (List D)}(h:AJ Y E0 ms ps t m)(b:cN ps a=true):PJ Y (KG Y) E0 ms (fH (dq Y a (KG Y) c) [] E0 t) (pc c m):=
 wq h (cC b) (cD b) λ_ _ _ _ _ _ _ h=>h
theorem Mq{c:Nat}{b:Str}{a:List Md}{f:List D->Out D}{p:Ap}{ps:List Ap}{ta:TE}{d:X0->Res D}{t:TA}{m:X0->Res (List D)}(g:A1J Y E0 ms p ta d)(h:AJ Y E0 ms ps t m)(e:cN (p::ps) a=true):
 PJ Y (KG Y) E0 ms (cg (Y c) b (dq Y a (KG Y) f) [] E0 ta t) (pm c b f d m):=qK g h (cC e) (cD e) λ_ _ _ _ _ _ _ h=>h
theorem Ms{c:Nat}{b:Str}{a:List Md}{f:List D->Out D}{p:Ap}{ps:List Ap}{ta:TE}{d:X0->Res D}{t:TA}{m:X0->Res (List D)}(g:A1J Y E0 ms p ta d)(h:AJ Y E0 ms ps t m)(e:cN (p::ps) a=true):
 PJ Y (sO Y) E0 ms (cg (Y c) b (dq Y a (sO Y) f) [] E0 ta t) (pm c b f d m):=qK g h (cC e) (cD e) λ_ _ _ _ _ _ _ h=>h
abbrev tK:R2:=λx y H Q=>y=.non/\Q (.bl (!decide (x=.non))) H
def Gi(N:List Addr)(m:Nat)(n:Nat)(x:V)(H:Hp):Prop:=x=.non\/∃l ys,x=.ref l/\l∈N/\H l=some (.lst ys)/\ys.length+m<=ac+n
def Gt(N:List Addr)(m:Nat)(n:Nat)(x:V)(H:Hp):Prop:=∃t u v w,x=.ref t/\H t=some (.tup [u,v,w])/\Gi N m n w H
def Gc(N:List Addr)(H H':Hp):Prop:=H'=H\/∃l ys a,l∈N/\H l=some (.lst ys)/\a.length<=ys.length+1/\H'=upd H l (.lst a)
theorem Gi.next{N:List Addr}{m n:Nat}{x:V}{H':Hp}(h:Gi N m n x H)(c:Gc N H H'):Gi N m (n+1) x H':=by
 rcases h with h|⟨l,ys,rfl,d,b,k⟩
 ·exact .inl h
 · rcases c with rfl|⟨i,g,f,j,a,hz,rfl⟩
   ·exact .inr ⟨l,ys,rfl,d,b,by omega⟩
   · by_cases e:l=i
     ·subst e;rw[b]at a;cases a;exact .inr ⟨l,f,rfl,d,ao,by omega⟩
     ·exact .inr ⟨l,ys,rfl,d,by rw[am e];exact b,by omega⟩
theorem Gc.tup{N:List Addr}{H':Hp}(c:Gc N H H'){t:Addr}{xs:List V}(h:H t=some (.tup xs)):H' t=some (.tup xs):=by
 rcases c with rfl|⟨l,ys,b,d,a,hz,rfl⟩
 ·exact h
 ·rw[am (λe:t=l=>by rw[e,a]at h;cases h)];exact h
theorem Gt.next{N:List Addr}{m n:Nat}{x:V}{H':Hp}(h:Gt N m n x H)(c:Gc N H H'):Gt N m (n+1) x H':=by
 obtain⟨t,u,v,w,rfl,b,a⟩:=h;exact⟨t,u,v,w,rfl,c.tup b,a.next c⟩
def IU(n:Nat):D->Bool
 |.non=>true
 |.lst a=>decide (a.length+n<=ac)
 |_=>false
theorem Gi.of{N:List Addr}{m:Nat}{d:D}{x:V}(hd:Dn Y (sub H N) d x)(h:IU m d=true):Gi N m 0 x H:=by
 cases d with
 |non=>rw[Dn]at hd;exact .inl hd
 |lst ds=>
   rw[Dn]at hd;obtain⟨l,ys,rfl,a,e⟩:=hd;refine .inr ⟨l,ys,rfl,?_,gZ _ _ a,by rw[<-e.len];exact of_decide_eq_true h⟩;have b:=gZ _ _ a;unfold sub at a;split at a
   · rename_i c;rcases c with c|⟨_,c⟩
     ·exact c
     ·rw[b]at c;cases c
   ·cases a
 |_=>cases h
theorem Ld{a:Addr}{xs:List V}{N:List Addr}{j:Nat}{tb:TS}{p:Ends}(Good:Nat->V->Hp->Prop)(R:Rel Y ms B U As Z H T)(F:j<T.length)(E:rg T j=none)(hp:pr j=false)(S:H a=some (.lst xs))(z:a∉N)(O:∀l∈N,U l=none/\∀i,l∉As i)
 (st:∀(k:Nat) (x:V),xs[k]?=some x->Good 0 x H) (w:∀n x H H',Good n x H->Gc N H H'->Good (n+1) x H')
 (r:∀n x b H' (o:St->Hp->Prop),n<xs.length->Rel Y ms B U As b H' T->b[j]?=some (some x)->Good n x H'->(∀d,Gc N H' d->o b d)->tb {p with nx:=o,ct:=o,bk:=p.nx} b H')
 (G:∀b H',Rel Y ms B U As b H' T->Kp pr Z b->(∀i,i≠j->rg b i=rg Z i)->H' a=some (.lst xs)->p.nx b H'):
 ∃W:Nat->Nat->St->Hp->Prop,(∃m,W 0 m Z H)/\∀i m Z H,W i m Z H->((Qq Y.K a).stop i H/\p.nx Z H)\/((Qq Y.K a).go i H/\∃o:St->Hp->Prop,(∀b H',o b H'->∃J,J<m/\W (i+1) J b H')/\∀x H',(Qq Y.K a).yld i H x H'->b7 j x Z H' λv H2=>tb {p with nx:=o,ct:=o,bk:=p.nx} v H2):=by
 refine⟨λn m b H'=>n<=xs.length/\m=xs.length-n/\Rel Y ms B U As b H' T/\Kp pr Z b/\(∀i,i≠j->rg b i=rg Z i)/\H' a=some (.lst xs)/\∀(k:Nat) (x:V),xs[k]?=some x->Good n x H',⟨_,Wr _,rfl,R,Kp.refl _ _,λ_ _=>rfl,S,st⟩,?_⟩;rintro n m b H' ⟨hn,rfl,R2,M,L,t,q⟩;have sq:SqL Y.K H' a xs:=SqL.of t;by_cases g:n<xs.length
 · obtain⟨x,ex⟩:∃x,xs[n]?=some x:=⟨_,VH g⟩;refine .inr ⟨⟨xs,x,sq,ex⟩,λf d=>Rel Y ms B U As f d T/\Kp pr Z f/\(∀i,i≠j->rg f i=rg Z i)/\d a=some (.lst xs)/\∀(k:Nat) (x:V),xs[k]?=some x->Good (n+1) x d,λf d h=>⟨xs.length-(n+1),by omega,g,rfl,h⟩,λy P D=>?_⟩;obtain⟨rfl,u⟩:=D;have u:=u xs sq;rw[ex]at u;cases u;have I:=R2.slot (x:=some x) E;have C:(b.set j (some x))[j]?=some (some x):=Xm (by rw[<-R2.len];exact F);refine r n x _ P _ g I C (q n x ex) λd c=>?_
   have A:∀i,i≠j->rg (b.set j (some x)) i=rg Z i:=λi hi=>by
    have:rg (b.set j (some x)) i=rg b i:=by unfold rg;rw[List.getElem?_set_ne (Ne.symm hi)]
    rw[this];exact L i hi
   refine⟨?_,M.slot hp,A,?_,λk x X=>w n x P d (q k x X) c⟩
   · rcases c with rfl|⟨l,ys,Q,s,D,hz,rfl⟩
     ·exact I
     ·exact I.poke (O l s).1 (O l s).2
   · rcases c with rfl|⟨l,ys,Q,s,D,hz,rfl⟩
     ·exact t
     ·rw[am (λe:a=l=>z (e▸s))];exact t
 ·exact .inl ⟨⟨xs,sq,by omega⟩,G b H' R2 M L t⟩
theorem Lx{N:List Addr}{m n j:Nat}{x:V}{u:V}{a:TE}{e:Ends}(h:n<m)(d:∀Q:VK,Q x H->a Z H Q)(g:Gi N m n x H)(k:∀H',Gc N H H'->e.nx Z H'):sY (kY (sQ tK a (tC .non))) (iT (Ab K "list" fe a (aA (tC u) bx))) kZ e Z H:=by
 refine d _ ⟨rfl,_,rfl,?_⟩;rcases g with rfl|⟨l,ys,rfl,c,b,f⟩
 ·exact k H (.inl rfl)
 ·refine d _ ⟨.inl ⟨rfl,ys,SqL.of b⟩,l,ys,u,rfl,rfl,b,cA (by omega),k _ (.inr ⟨l,ys,ys++[u],c,b,by rw[Vw,Wz];omega,rfl⟩)⟩
theorem TD{N:List Addr}{m n:Nat}{x:V}{a:TE}{e:Ends}(d:∀Q:VK,Q x H->a Z H Q)(g:Gi N m n x H)(k:∀H',Gc N H H'->e.nx Z H'):sY (kY (sQ tK a (tC .non))) (iT (BL K "list" qG a)) kZ e Z H:=by
 refine d _ ⟨rfl,_,rfl,?_⟩;rcases g with rfl|⟨l,ys,rfl,c,b,f⟩
 ·exact k H (.inl rfl)
 ·exact d _ ⟨.inl ⟨rfl,ys,SqL.of b⟩,l,ys,rfl,rfl,b,k _ (.inr ⟨l,ys,[],c,b,by simp,rfl⟩)⟩
def IT(n:Nat):D->Bool
 |.tup [_,_,d]=>IU n d
 |_=>false
def pY(T:X0)(i j:Nat):Bool:=ie T (some i)&&ie T (some j)
def ID(ok:Nat->D->Bool)(i j:Nat)(a:X0->Res D):X0->SO:=λT=>match a T with
 |.ok (.lst ds)=>if ds.all (ok ds.length)=true/\pY T i j=true/\ds.length<ac then .nx T else .bad
 |_=>.bad
theorem Kv{i j:Nat}{ok:Nat->D->Bool}{O:TE}{t:X0->Res D}{tb te u:TS}{n:X0->SO}(Good:List Addr->Nat->Nat->V->Hp->Prop)(L:i≠j)(hw:PJ Y (sO Y) E ms O t)(y:pr i=false)(w:pr j=false)
 (M:∀{H:Hp} {N:List Addr} {m:Nat} {d:D} {x:V},Dn Y (sub H N) d x->ok m d=true->Good N m 0 x H) (r:∀{N:List Addr} {m n:Nat} {x:V} {H H':Hp},Good N m n x H->Gc N H H'->Good N m (n+1) x H')
 (o:∀{N:List Addr} {m n:Nat} {x:V} {Z:St} {H:Hp} {p:Ends},n<m->Z[j]?=some (some x)->Good N m n x H->(∀H',Gc N H H'->p.nx Z H')->tb p Z H)
 (last:∀{Z:St} {H:Hp} {a:Addr} {xs:List V} {p:Ends},Z[i]?=some (some (.ref a))->H a=some (.lst xs)->xs.length<ac->(∀ys,p.nx Z (upd H a (.lst ys)))->te p Z H)
 (k:SJ Y E Kr pr ms u n):SJ Y E Kr pr ms (lN (l7 O (b7 i)) (lN (vQ (iY Y.K (bI i)) (b7 j) tb) (lN te u))) (ah (ID ok i j t) n):=by
 intro B U As Z H T D R P;refine hw B U As Z H T _ R ?_;unfold ah ID at P;cases e:t T with
 |bad=>rw[e]at P;exact P
 |exc c=>rw[e]at P;exact P.elim
 |ok d=>
   rw[e]at P;cases d with
   |lst ds=>
     dsimp only at P;by_cases z:ds.all (ok ds.length)=true/\pY T i j=true/\ds.length<ac
     · rw[if_pos z]at P;obtain⟨z1,q,z3⟩:=z;unfold pY at q;rw[Bool.and_eq_true]at q;obtain⟨G,F⟩:=kA q.1;obtain⟨C,A⟩:=kA q.2;intro v I U1 H1 N R1 g1 f J;obtain⟨ds',a,xs,N',h0,rfl,X,rfl,W,nt⟩:=J;cases h0;have Q:ds.length=xs.length:=W.len;have s:a∉N':=(List.nodup_cons.mp f.nd).1;have R2:=R1.slot (x:=some (.ref a)) F;have h:(Z.set i (some (V.ref a)))[i]?=some (some (.ref a)):=List.getElem?_set_self (by rw[<-R.len];exact G);refine⟨.ref a,h,a,rfl,⟨xs,SqL.of X⟩,?_⟩;refine Ld (Y:=Y) (pr:=pr) (Good N' ds.length) R2 C A w X s (λl S=>⟨f.un l (List.mem_cons_of_mem _ S),R.apart f l (List.mem_cons_of_mem _ S)⟩) (λk x ex=>?_) (λ_ _ _ _ g c=>r g c) (λn x b H' Nx hn R3 hs g c=>o (by omega) hs g c) λb H' R3 k3 ks h3=>?_
       ·obtain⟨d,ed,dd⟩:=W.geti ex;exact M dd (Wh.mp z1 d (Wn ed))
       · have e3:rg b i=some (.ref a):=by
          rw[ks i L];unfold rg;rw[h];rfl
         refine last (bM e3) h3 (by omega) λys=>?_;exact k I U1 As b _ T D (R3.poke (f.un a Vt) (R.apart f a Vt)) (So.at P g1.toEx (((Kp.refl pr Z).slot y).trans k3))
     ·rw[on z]at P;exact P.elim
   |_=>exact P.elim
theorem QN{i j:Nat}{c:Int}{o:TE}{p:X0->Res D}{u:TS}{n:X0->SO}(l:i≠j)(r:PJ Y (sO Y) E ms o p)(e:pr i=false)(d:pr j=false)(k:SJ Y E Kr pr ms u n):
 SJ Y E Kr pr ms (lN (l7 o (b7 i)) (lN (vQ (iY Y.K (bI i)) (b7 j) (sY (kY (sQ tK (bI j) (tC .non))) (iT (Ab K "list" fe (bI j) (aA (tC (.int c)) bx))) kZ)) (lN (iT (Ab K "list" fe (bI i) (aA (tC .non) bx))) u))) (ah (ID IU i j p) n):=
 Kv Gi l r e d (λhd h=>Gi.of hd h) (λg c=>g.next c) (λ{N m n x Z H s} f b g c=>Lx (j:=j) f (λQ q=>⟨x,b,q⟩) g c)
  (λ{Z H a xs s} b h f c=>⟨.ref a,b,.inl ⟨rfl,xs,SqL.of h⟩,a,xs,.non,rfl,rfl,h,cA (Wj f),c _⟩) k
theorem QM{i j:Nat}{c:Int}{s:TE}{y:X0->Res D}{u:TS}{n:X0->SO}(r:i≠j)(e:PJ Y (sO Y) E ms s y)(p:pr i=false)(o:pr j=false)(k:SJ Y E Kr pr ms u n):
 SJ Y E Kr pr ms (lN (l7 s (b7 i)) (lN (vQ (iY Y.K (bI i)) (b7 j) (sY (kY (sQ tK (sQ (CA Y.K) (bI j) (tC (.int 2))) (tC .non))) (iT (Ab K "list" fe (sQ (CA Y.K) (bI j) (tC (.int 2))) (aA (tC (.int c)) bx))) kZ)) (lN (iT (BL K "list" qG (bI i))) u))) (ah (ID IT i j y) n):=
 Kv Gt r e p o (λ{H N m d x} hd h=>by
  unfold IT at h;split at h
  ·rename_i J R P;rw[Dn]at hd;obtain⟨t,I,rfl,f,b⟩:=hd;rw[Dns]at b;obtain⟨C,O,rfl,_,b⟩:=b;rw[Dns]at b;obtain⟨B,M,rfl,_,b⟩:=b;rw[Dns]at b;obtain⟨A,L,rfl,F,b⟩:=b;rw[Dns]at b;subst b;exact⟨t,C,B,A,rfl,gZ _ _ f,Gi.of F h⟩
  ·cases h) (λg c=>g.next c) (λ{N m n x Z H G} z l g c=>by
  obtain⟨t,u,v,w,rfl,f,e⟩:=g
  exact Lx (j:=j) z (λQ q=>⟨.ref t,l,t,[u,v,w],2,w,rfl,rfl,SqT.of f,rfl,q⟩) e c)
  (λ{Z H a xs G} l h z c=>⟨.ref a,l,.inl ⟨rfl,xs,SqL.of h⟩,a,xs,rfl,rfl,h,c _⟩) k
def Qg(j:Nat)(b a:X0->Res D):X0->SO:=λT=>match b T,a T with
 |.ok J,.ok c=>if IU 2 J=true/\IU 2 c=true/\ie T (some j)=true then .nx T else .bad
 |_,_=>.bad
theorem QL{j:Nat}{W V:TE}{L G:X0->Res D}(h1:PJ Y (KG Y) E ms W L)(h2:PJ Y (KG Y) E ms V G)(hp:pr j=false):
 SJ Y E Kr pr ms (vQ (iY Y.K (GU (aA W (aA V bx)))) (b7 j) (sY (kY (sQ tK (bI j) (tC .non))) (iT (BL K "list" qG (bI j))) kZ)) (Qg j L G):=by
 intro B U As Z H T D R P;refine h1 B U As Z H T _ R ?_;unfold Qg at P;cases e:L T with
 |bad=>rw[e]at P;exact P
 |exc c=>rw[e]at P;exact P.elim
 |ok J=>
   rw[e]at P;intro v I U1 H1 N R1 g1 n1 A;obtain⟨A,r⟩:=A;refine h2 I U1 As Z H1 T _ R1 ?_;cases S:G T with
   |bad=>rw[S]at P;exact P
   |exc c=>rw[S]at P;exact P.elim
   |ok d2=>
     rw[S]at P;dsimp only at P;by_cases z:IU 2 J=true/\IU 2 d2=true/\ie T (some j)=true
     · rw[Vo z]at P;obtain⟨z1,z2,z3⟩:=z;obtain⟨O,M⟩:=kA z3;intro u B2 U2 w s R2 t n2 y;obtain⟨y,C⟩:=y;refine⟨by show 2<=sizeLine;decide,λp b=>⟨p,rfl,⟨_,SqL.of ao⟩,?_⟩⟩;have X:Same w (upd w p (.lst [v,u])):=Gd.bo b
       have nn:∀l∈N++s,U2 l=none/\∀i,l∉As i:=λl hl=>by
        rcases Vy.mp hl with h|h
        ·obtain⟨o,d,m⟩:=r l h;exact⟨pU R2.uh t (n1.un l h) d m,R.apart n1 l h⟩
        ·exact⟨n2.un l h,R1.apart n2 l h⟩
       have F:p∉N++s:=λhm=>by
        rcases Vy.mp hm with h|h
        · obtain⟨o,d,m⟩:=r p h
          have:=t.h _ _ d;rw[b]at this;cases this
        ·obtain⟨o,d,m⟩:=C p h;rw[b]at d;cases d
       refine Ld (Y:=Y) (pr:=pr) (Gi (N++s) 2) (R2.new b) O M hp ao F nn (λk x ex=>?_) (λ_ _ _ _ g c=>g.next c) (λn x f H' Nx hn R3 hs g c=>TD (λQ q=>⟨x,hs,q⟩) g c) λf H' R3 k3 ks h3=>P f B2 U2 As H' R3 (g1.trans t).toEx k3;have d:Gi (N++s) 2 0 v (upd w p (.lst [v,u])):=Gi.of (Dn.mono (fI (t.h.trans X) λa h=>VB _ h) A) z1;have m:Gi (N++s) 2 0 u (upd w p (.lst [v,u])):=Gi.of (Dn.mono (fI X λa h=>Vs _ h) y) z2;rcases k with _|_|k
       ·cases ex;exact d
       ·cases ex;exact m
       ·simp at ex
     ·rw[on z]at P;exact P.elim
end
def T7(a b c:X0->Out D):X0->Out D:=λT=>(a T).bind λx T=>(b T).bind λy T=>(c T).bind λz T=>.ok (.tup [x,y,z]) T
theorem Oh{Y:Cm}{E:XK}{ms:List Md}{ta tb tc:TE}{e d mc:X0->Out D}(m:MJ Y (KR Y .F) E ms ta e)(l:MJ Y (KR Y .F) E ms tb d)(k:MJ Y (KR Y .F) E ms tc mc):MJ Y (KR Y .F) E ms (BH (aA ta (aA tb (aA tc bx)))) (T7 e d mc):=by
 intro B U As Z H T Q R P;refine m.bnd R P λx j v I U1 C H1 W r e1 L J t=>l.bnd r t λy i u B2 N A X S R2 n K q s=>k.bnd R2 s λz h w g M c V O a f G o P3=>?_;have dd:Dns Y g [x,y,z] [v,u,w]:=Dns.append (ds:=[x]) (xs:=[v]) (Dns.one (Dn.mono f.b (Dn.mono n.b J))) (Dns.append (ds:=[y]) (xs:=[u]) (Dns.one (Dn.mono f.b q)) (Dns.one o));refine⟨(by decide:3<=sizeLine),λp hp=>P3 (.ref p) _ _ c _ [] (a.newB hp) (Gw.newB a hp).toEx NewM.nil ?_⟩;show Dn Y (upd g p (.tup [v,u,w])) (.tup [x,y,z]) (.ref p);rw[Dn];exact⟨p,_,rfl,ao,dd.mono (Gd.bo (a.bh.free hp))⟩
end Mi
namespace Cl
open PySem L2 Mi
section
variable{Z W X M:Type}{rep:Z->X0}{e:W->D}{e':X->D}{e'':M->D}{eR:M->D}
@[simp] def Qt(a:Z->OutC Z W)(b:Z->OutC Z X)(c:Z->OutC Z M):Z->OutC Z (W×X×M):=λs=>xy (a s) λx s=>xy (b s) λy s=>xy (c s) λz s=>.ok (x,y,z) s
theorem RX{m n o:X0->Out D}{c:Z->OutC Z W}{d:Z->OutC Z X}{f:Z->OutC Z M}(g:NJ rep e m c)(b:NJ rep e' n d)(a:NJ rep e'' o f):NJ rep (lw e e' e'') (T7 m n o) (Qt c d f):=λs=>(g s).bd λ_ s=>(b s).bd λ_ s=>(a s).bd λ_ s=>rfl
def NB(n:Nat)(o:Option (List X)):Bool:=match o with
 |none=>true
 |some l=>decide (l.length+n<=ac)
def NA(n:Nat)(p:Int×Int×Option (List X)):Bool:=NB n p.2.2
theorem qO(n:Nat)(o:Option (List X)):IU n (eO (eL e') o)=NB n o:=by
 cases o with
 |none=>rfl
 |some l=>show decide ((l.map e').length+n<=ac)=decide (l.length+n<=ac);rw[Vr]
theorem Ik(n:Nat)(p:Int×Int×Option (List X)):IT n (lw D.int D.int (eO (eL e')) p)=NA n p:=qO n p.2.2
@[simp] def Qf(f:Z->Bool)(ok:Nat->W->Bool)(a:Z->Res (List W)):Z->FlC Z M:=λs=>match a s with
 |.ok l=>if l.all (ok l.length)=true/\f s=true/\l.length<ac then .nx s else .bad
 |_=>.bad
theorem JL{j i:Nat}{d:X0->Res D}{a:Z->Res (List W)}{f:Z->Bool}{ok:Nat->D->Bool}{b:Nat->W->Bool}(g:∀n x,ok n (e x)=b n x)(h:∀s,pY (rep s) i j=f s)(c:EJ rep (eL e) d a):TJ rep eR (ID ok i j d) (Qf f b a):=λs=>by
 have c:=c s;unfold ID Qf;cases q:a s with
 |ok l=>
   rw[q]at c;rw[show d (rep s)=.ok (.lst (l.map e)) from c];dsimp only;rw[h,List.length_map,List.all_map]
   have:(ok l.length∘e)=b l.length:=funext λp=>g _ _
   rw[this];split
   ·exact rfl
   ·trivial
 |_=>trivial
@[simp] def Ui(f:Z->Bool)(a b:Z->Res (Option (List X))):Z->FlC Z M:=λs=>match a s,b s with
 |.ok x,.ok y=>if NB 2 x=true/\NB 2 y=true/\f s=true then .nx s else .bad
 |_,_=>.bad
theorem Qu{j:Nat}{g e:X0->Res D}{a b:Z->Res (Option (List X))}{f:Z->Bool}(i:∀s,ie (rep s) (some j)=f s)(d:EJ rep (eO (eL e')) g a)(c:EJ rep (eO (eL e')) e b):TJ rep eR (Qg j g e) (Ui f a b):=λs=>by
 have d:=d s;have c:=c s;unfold Qg Ui;cases q:a s with
 |ok x=>
   rw[q]at d;have d:g (rep s)=.ok (eO (eL e') x):=d;cases h:b s with
   |ok y=>
     rw[h]at c;have c:e (rep s)=.ok (eO (eL e') y):=c;rw[d,c];dsimp only;rw[i,qO,qO];split
     ·exact rfl
     ·trivial
   |_=>trivial
 |_=>trivial
end
end Cl
namespace Cl
instance decR1:DecidableEq (Option (List Int)):=inferInstance
instance decR2:DecidableEq (List (Option (List Int))):=inferInstance
instance decR3:DecidableEq (List (Int×Int×Option (List Int))):=inferInstance
instance decR4:DecidableEq (List (Option (List Int)×List Int×List (Option (List Int)))):=inferInstance
instance decR5:DecidableEq (List (Option (List Int))×List (Int×Int×Option (List Int))×List (Option (List Int)×List Int×List (Option (List Int)))):=SW
end Cl
open PySem L2 in
theorem L2.Room.mm{j k:Nat}{A:Around}(r:Room k A)(h:j<=k:=by decide):Room j A:=r.mono h
namespace Mi
open PySem L2
section
variable{Y:Cm}{E:XK}{ms:List Md}{ta tb:TE}{ma mb:X0->Res D}
abbrev UJ(K:F0):List V->Hp->VK->Prop:=λxs H Q=>∃p ys,xs=[V.ref p]/\(SqL K H p ys\/SqT K H p ys)/\Q (.int ys.length) H
abbrev UK(K:F0):List V->Hp->VK->Prop:=λxs H Q=>∃p,∃bs:List Bool,xs=[.ref p]/\SqL K H p (bs.map V.bl)/\Q (.bl (bs.any id)) H
abbrev Q2:List V->Hp->VK->Prop:=λxs H Q=>∃i j,xs=[.int i,.int j]/\Q (.int (if j<i then j else i)) H
abbrev Q3:List V->Hp->VK->Prop:=λxs H Q=>∃i j,xs=[.int i,.int j]/\Q (.int (if j>i then j else i)) H
theorem Ro(a:PJ Y (KR Y .X) E ms ta ma):PJ Y (KR Y .F) E ms (xL (UJ Y.K) (aA ta bx)) (un jH ma):=J1 QP a
theorem Rx(a:PJ Y (KR Y .X) E ms ta ma):PJ Y (KR Y .F) E ms (xL (UK Y.K) (aA ta bx)) (un o7 ma):=J1 QU a
theorem MV(b:PJ Y (KR Y .X) E ms ta ma)(a:PJ Y (KR Y .X) E ms tb mb):PJ Y (KR Y .F) E ms (xL Q2 (aA ta (aA tb bx))) (bn oW ma mb):=J0 QK b a
theorem MX(b:PJ Y (KR Y .X) E ms ta ma)(a:PJ Y (KR Y .X) E ms tb mb):PJ Y (KR Y .F) E ms (xL Q3 (aA ta (aA tb bx))) (bn oX ma mb):=J0 QO b a
end
section
variable{P:Program}{w:World}{K:F0}{mg:Str->Option Value}{base:Heap}{f C:Addr}{fd:FuncData}{ps:List Str}{sp:Sp}{k:Nat}{x y m qual:Str}{st:Stmt}
structure CalN (P:Program) (w:World) (K:F0) (mg:Str->Option Value) (base:Heap) (x:Str) (k:Nat) (sp:Sp):Prop where
 ex:∃f fd ps,FnOk P w K mg base sS k f fd ps sp/\mg x=some (.ref f)/\PySem.W.keepIn K (.ref f)=true/\Binds K fd ps []
structure CalM (P:Program) (w:World) (K:F0) (mg:Str->Option Value) (base:Heap) (C:Addr) (m:Str) (k:Nat) (sp:Sp):Prop where
 ex:∃f fd ps,FnOk P w K mg base sS k f fd ps sp/\Meth K C m f/\Binds K fd ps []
structure CalC (P:Program) (w:World) (K:F0) (mg:Str->Option Value) (base:Heap) (C:Addr) (x:Str) (k:Nat) (sp:Sp):Prop where
 ex:∃f fd ps,FnOk P w K mg base sS k f fd ps sp/\Mk K C f/\mg x=some (.ref C)/\Binds K fd ps []
variable{X:Cx}{e o:Expr}{es:List Expr}{t:TA}{ta:TE}{p pos apos:Pos}
theorem CZ(c:CalN X.prog X.w X.K X.mg X.base x k sp)(f:Room k X.A)(j:Gl X x)(m:PA X (e::es) t)(d:(x==("__debug__" : Str))=false:=by decide)(l:starEach (e::es) X.env=(false,eval e X.env)::starEach es X.env:=by rfl)(a:(backTo pos (starEach es X.env)).any (·.1)=false:=by rfl):
 PE X (.Call (.Name x p) (e::es) [] pos) (fH sp [] E0 t):=
 let ⟨_,_,_,h,g,i,b⟩:=c.ex;HV h f j g i b .nil yx m d l a
theorem CO{pl:Sem Bool}(n:PE X o ta)(l:Cls X.K C)(c:CalM X.prog X.w X.K X.mg X.base C m k sp)(i:Room k X.A)(p:PA X (e::es) t)
 (a:starEach (e::es) X.env=(false,eval e X.env)::starEach es X.env:=by rfl) (d:(backTo pos (starEach es X.env)).any (·.1)=false:=by rfl)
 (g:eval (.Call (.Attribute o m apos) (e::es) [] pos) X.env=(do
   let ov <-eval o X.env
   standAt apos.atName
   let (f,first) <-holding [ov] (getMethod ov m pl)
   callWith pos f first (backTo pos (starEach (e::es) X.env)) (backToKw pos (keywordEach [] X.env))):=by rfl):
 PE X (.Call (.Attribute o m apos) (e::es) [] pos) (cg C m sp [] E0 ta t):=
 let ⟨_,_,_,h,j,b⟩:=c.ex;HK n l j h i b .nil yx p a d g
theorem At{pl:Sem Bool}(g:PE X o ta)(l:Cls X.K C)(c:CalM X.prog X.w X.K X.mg X.base C m k sp)(d:Room k X.A)
 (a:eval (.Call (.Attribute o m apos) [] [] pos) X.env=(do
   let ov <-eval o X.env
   standAt apos.atName
   let (f,first) <-holding [ov] (getMethod ov m pl)
   callWith pos f first (backTo pos (starEach [] X.env)) (backToKw pos (keywordEach [] X.env))):=by rfl):
 PE X (.Call (.Attribute o m apos) [] [] pos) (cg C m sp [] E0 ta bx):=
 let ⟨_,_,_,h,e,b⟩:=c.ex;CP g l e h d b .nil yx a
theorem CQ(c:CalC X.prog X.w X.K X.mg X.base C x k sp)(f:Room (k+1) X.A)(i:Gl X x)
 (l:PA X (e::es) t) (d:(x==("__debug__" : Str))=false:=by decide) (j:starEach (e::es) X.env=(false,eval e X.env)::starEach es X.env:=by rfl) (a:(backTo pos (starEach es X.env)).any (·.1)=false:=by rfl):
 PE X (.Call (.Name x p) (e::es) [] pos) (pe C sp [] E0 t):=
 let ⟨_,_,_,h,M,g,b⟩:=c.ex;HL M h f i g b .nil yx l d j a
end
section
variable{K:F0}{mg:Str->Option Value}{ns:List Str}{ms:List (Addr×Str)}{fs cs:List Addr}{ds:List (Addr×Str)}{es:List Addr}{ks:List (Addr×Value)}{xp:HD.Ob}{P:Program}{w:World}{base:Heap}{f C:Addr}{fd:FuncData}{ps:List Str}{sp:Sp}{k:Nat}{x y m q:Str}{st:Stmt}{v:Value}
structure Tx (ns:List Str) (ms:List (Addr×Str)) (fs cs:List Addr) (ds:List (Addr×Str)) (es:List Addr) (ks:List (Addr×Value)) (xp:HD.Ob) (K:F0) (mg:Str->Option Value):Prop where
 ex:∃h:Heap,K.In h/\h.Ns mainGlobals mg
 y:HD.obK ns ms fs cs ds es ks K=xp
theorem Iu{W X:Type}{l:List W}{g:W->X}{r:List X}(h:l.map g=r){i:Nat}{a:W}{b:X}(d:l[i]?=some a)(c:r[i]?=some b):g a=b:=HD.nth h i (by rw[VN,d];rfl) c
theorem Vb{x q:Str}{st:Stmt}{f:Addr}(h:HD.fnO K f q=HD.fnE x q st):∃d,Fun K x q st f d:=by
 have b:=HD.fn_keep h;obtain⟨oc,k,kV,i,pm,an,j,ct,a,l,c⟩:=HD.fn_of h;have e1:HD.dA st=iN st:=by cases st<;>rfl
 have g:HD.dB st=bU st:=by cases st<;>rfl
 have e:HD.dS st=aM st:=by cases st<;>rfl
 rw[e1,g,e]at l;exact⟨_,OM l c b⟩
variable(T:Tx ns ms fs cs ds es ks xp K mg)
include T
theorem Tx.tm(i:Nat)(b:ns[i]?=some x)(a:xp.1[i]?=some (some (some v))):mg x=some v:=let ⟨_,X,G⟩:=T.ex;PySem.W.mg_of X G (Iu (congrArg (·.1) T.y) b a)
theorem Tx.tz(i:Nat)(b:ns[i]?=some x)(a:xp.1[i]?=some (some none)):mg x=none:=let ⟨_,X,G⟩:=T.ex;PySem.W.mg_none_of X G (Iu (congrArg (·.1) T.y) b a)
theorem Tx.ta(i:Nat){o:Option (Option Value)}(b:ms[i]?=some (C,m))(a:xp.2.1[i]?=some o):PySem.W.findIn K (.ref C) m=o:=Iu (g:=λp=>PySem.W.findIn K (.ref p.1) p.2) (congrArg (·.2.1) T.y) b a
theorem Tx.tn(i:Nat)(a:fs[i]?=some f)(b:xp.2.2.1[i]?=some true):PySem.W.isFn K (.ref f)=true:=HD.nth (congrArg (·.2.2.1) T.y) i (by show((fs.map λf=>PySem.W.isFn K (.ref f))++cs.map (HD.cls K))[i]?=_;rw[Wc (by have:=(VI.mp a).1;simpa using this),VN,a];rfl) b
theorem Tx.tc(i:Nat)(b:cs[i]?=some C)(a:xp.2.2.1[fs.length+i]?=some true):HD.cls K C=true:=HD.nth (congrArg (·.2.2.1) T.y) (fs.length+i) (by show((fs.map λf=>PySem.W.isFn K (.ref f))++cs.map (HD.cls K))[fs.length+i]?=_;rw[V9 (by simp),VN];simp[b]) a
theorem Tx.tcl(i j:Nat)(g:cs[i]?=some C)(f:xp.2.2.1[fs.length+i]?=some true)(e:ms[j]?=some (C,("__setattr__" : Str)))(d:xp.2.1[j]?=some (some (some (.builtin "object.__setattr__")))):Cls K C:=
 let ⟨a,b,c,_,_⟩:=HD.cls_of (T.tc i g f);⟨a,b,c,T.ta j e d⟩
theorem Tx.tf(i:Nat)(b:ds[i]?=some (f,q))(a:xp.2.2.2.1[i]?=some (HD.fnE x q st)):∃d,Fun K x q st f d:=Vb (Iu (g:=λp=>HD.fnO K p.1 p.2) (congrArg (·.2.2.2.1) T.y) b a)
theorem Tx.calN(i j:Nat)(e:(ds[i]?,xp.2.2.2.1[i]?,ns[j]?,xp.1[j]?)=(some (f,q),some (HD.fnE x q st),some y,some (some (some (.ref f)))))(h:∀d,Fun K x q st f d->FnOk P w K mg base sS k f d ps sp/\Binds K d ps []):CalN P w K mg base y k sp:=by
 simp only[Xi]at e;obtain⟨g,c,b,a⟩:=e;obtain⟨_,F⟩:=T.tf i g c;exact⟨⟨_,_,_,(h _ F).1,T.tm j b a,F.kp,(h _ F).2⟩⟩
theorem Tx.calM(i j:Nat)(e:(ds[i]?,xp.2.2.2.1[i]?,ms[j]?,xp.2.1[j]?,fs[j]?,xp.2.2.1[j]?)=(some (f,q),some (HD.fnE x q st),some (C,m),some (some (some (.ref f))),some f,some true))(h:∀d,Fun K x q st f d->FnOk P w K mg base sS k f d ps sp/\Binds K d ps []):CalM P w K mg base C m k sp:=by
 simp only[Xi]at e;obtain⟨n,l,g,c,b,a⟩:=e;obtain⟨_,F⟩:=T.tf i n l;exact⟨⟨_,_,_,(h _ F).1,⟨T.ta j g c,T.tn j b a,F.kp⟩,(h _ F).2⟩⟩
theorem Tx.calC(i j l n:Nat)(e:(ds[i]?,xp.2.2.2.1[i]?,ms[j]?,xp.2.1[j]?,fs[j]?,xp.2.2.1[j]?,cs[l]?,xp.2.2.1[fs.length+l]?,ns[n]?,xp.1[n]?)=(some (f,q),some (HD.fnE x q st),some (C,("__init__" : Str)),some (some (some (.ref f))),some f,some true,some C,some true,some y,some (some (some (.ref C)))))(h:∀d,Fun K x q st f d->FnOk P w K mg base sS k f d ps sp/\Binds K d ps []):CalC P w K mg base C y k sp:=by
 simp only[Xi]at e;obtain⟨v,u,t,s,r,p,o,m,g,b⟩:=e;obtain⟨_,F⟩:=T.tf i v u;obtain⟨_,_,_,a,c⟩:=HD.cls_of (T.tc l o m);exact⟨⟨_,_,_,(h _ F).1,⟨a,T.ta j t s,T.tn j r p,c⟩,T.tm n g b,(h _ F).2⟩⟩
end
section
open PyProof.Rows PySem.W
variable{P:Program}{w:World}{K:F0}{mg:Str->Option Value}{base:Heap}{Y:Cm}{x qual:Str}{st:Stmt}{f:Addr}{fd:FuncData}{k:Nat}{ms:List Md}{body:X0->SO}{fm:List D->Out D}
theorem SH{ps:List Str}{sp:Sp}(F:Fun K x qual st f fd)(h:∀d,Fun K x qual st f d->FnOk P w K mg base sS k f d ps sp/\Binds K d ps []):FnOk P w K mg base sS k f fd ps sp:=(h _ F).1
abbrev Bnd(x qual:Str)(st:Stmt)(ps:List Str):Prop:=∀(kV a pm:Value) (an:Option Addr) (b ct:Value) (us:List Value),us.length=ps.length->bindArgs (PySem.W.fnOf x qual (iN st) (bU st) (aM st) .none kV a pm an b ct) ⟨us,[]⟩=pure (ps.zip us)
theorem iW(N:List Str)(more:List Md)(c:fm=run N.length body)(g:∀{a:Value} {A:Around} {outer:List PySem.Env} {s:Shared} {H:Hp} {E:XK},Room k (A.deeper (envOfC qual (aM st) s.heap.objs.size f a))->N.Nodup->∃t,SJ Y E0 (KR Y .F) (pA ms ms.length) (ms++more) t body/\PSs (uA sS P w K mg base N qual (aM st) f a A outer s H E).nox (bU st) t:=by intros;and_intros)
 (S:FnScope N (N.take ms.length) (aM st):=by ac_rfl) (d:N.length=ms.length + more.length:=by rfl) (b:Bnd x qual st (N.take ms.length):=by intro _ _ _ _ _ _;first | exact Ev λ_=>rfl | exact Eu λ_ _=>rfl | exact Et λ_ _ _=>rfl | exact Es λ_ _ _ _=>rfl | exact K8 λ_ _ _ _ _=>rfl):∀fd,Fun K x qual st f fd->FnOk P w K mg base sS (k + 1) f fd (N.take ms.length) (dq Y ms (KR Y .F) fm)/\Binds K fd (N.take ms.length) []:=λfd F=>
 ⟨F.ok S (λvs H Q E h=>(xX h).trans (by rw[Yb,d];omega)) λa A outer s H vs Q E e h=>let ⟨t,j,p⟩:=g e S.nd;⟨t,p,Jd j d c (λ_ _ _=>QX) h⟩,F.binds b⟩
end
section
variable{Y:Cm}{E:XK}{ms:List Md}{P:Program}{w:World}{K:F0}{mg:Str->Option Value}{base:Heap}{x mn:Str}{C:Addr}{n c i:Nat}{msC:List Md}{fm:List D->Out D}{ps:List Ap}{p:Ap}{s:Sh}{sh:List (Str×Sh)}{ta tb tx:TE}{ma mb:X0->Res D}{mx:X0->Out D}{t:TA}{m:X0->Res (List D)}{get:X0->Option D}{set:X0->D->X0}
theorem upP{W X:Type}{K:KT W X}{t:St->Hp->(X->Hp->Prop)->Prop}{m:X0->Res W}(h:PJ Y K E ms t m):MJ Y K E ms t (aw m):=upM h
theorem kx{k:Kd}(h:PJ Y (KR Y k) E ms ta ma):PJ Y (KR Y .X) E ms ta ma:=by
 cases k with
 |F=>exact fx h
 |U=>exact ux h
 |X=>exact h
def apK:Kd->Ap
 |.F=> .F
 |.U=> .U
 |.X=> .X
theorem aK{k:Kd}(h:PJ Y (KR Y k) E ms ta ma):A1J Y E ms (apK k) ta ma:=by
 cases k with
 |F=>exact aF h
 |U=>exact aU h
 |X=>exact aX h
theorem rSc(h:PJ Y (KR Y .X) E ms ta ma):PJ Y (KR Y .F) E ms ta (jA ma):=rS (k:= .X) h
theorem MN(_:CalN P w K mg base x n (dq Y msC (KR Y .F) fm))(h:AJ Y E0 ms ps t m)(a:cN ps msC=true):PJ Y (KR Y .F) E0 ms (fH (dq Y msC (KR Y .F) fm) [] E0 t) (pc fm m):=Rg h a
theorem HW(_:CalN P w K mg base x n (dq Y msC (KO Y s) fm))(h:AJ Y E0 ms ps t m)(a:cN ps msC=true):PJ Y (KO Y s) E0 ms (fH (dq Y msC (KO Y s) fm) [] E0 t) (pc fm m):=ML h a
theorem Mt(_:CalM P w K mg base C mn n (dq Y msC (KR Y .F) fm))(b:A1J Y E0 ms p ta ma)(h:AJ Y E0 ms ps t m)(a:cN (p::ps) msC=true):PJ Y (KR Y .F) E0 ms (cg (Y c) mn (dq Y msC (KR Y .F) fm) [] E0 ta t) (pm c mn fm ma m):=Q7 b h a
theorem HE(_:CalM P w K mg base C mn n (dq Y msC (KO Y s) fm))(b:A1J Y E0 ms p ta ma)(h:AJ Y E0 ms ps t m)(a:cN (p::ps) msC=true):PJ Y (KO Y s) E0 ms (cg (Y c) mn (dq Y msC (KO Y s) fm) [] E0 ta t) (pm c mn fm ma m):=Mr b h a
theorem Mu(_:CalC P w K mg base C x n (dq Y (.O (.ob sh)::msC) (KR Y .F) fm))(h:AJ Y E0 ms ps t m)(a:cN ps msC=true):PJ Y (KO Y (.ob sh)) E0 ms (pe (Y c) (dq Y (.O (.ob sh)::msC) (KR Y .F) fm) [] E0 t) (pk c fm m):=Q8 h a
theorem Oe(_:CalN P w K mg base x n (dq Y msC (KR Y .F) fm))(h:AJ Y E0 ms ps t m)(a:fitM ms ps msC)(hd:(cq ps).Nodup)(b:∀i∈gT ps,i∉cq ps):MJ Y (KR Y .F) E0 ms (fH (dq Y msC (KR Y .F) fm) [] E0 t) (mc ps fm m):=SB h a hd b
theorem Od(_:CalM P w K mg base C mn n (dq Y msC (KR Y .F) fm))(d:A1J Y E0 ms p ta ma)(h:AJ Y E0 ms ps t m)(a:fitM ms (p::ps) msC)(hd:(cq (p::ps)).Nodup)(b:∀i∈gT (p::ps),i∉cq (p::ps)):MJ Y (KR Y .F) E0 ms (cg (Y c) mn (dq Y msC (KR Y .F) fm) [] E0 ta t) (mm c mn (p::ps) fm ma m):=Sz d h a hd b
theorem IA(_:CalM P w K mg base C mn n (dq Y msC (KR Y .F) fm))(e:PJ Y (KR Y .F) E0 ms ta ma)(d:PJ Y (KR Y .F) E0 ms tb mb)(a:MJ Y (KR Y .F) E0 ms tx mx)(b:fitM ms [.O i,.F,.F,.F] msC):MJ Y (KR Y .F) E0 ms (cg (Y c) mn (dq Y msC (KR Y .F) fm) [] E0 (bI i) (aA ta (aA tb (aA tx bx)))) (Ks c mn i fm ma mb mx):=IB e d a b
theorem Iy(_:CalM P w K mg base C mn n (dq Y (.O s::msC) (KR Y .F) fm))(p:Prt Y ms ta get set i s)(h:AJ Y E0 ms ps t m)(b:fitM ms ps msC)(a:cq ps=[])(d:i∉gT ps):MJ Y (KR Y .F) E0 ms (cg (Y c) mn (dq Y (.O s::msC) (KR Y .F) fm) [] E0 ta t) (IC c mn get set fm m):=Iz p h b a d
end
section
open PyProof.Rows PySem.W
variable{P:Program}{w:World}{K:F0}{mg:Str->Option Value}{base:Heap}{Y:Cm}{x qual:Str}{st:Stmt}{f:Addr}{fd:FuncData}{k:Nat}{ms:List Md}{body:X0->SO}{fm:List D->Out D}
theorem tO{e:KT D V}(N:List Str)(more:List Md)(c:fm=eZ N.length body)(i:∀{a:Value} {A:Around} {outer:List PySem.Env} {s:Shared} {H:Hp} {E:XK},Room k (A.deeper (envOfC qual (aM st) s.heap.objs.size f a))->N.Nodup->∃t,SJ Y E0 e (pA ms ms.length) (ms++more) t body/\PSs (uA sS P w K mg base N qual (aM st) f a A outer s H E).nox (bU st) t:=by intros;and_intros)
 (S:FnScope N (N.take ms.length) (aM st):=by ac_rfl) (d:N.length=ms.length + more.length:=by rfl) (b:Bnd x qual st (N.take ms.length):=by intro _ _ _ _ _ _;first | exact Ev λ_=>rfl | exact Eu λ_ _=>rfl | exact Et λ_ _ _=>rfl | exact Es λ_ _ _ _=>rfl | exact K8 λ_ _ _ _ _=>rfl):∀fd,Fun K x qual st f fd->FnOk P w K mg base sS (k + 1) f fd (N.take ms.length) (dq Y ms e fm)/\Binds K fd (N.take ms.length) []:=λfd F=>
 ⟨F.ok S (λvs H Q E h=>(xX h).trans (by rw[Yb,d];omega)) λa A outer s H vs Q E g h=>let ⟨t,j,p⟩:=i g S.nd;⟨t,p,E6 j d c h⟩,F.binds b⟩
end
section
variable{Y:Cm}{E:XK}{ms:List Md}{P:Program}{w:World}{K:F0}{mg:Str->Option Value}{base:Heap}{x mn:Str}{C:Addr}{n c i:Nat}{msC:List Md}{fm:List D->Out D}{ps:List Ap}{p:Ap}{s:Sh}{sh:List (Str×Sh)}{ta tb tx:TE}{ma mb:X0->Res D}{mx:X0->Out D}{t:TA}{m:X0->Res (List D)}{get:X0->Option D}{set:X0->D->X0}
theorem HX(_:CalN P w K mg base x n (dq Y msC (KG Y) fm))(h:AJ Y E0 ms ps t m)(a:cN ps msC=true):PJ Y (KG Y) E0 ms (fH (dq Y msC (KG Y) fm) [] E0 t) (pc fm m):=MM h a
theorem HC(_:CalM P w K mg base C mn n (dq Y msC (KG Y) fm))(b:A1J Y E0 ms p ta ma)(h:AJ Y E0 ms ps t m)(a:cN (p::ps) msC=true):PJ Y (KG Y) E0 ms (cg (Y c) mn (dq Y msC (KG Y) fm) [] E0 ta t) (pm c mn fm ma m):=Mq b h a
theorem HF(_:CalM P w K mg base C mn n (dq Y msC (sO Y) fm))(b:A1J Y E0 ms p ta ma)(h:AJ Y E0 ms ps t m)(a:cN (p::ps) msC=true):PJ Y (sO Y) E0 ms (cg (Y c) mn (dq Y msC (sO Y) fm) [] E0 ta t) (pm c mn fm ma m):=Ms b h a
end
end Mi
set_option genInjectivity false
set_option genSizeOf false
namespace K12
open PySem L2 Mi
abbrev d8(K:F0)(mg:Str->Option Value):Prop:=Tx Qc Qd Qk Qo Qm Ql Qi (P9 PySem.Challenge.pw_heraldways_k12_posts_apart) K mg
structure Tx0 (K:F0) (mg:Str->Option Value):Prop where
 g_SEAT:mg "SEAT" = some (.int 0 296)
 g_MOST_HOUSES:mg "MOST_HOUSES" = some (.int 60 298)
 z_len:mg "len" = none
 z_range:mg "range" = none
 z_min:mg "min" = none
 z_max:mg "max" = none
 z_set:mg "set" = none
 z_list:mg "list" = none
 z_tuple:mg "tuple" = none
 z_any:mg "any" = none
 cl_Guild:Cls K 240
 cl_Post:Cls K 395
 n_house_count:NoAttr K 240 "house_count"
 n_ways:NoAttr K 240 "ways"
 n_likings:NoAttr K 240 "likings"
 n_shuns:NoAttr K 240 "shuns"
 n_wish_ranks:NoAttr K 240 "wish_ranks"
 n_guild:NoAttr K 395 "guild"
 n_roads:NoAttr K 395 "roads"
 n_told_last:NoAttr K 395 "told_last"
 n_written_last:NoAttr K 395 "written_last"
 n_letters:NoAttr K 395 "letters"
 n_standings:NoAttr K 395 "standings"
theorem tx0{K:F0}{mg:Str->Option Value}(T:d8 K mg):Tx0 K mg:=⟨T.tm 21 rfl rfl,T.tm 22 rfl rfl,T.tz 23 rfl rfl,T.tz 24 rfl rfl,T.tz 25 rfl rfl,T.tz 26 rfl rfl,T.tz 27 rfl rfl,T.tz 28 rfl rfl,T.tz 29 rfl rfl,T.tz 30 rfl rfl,T.tcl 0 30 rfl rfl rfl rfl,T.tcl 1 31 rfl rfl rfl rfl,T.ta 32 rfl rfl,T.ta 33 rfl rfl,T.ta 34 rfl rfl,T.ta 35 rfl rfl,T.ta 36 rfl rfl,T.ta 37 rfl rfl,T.ta 38 rfl rfl,T.ta 39 rfl rfl,T.ta 40 rfl rfl,T.ta 41 rfl rfl,T.ta 42 rfl rfl⟩
def ce(K:F0):Mi.Cm:=⟨λc=>match c with|0=>240|1=>395|_=>0,K,[]⟩
abbrev iU(K:F0)(ms:List Mi.Md)(m:List Mi.D->Mi.Out Mi.D):=Mi.dq (ce K) ms (Mi.KR (ce K) .F) m
def bL:List (Str×Sh):=[("ways",.ct .fz),("likings",.ct .fz),("shuns",.ct .fz),("wish_ranks",.ct .fz)]
def b6:List (Str×Sh):=[("guild",.ob bL),("roads",.ct .fz),("told_last",.ct .fz),("written_last",.ct .fz),("letters",.ct .fz),("standings",.ct (.ct .fz))]
def Sx:List Md:=[.O (.ob bL),.F]
def K6:X0->SO:=ah (gN (aw (Ic (dk (bn GH (vr 1) (ay (.int 1)))) (dk (bn I9 (vr 1) (ay (.int 60))))))
 (λ_=>.bad)
 bj)
 (ah (cc 0 "house_count" 0 (aw (vr 1)))
 (ah (cc 0 "ways" 0 (aw (ay (.dT [] []))))
 (ah (cc 0 "likings" 0 (aw (ay (.dT [] []))))
 (ah (cc 0 "shuns" 0 (aw (ay (.dT [] []))))
 (cc 0 "wish_ranks" 0 (aw (ay (.dT [] []))))))))
def AI:List D->Out D:=run 2 K6
theorem D6:K6=(ah (gN (aw (Ic (dk (bn GH (vr 1) (ay (.int 1)))) (dk (bn I9 (vr 1) (ay (.int 60))))))
 (λ_=>.bad)
 bj)
 (ah (cc 0 "house_count" 0 (aw (vr 1)))
 (ah (cc 0 "ways" 0 (aw (ay (.dT [] []))))
 (ah (cc 0 "likings" 0 (aw (ay (.dT [] []))))
 (ah (cc 0 "shuns" 0 (aw (ay (.dT [] []))))
 (cc 0 "wish_ranks" 0 (aw (ay (.dT [] []))))))))):=rfl
def Sw:List Md:=[.R,.R,.F]
def K5:X0->SO:=bA (aw (fc (cZ (un (bb 0 "house_count") (vr 0))) [1,2] (dk (bn (lR false) (gU (ai (vr 2) (ai (vr 0) ax))) (vr 1))) (vr 0)))
def Ot:List D->Out D:=eZ 3 K5
def Si:List Md:=[.R,.F,.R]
def KQ:X0->SO:=bA (aw (un o7 (fc (i9 (vr 2)) [1,0] (λ_=>.ok true) (bn (lR false) (gU (ai (vr 1) (ai (jA (vr 0)) ax))) (un (bb 0 "shuns") (vr 2))))))
def On:List D->Out D:=run 3 KQ
def Sg:List Md:=[.R]
def KP:X0->SO:=bA (aw (jA (un (bb 0 "house_count") (vr 0))))
def mD:List D->Out D:=run 1 KP
def R9:List Md:=[.O (.ob b6),.F,.F]
def KD:X0->SO:=ah (au (il (dY 1 "letters" 0) (dE "letters" 0) (gU (ai (vr 1) (ai (vr 2) ax)))))
 (ah (au (il (dY 1 "told_last" 0) (dE "told_last" 0) (gU (ai (vr 1) (ai (vr 2) ax)))))
 (ah (au (il (dY 1 "written_last" 0) (dE "written_last" 0) (gU (ai (vr 1) (ai (vr 2) ax)))))
 (au (m8 (jK (gO (bK 0) 1 "standings") (By 2)) (k7 (gO (bK 0) 1 "standings") (k8 (bK 0) (cM 0) "standings") (By 2)) (vr 1)))))
def II:List D->Out D:=run 3 KD
def N9:List Md:=[.O (.ob b6),.F,.F]
def D3:X0->SO:=ah (aV 3 (aw (bn ES (un (bb 1 "roads") (vr 0)) (vr 1))))
 (ah (gN (aw (dk (bn (GK false) (mR (un (bb 1 "written_last") (vr 0)) (gU (ai (vr 1) (ai (vr 2) ax)))) (vr 3))))
 Hi
 bj)
 (ah (eQ (dY 1 "written_last" 0) (dE "written_last" 0) (gU (ai (vr 1) (ai (vr 2) ax))) (aw (vr 3)))
 (eQ (dY 1 "letters" 0) (dE "letters" 0) (gU (ai (vr 1) (ai (vr 2) ax))) (aw (vr 3)))))
def t8:List D->Out D:=run 4 D3
def N5:List Md:=[.R,.F]
def DY:X0->SO:=ah (gN (aw (dk (bn GH (vr 1) (un jH (vr 0)))))
 (bA (aw (jA (bn ES (vr 0) (vr 1)))))
 bj)
 (bA (aw (ay (.int 0))))
def iX:List D->Out D:=run 2 DY
def NY:List Md:=[.F,.F]
abbrev EI:X0->SO:=(ah (aV 0 (aw (bn bR (bn jt (bn qV (vr 0) (ay (.int 48271))) (ay (.int 11))) (ay (.int 2147483647)))))
 (eQ (bK 2) (cM 2) (gU (ai (bn bR (vr 0) (vr 1)) (ai (bn bR (bn cO (vr 0) (ay (.int 7))) (vr 1)) ax))) (aw (bn oT (bn bR (bn cO (vr 0) (ay (.int 49))) (ay (.int 7))) (ay (.int 3))))))
def DV:X0->SO:=ah (aV 2 (aw (ay (.dT [] []))))
 (ah (dt (aw (cZ (bn bR (vr 0) (ay (.int 5))))) (sP 3)
 EI)
 (bA (yB 2)))
def yI:List D->Out D:=eZ 4 DV
def NU:List Md:=[.F,.F,.F]
abbrev EC:X0->SO:=(ah (au (Bn 4 (iS (bK 3) (cM 3) CI (bn bR (vr 0) (un jH (vr 3))))))
 (ah (aV 0 (aw (bn cO (vr 0) (ay (.int 5)))))
 (aV 5 (aw (bn oT (vr 5) (ay (.int 1)))))))
def DR:X0->SO:=ah (aV 3 (aw (fc (vX (ay (.int 1)) (vr 2)) [1] (dk (bn (sR true) (vr 0) (vr 1))) (vr 0))))
 (ah (aV 4 (aw (ke (ai (vr 1) ax))))
 (ah (aV 5 (aw (bn bR (vr 0) (ay (.int 4)))))
 (ah (gN (aw (dk (bn (sR false) (bn bR (bn cO (vr 0) (ay (.int 4))) (ay (.int 8))) (ay (.int 3)))))
 (aV 5 (aw (vr 2)))
 bj)
 (ah (aV 0 (aw (bn cO (vr 0) (ay (.int 4)))))
 (ah (xG (aw (Bp (dk (bn I9 (vr 5) (ay (.int 0)))) (dk (bn I9 (un jH (vr 3)) (ay (.int 0))))))
 EC 100000)
 (bA (aw (bn F9 (vr 4) (ke (ai (ay (.int 0)) ax))))))))))
def Ek:List D->Out D:=eZ 6 DR
def NS:List Md:=[.F,.F]
abbrev EA:X0->SO:=(ah (aV 0 (aw (bn bR (bn jt (bn qV (vr 0) (ay (.int 48271))) (ay (.int 23))) (ay (.int 2147483647)))))
 (ah (aV 4 (aw (bn bR (vr 0) (vr 1))))
 (ah (aV 5 (aw (bn bR (bn jt (bn jt (vr 4) (ay (.int 1))) (bn bR (bn cO (vr 0) (ay (.int 7))) (bn oT (vr 1) (ay (.int 1))))) (vr 1))))
 (gN (aw (dk (bn wz (gU (ai (vr 4) (ai (vr 5) ax))) (vr 2))))
 (au (iS (bK 2) (cM 2) js (gU (ai (vr 4) (ai (vr 5) ax)))))
 bj))))
def DP:X0->SO:=ah (aV 2 (aw (ke ax)))
 (ah (gN (aw (dk (bn GH (vr 1) (ay (.int 2)))))
 (bA (yB 2))
 bj)
 (ah (dt (aw (cZ (bn bR (vr 0) (ay (.int 3))))) (sP 3)
 EA)
 (bA (yB 2))))
def yG:List D->Out D:=eZ 6 DP
def NR:List Md:=[.R,.F,.F]
def DO:X0->SO:=bA (aw (fc (cZ (vr 1)) [0,2] (dk (bn GJ (gU (ai (bn oW (vr 2) (vr 0)) (ai (bn oX (vr 2) (vr 0)) ax))) (vr 1))) (vr 0)))
def yF:List D->Out D:=eZ 3 DO
def NP:List Md:=[.F,.F]
abbrev wI:X0->SO:=(ah (gN (aw (dk (bn (sR false) (bn bR (bn BS (vr 2) (bn bR (vr 4) (ay (.int 29)))) (ay (.int 2))) (ay (.int 1)))))
 (au (iS (bK 3) (cM 3) js (gU (ai (vr 5) (ai (vr 6) ax)))))
 bj)
 (aV 4 (aw (bn jt (vr 4) (ay (.int 1))))))
abbrev Ez:X0->SO:=(dt (aw (vX (bn jt (vr 5) (ay (.int 1))) (vr 1))) (sP 6)
 wI)
def DM:X0->SO:=ah (aV 2 (aw (bn bR (bn qV (bn bR (bn qV (bn jt (vr 0) (ay (.int 1))) (ay (.int 48271))) (ay (.int 2147483647))) (ay (.int 16807))) (ay (.int 2147483647)))))
 (ah (aV 3 (aw (ke ax)))
 (ah (aV 4 (aw (ay (.int 0))))
 (ah (dt (aw (cZ (vr 1))) (sP 5)
 Ez)
 (bA (yB 3)))))
def Ei:List D->Out D:=eZ 7 DM
def N7:List Md:=[.F,.F]
def D1:X0->SO:=ah (gN (aw (dk (bn (sR false) (vr 0) (ay (.int 0)))))
 (bA (aw (ke (ai (ay (.int 0)) ax))))
 bj)
 (ah (aV 2 (aw (bn t3 (vr 1) (ay .non))))
 (ah (gN (aw (dk (bn (ud false) (vr 2) (ay .non))))
 (bA (aw (ay .non)))
 bj)
 (bA (aw (bn yR (vr 2) (ay (.int 2)))))))
def Ep:List D->Out D:=run 3 D1
def N6:List Md:=[.R]
def D0:X0->SO:=ah (gN (aw (dk (bn (ud false) (vr 0) (ay .non))))
 (bA (aw (ay .non)))
 bj)
 (bA (aw (j6 (un gm (j6 (vr 0))))))
def pJ:List D->Out D:=eZ 1 D0
def NN:List Md:=[.R,.F]
def DK:X0->SO:=gN (aw (Ic (dk (bn GH (bn (mW c9) (vr 0) (ay (.int 0))) (ay (.int 0)))) (dk (bn Uo (bn (mW fM) (vr 0) (ay (.int 0))) (vr 1)))))
 (λ_=>.bad)
 bj
def Eg:List D->Out D:=run 2 DK
def Sm:List Md:=[.R,.R]
def KY:X0->SO:=au (aw (pc Eg (ai (vr 1) (ai (jA (un (bb 0 "house_count") (vr 0))) ax))))
def oZ:List D->Out D:=run 2 KY
def RZ:List Md:=[.R]
def Kw:X0->SO:=bA (aw (fc (i9 (un (bb 1 "roads") (vr 0))) [] (λ_=>.ok true) (pc pJ (ai (vr 0) ax))))
def IF:List D->Out D:=eZ 1 Kw
def Oa:List Md:=[.R]
def D4:X0->SO:=bA (aw (fc (vY (un (bb 1 "letters") (vr 0))) [0] (λ_=>.ok true) (gU (ai (jA (bn yR (vr 0) (ay (.int 0)))) (ai (jA (bn yR (vr 0) (ay (.int 1)))) (ai (pc pJ (ai (bn lD (un (bb 1 "letters") (vr 1)) (vr 0)) ax)) ax))))))
def pK:List D->Out D:=eZ 1 D4
def N0:List Md:=[.F,.F]
abbrev EK:X0->SO:=(ah (aV 0 (aw (bn bR (bn jt (bn qV (vr 0) (ay (.int 48271))) (ay (.int 17))) (ay (.int 2147483647)))))
 (ah (aV 4 (aw (pc Ek (ai (bn cO (vr 0) (ay (.int 9))) (ai (bn jt (ay (.int 1)) (bn bR (vr 0) (bn oT (vr 1) (ay (.int 1))))) (ai (vr 1) ax))))))
 (eQ (bK 2) (cM 2) (un BE (vr 4)) (aw (bn oT (bn bR (bn cO (vr 0) (ay (.int 5))) (ay (.int 9))) (ay (.int 4)))))))
def DX:X0->SO:=ah (aV 2 (aw (ay (.dT [] []))))
 (ah (gN (aw (dk (bn GH (vr 1) (ay (.int 2)))))
 (bA (yB 2))
 bj)
 (ah (dt (aw (cZ (bn bR (vr 0) (ay (.int 4))))) (sP 3)
 EK)
 (bA (yB 2))))
def yK:List D->Out D:=eZ 5 DX
def NO:List Md:=[.R,.F,.R]
def DL:X0->SO:=ah (gN (aw (Ic (dk (bn (ud false) (vr 2) (ay .non))) (Ic (dk (bn (sR false) (vr 1) (ay (.int 0)))) (dk (bn GJ (vr 1) (vr 2))))))
 (bA (aw (ay (.bl false))))
 bj)
 (bA (aw (un NH (pm 0 "shuns_one_of" On (vr 0) (ai (vr 1) (ai (vr 2) ax))))))
def Eh:List D->Out D:=run 3 DL
def Ss:List Md:=[.O (.ob bL),.F,.F,.F]
def K2:X0->SO:=ah (au (aw (pm 0 "require_houses" oZ (vr 0) (ai (ke (ai (vr 1) (ai (vr 2) ax))) ax))))
 (eQ (dY 0 "likings" 0) (dE "likings" 0) (gU (ai (vr 1) (ai (vr 2) ax))) (aw (vr 3)))
def IQ:List D->Out D:=run 4 K2
def Sr:List Md:=[.R,.F,.F]
def K1:X0->SO:=ah (au (aw (pm 0 "require_houses" oZ (vr 0) (ai (ke (ai (vr 1) (ai (vr 2) ax))) ax))))
 (bA (aw (jA (yY (un (bb 0 "likings") (vr 0)) (gU (ai (vr 1) (ai (vr 2) ax))) (ay (.int 0))))))
def Op:List D->Out D:=run 3 K1
def Sq:List Md:=[.R,.F]
def K0:X0->SO:=ah (au (aw (pm 0 "require_houses" oZ (vr 0) (ai (ke (ai (vr 1) ax)) ax))))
 (bA (aw (pm 0 "houses_paired" Ot (vr 0) (ai (un (bb 0 "ways") (vr 0)) (ai (vr 1) ax)))))
def Ec:List D->Out D:=eZ 2 K0
def Sl:List Md:=[.R,.R]
def KW:X0->SO:=ah (au (aw (pm 0 "require_houses" oZ (vr 0) (ai (vr 1) ax))))
 (ah (gN (aw (dk (bn GH (un jH (vr 1)) (ay (.int 2)))))
 (λ_=>.bad)
 bj)
 (ah (gN (aw (dk (bn (sR true) (bn ES (vr 1) (un Iv (ay (.int 1)))) (ay (.int 0)))))
 (λ_=>.bad)
 bj)
 (gN (aw (dk (bn (sR true) (un mI (vr 1)) (un jH (vr 1)))))
 (λ_=>.bad)
 bj)))
def IP:List D->Out D:=run 2 KW
def Sk:List Md:=[.R,.F,.F]
def KU:X0->SO:=ah (au (aw (pm 0 "require_houses" oZ (vr 0) (ai (ke (ai (vr 1) (ai (vr 2) ax))) ax))))
 (gN (aw (dk (bn (sR false) (vr 1) (vr 2))))
 (λ_=>.bad)
 bj)
def Eb:List D->Out D:=run 3 KU
def Sf:List Md:=[.R]
def KN:X0->SO:=ah (aV 1 (aw (pk 0 AI (ai (jA (un (bb 0 "house_count") (vr 0))) ax))))
 (ah (au (qu (dY 0 "ways" 1) (dE "ways" 1) (un (bb 0 "ways") (vr 0))))
 (ah (au (qu (dY 0 "likings" 1) (dE "likings" 1) (un (bb 0 "likings") (vr 0))))
 (ah (au (qu (dY 0 "shuns" 1) (dE "shuns" 1) (un (bb 0 "shuns") (vr 0))))
 (ah (au (qu (dY 0 "wish_ranks" 1) (dE "wish_ranks" 1) (un (bb 0 "wish_ranks") (vr 0))))
 (bA (yB 1))))))
def wG:List D->Out D:=eZ 2 KN
def R5:List Md:=[.R,.F]
def Kx:X0->SO:=ah (au (aw (pm 0 "require_houses" oZ (un (bb 1 "guild") (vr 0)) (ai (ke (ai (vr 1) ax)) ax))))
 (bA (aw (pc pJ (ai (bn ES (un (bb 1 "roads") (vr 0)) (vr 1)) ax))))
def IG:List D->Out D:=eZ 2 Kx
def Oc:List Md:=[.R,.F,.F]
def D5:X0->SO:=ah (au (aw (pm 0 "require_houses" oZ (un (bb 1 "guild") (vr 0)) (ai (ke (ai (vr 1) (ai (vr 2) ax))) ax))))
 (bA (aw (pc pJ (ai (mR (un (bb 1 "told_last") (vr 0)) (gU (ai (vr 1) (ai (vr 2) ax)))) ax))))
def yL:List D->Out D:=eZ 3 D5
def Sv:List Md:=[.O (.ob bL),.F,.F]
def K4:X0->SO:=ah (au (aw (pm 0 "require_two_houses" Eb (vr 0) (ai (vr 1) (ai (vr 2) ax)))))
 (ah (gN (aw (dk (bn (lR false) (gU (ai (vr 1) (ai (vr 2) ax))) (un (bb 0 "ways") (vr 0)))))
 (λ_=>.bad)
 bj)
 (ah (eQ (dY 0 "ways" 0) (dE "ways" 0) (gU (ai (vr 1) (ai (vr 2) ax))) (aw (ay (.bl true))))
 (eQ (dY 0 "ways" 0) (dE "ways" 0) (gU (ai (vr 2) (ai (vr 1) ax))) (aw (ay (.bl true))))))
def Ee:List D->Out D:=run 3 K4
def Su:List Md:=[.O (.ob bL),.F,.F]
def K3:X0->SO:=ah (au (aw (pm 0 "require_two_houses" Eb (vr 0) (ai (vr 1) (ai (vr 2) ax)))))
 (ah (gN (aw (dk (bn (lR true) (gU (ai (vr 1) (ai (vr 2) ax))) (un (bb 0 "ways") (vr 0)))))
 (λ_=>.bad)
 bj)
 (ah (au (lB (dY 0 "ways" 0) (dE "ways" 0) (gU (ai (vr 1) (ai (vr 2) ax)))))
 (au (lB (dY 0 "ways" 0) (dE "ways" 0) (gU (ai (vr 2) (ai (vr 1) ax)))))))
def IS:List D->Out D:=run 3 K3
def Sn:List Md:=[.R,.R]
def KZ:X0->SO:=ah (au (aw (pm 0 "require_long_road" IP (vr 0) (ai (vr 1) ax))))
 (ah (aV 2 (aw (jA (mR (un (bb 0 "wish_ranks") (vr 0)) (un BE (j6 (vr 1)))))))
 (ah (gN (aw (dk (bn (ud false) (vr 2) (ay .non))))
 (bA (aw (pm 0 "liking" Op (vr 0) (ai (jA (bn ES (vr 1) (ay (.int 0)))) (ai (jA (bn ES (vr 1) (ay (.int 1)))) ax)))))
 bj)
 (bA (aw (vr 2)))))
def Oo:List D->Out D:=run 3 KZ
def Sj:List Md:=[.O (.ob bL),.F,.F]
def KS:X0->SO:=ah (au (aw (pm 0 "require_two_houses" Eb (vr 0) (ai (vr 1) (ai (vr 2) ax)))))
 (eQ (dY 0 "shuns" 0) (dE "shuns" 0) (gU (ai (vr 1) (ai (vr 2) ax))) (aw (ay (.bl true))))
def IN:List D->Out D:=run 3 KS
def Se:List Md:=[.O (.ob bL),.R,.F]
def KM:X0->SO:=ah (au (aw (pm 0 "require_long_road" IP (vr 0) (ai (vr 1) ax))))
 (eQ (dY 0 "wish_ranks" 0) (dE "wish_ranks" 0) (un BE (j6 (vr 1))) (aw (vr 2)))
def IK:List D->Out D:=run 3 KM
def R7:List Md:=[.R,.F]
def Kz:X0->SO:=bA (aw (pm 0 "neighbours" Ec (un (bb 1 "guild") (vr 0)) (ai (vr 1) ax)))
def IH:List D->Out D:=eZ 2 Kz
def N8:List Md:=[.O (.ob b6),.F]
abbrev EL:X0->SO:=(au (mm 1 "write_road" [(.O 0),.F,.F] t8 (vr 0) (ai (vr 1) (ai (vr 2) ax))))
def D2:X0->SO:=dt (aw (i9 (pm 0 "neighbours" Ec (un (bb 1 "guild") (vr 0)) (ai (vr 1) ax)))) (sP 2)
 EL
def gM:List D->Out D:=run 3 D2
def Sd:List Md:=[.O (.ob b6),.R]
def KJ:X0->SO:=ah (cc 1 "guild" 0 (aw (pm 0 "twin" wG (vr 1) ax)))
 (ah (cc 1 "roads" 0 (aw (bn we (ke (ai (ay .non) ax)) (pm 0 "size" mD (vr 1) ax))))
 (ah (lg (dY 1 "roads" 0) (dE "roads" 0) (ay (.int 0)) (aw (ke (ai (ay (.int 0)) ax))))
 (ah (cc 1 "told_last" 0 (aw (ay (.dT [] []))))
 (ah (cc 1 "written_last" 0 (aw (ay (.dT [] []))))
 (ah (cc 1 "letters" 0 (aw (ay (.dT [] []))))
 (ah (cc 1 "standings" 0 (aw (fc (cZ (pm 0 "size" mD (vr 1) ax)) [] (λ_=>.ok true) (ay (.dK [] [])))))
 (au (mm 1 "write_to_all" [(.O 0),.F] gM (vr 0) (ai (ay (.int 0)) ax)))))))))
def oY:List D->Out D:=run 2 KJ
theorem t6:KJ=(ah (cc 1 "guild" 0 (aw (pm 0 "twin" wG (vr 1) ax)))
 (ah (cc 1 "roads" 0 (aw (bn we (ke (ai (ay .non) ax)) (pm 0 "size" mD (vr 1) ax))))
 (ah (lg (dY 1 "roads" 0) (dE "roads" 0) (ay (.int 0)) (aw (ke (ai (ay (.int 0)) ax))))
 (ah (cc 1 "told_last" 0 (aw (ay (.dT [] []))))
 (ah (cc 1 "written_last" 0 (aw (ay (.dT [] []))))
 (ah (cc 1 "letters" 0 (aw (ay (.dT [] []))))
 (ah (cc 1 "standings" 0 (aw (fc (cZ (pm 0 "size" mD (vr 1) ax)) [] (λ_=>.ok true) (ay (.dK [] [])))))
 (au (mm 1 "write_to_all" [(.O 0),.F] gM (vr 0) (ai (ay (.int 0)) ax)))))))))):=rfl
def Sb:List Md:=[.O (.ob b6),.F]
def KF:X0->SO:=ah (aV 2 (aw (pc Ep (ai (vr 1) (ai (un Bz (Qb (jK (gO (bK 0) 1 "standings") (By 1)))) ax)))))
 (ah (gN (aw (dk (bn (GK false) (vr 2) (bn ES (un (bb 1 "roads") (vr 0)) (vr 1)))))
 (bA (aw (ay (.bl false))))
 bj)
 (ah (lg (dY 1 "roads" 0) (dE "roads" 0) (vr 1) (aw (vr 2)))
 (ah (au (mm 1 "write_to_all" [(.O 0),.F] gM (vr 0) (ai (vr 1) ax)))
 (bA (aw (ay (.bl true)))))))
def D9:List D->Out D:=run 3 KF
def R6:List Md:=[.O (.ob b6),.F,.F]
def Ky:X0->SO:=ah (au (IC 0 "lay_way" (gO (bK 0) 1 "guild") (k8 (bK 0) (cM 0) "guild") Ee (ai (vr 1) (ai (vr 2) ax))))
 (ah (au (mm 1 "write_road" [(.O 0),.F,.F] t8 (vr 0) (ai (bn oW (vr 1) (vr 2)) (ai (bn oX (vr 1) (vr 2)) ax))))
 (au (mm 1 "write_road" [(.O 0),.F,.F] t8 (vr 0) (ai (bn oX (vr 1) (vr 2)) (ai (bn oW (vr 1) (vr 2)) ax)))))
def Of:List D->Out D:=run 3 Ky
def NX:List Md:=[.F,.R,.R,.R,.R]
abbrev EH:X0->SO:=(au (mm 0 "lay_way" [(.O 5),.F,.F] Ee (vr 5) (ai (jA (vr 6)) (ai (jA (vr 7)) ax))))
abbrev EG:X0->SO:=(au (mm 0 "like" [(.O 5),.F,.F,.F] IQ (vr 5) (ai (jA (bn yR (vr 8) (ay (.int 0)))) (ai (jA (bn yR (vr 8) (ay (.int 1)))) (ai (jA (bn lD (vr 2) (vr 8))) ax)))))
abbrev EF:X0->SO:=(au (mm 0 "wish" [(.O 5),.F,.F] IK (vr 5) (ai (un gm (j6 (vr 9))) (ai (jA (bn lD (vr 3) (vr 9))) ax))))
abbrev EE:X0->SO:=(au (mm 0 "shun" [(.O 5),.F,.F] IN (vr 5) (ai (jA (vr 6)) (ai (jA (vr 7)) ax))))
def DU:X0->SO:=ah (aV 5 (aw (pk 0 AI (ai (vr 0) ax))))
 (ah (dt (aw (i9 (vr 1))) (GT 6 7)
 EH)
 (ah (dt (aw (i9 (un yN (vr 2)))) (sP 8)
 EG)
 (ah (dt (aw (i9 (un yN (vr 3)))) (sP 9)
 EF)
 (ah (dt (aw (i9 (vr 4))) (GT 6 7)
 EE)
 (bA (yB 5))))))
def yH:List D->Out D:=eZ 10 DU
def NW:List Md:=[.R,.F]
abbrev ED:X0->SO:=(ah (au (z9 (pm 1 "neighbours_now" IH (vr 0) (ai (vr 6) ax)) (vr 6)))
 (Qg 3 (pm 1 "road" IG (vr 0) (ai (vr 6) ax)) (pm 1 "told" yL (vr 0) (ai (ay (.int 0)) (ai (vr 6) ax)))))
def DT:X0->SO:=ah (ID IU 2 3 (pm 1 "table" IF (vr 0) ax))
 (ah (ID IT 4 5 (pm 1 "waiting" pK (vr 0) ax))
 (dt (aw (cZ (vr 1))) (sP 6)
 ED))
def Em:List D->Out D:=run 7 DT
def NT:List Md:=[.R,.F]
abbrev EB:X0->SO:=(au (iS (bK 2) (cM 2) js (ke (ai (pm 1 "road" IG (vr 0) (ai (vr 3) ax)) (ai (pm 1 "neighbours_now" IH (vr 0) (ai (vr 3) ax)) (ai (fc (cZ (vr 1)) [3,0] (λ_=>.ok true) (pm 1 "told" yL (vr 2) (ai (vr 0) (ai (vr 1) ax)))) ax))))))
def DQ:X0->SO:=ah (aV 2 (aw (ke ax)))
 (ah (dt (aw (cZ (vr 1))) (sP 3)
 EB)
 (bA (T7 (aw (pm 1 "table" IF (vr 0) ax)) (aw (pm 1 "waiting" pK (vr 0) ax)) (yB 2))))
def pH:List D->Out D:=run 4 DQ
def NQ:List Md:=[.O (.ob bL),.O (.ct .fz),.F,.F]
def DN:X0->SO:=ah (aV 4 (aw (bn bR (bn cO (vr 3) (ay (.int 4))) (vr 2))))
 (ah (aV 5 (aw (bn bR (bn jt (bn jt (vr 4) (ay (.int 1))) (bn bR (bn cO (bn cO (vr 3) (ay (.int 4))) (vr 2)) (bn oT (vr 2) (ay (.int 1))))) (vr 2))))
 (ah (aV 6 (aw (gU (ai (bn oW (vr 4) (vr 5)) (ai (bn oX (vr 4) (vr 5)) ax)))))
 (gN (aw (Bp (dk (bn (sR false) (bn bR (vr 3) (ay (.int 4))) (ay (.int 0)))) (dk (bn GJ (vr 6) (vr 1)))))
 (ah (au (mm 0 "lift_way" [(.O 0),.F,.F] IS (vr 0) (ai (vr 4) (ai (vr 5) ax))))
 (au (iS (bK 1) (cM 1) wj (vr 6))))
 (gN (aw (dk (bn (sR false) (bn bR (vr 3) (ay (.int 4))) (ay (.int 0)))))
 (ah (au (mm 0 "lay_way" [(.O 0),.F,.F] Ee (vr 0) (ai (vr 4) (ai (vr 5) ax))))
 (au (iS (bK 1) (cM 1) js (vr 6))))
 (gN (aw (dk (bn (sR false) (bn bR (vr 3) (ay (.int 4))) (ay (.int 1)))))
 (au (mm 0 "like" [(.O 0),.F,.F,.F] IQ (vr 0) (ai (vr 4) (ai (vr 5) (ai (bn oT (bn bR (vr 3) (ay (.int 9))) (ay (.int 4))) ax)))))
 (gN (aw (dk (bn (sR false) (bn bR (vr 3) (ay (.int 4))) (ay (.int 2)))))
 (au (mm 0 "wish" [(.O 0),.F,.F] IK (vr 0) (ai (ke (ai (bn yR (vr 6) (ay (.int 1))) (ai (ay (.int 0)) ax))) (ai (bn bR (vr 3) (ay (.int 7))) ax))))
 (au (mm 0 "shun" [(.O 0),.F,.F] IN (vr 0) (ai (vr 4) (ai (vr 5) ax))))))))))
def Ej:List D->Out D:=run 7 DN
def NM:List Md:=[.R,.F]
def DH:X0->SO:=bA (aw (gU (ai (un Iv (pm 0 "rank_of" Oo (vr 0) (ai (vr 1) ax))) (ai (un jH (vr 1)) (ai (vr 1) ax)))))
def Ef:List D->Out D:=run 2 DH
def Sa:List Md:=[.O (.ob b6),.F,.F]
def KE:X0->SO:=ah (au (IC 0 "lift_way" (gO (bK 0) 1 "guild") (k8 (bK 0) (cM 0) "guild") IS (ai (vr 1) (ai (vr 2) ax))))
 (ah (au (mm 1 "forget" [(.O 0),.F,.F] II (vr 0) (ai (vr 1) (ai (vr 2) ax))))
 (ah (au (mm 1 "forget" [(.O 0),.F,.F] II (vr 0) (ai (vr 2) (ai (vr 1) ax))))
 (ah (au (mm 1 "choose_anew" [(.O 0),.F] D9 (vr 0) (ai (bn oW (vr 1) (vr 2)) ax)))
 (au (mm 1 "choose_anew" [(.O 0),.F] D9 (vr 0) (ai (bn oX (vr 1) (vr 2)) ax))))))
def Oj:List D->Out D:=run 3 KE
def R8:List Md:=[.O (.ob b6),.F,.F,.F]
def KA:X0->SO:=ah (eQ (dY 1 "told_last" 0) (dE "told_last" 0) (gU (ai (vr 1) (ai (vr 2) ax))) (aw (vr 3)))
 (gN (aw (dk (pc Eh (ai (un (bb 1 "guild") (vr 0)) (ai (vr 2) (ai (vr 3) ax))))))
 (eQ (jK (gO (bK 0) 1 "standings") (By 2)) (k7 (gO (bK 0) 1 "standings") (k8 (bK 0) (cM 0) "standings") (By 2)) (vr 1) (aw (pc Ef (ai (un (bb 1 "guild") (vr 0)) (ai (bn F9 (ke (ai (vr 2) ax)) (vr 3)) ax)))))
 (au (m8 (jK (gO (bK 0) 1 "standings") (By 2)) (k7 (gO (bK 0) 1 "standings") (k8 (bK 0) (cM 0) "standings") (By 2)) (vr 1))))
def Og:List D->Out D:=run 4 KA
def Sc:List Md:=[.O (.ob b6),.F,.F]
def KH:X0->SO:=ah (au (aw (pm 0 "require_houses" oZ (un (bb 1 "guild") (vr 0)) (ai (ke (ai (vr 1) (ai (vr 2) ax))) ax))))
 (ah (gN (aw (dk (bn (lR true) (gU (ai (vr 1) (ai (vr 2) ax))) (un (bb 1 "letters") (vr 0)))))
 (λ_=>.bad)
 bj)
 (ah (au (Ks 1 "hear" 0 Og (vr 1) (vr 2) (lB (dY 1 "letters" 0) (dE "letters" 0) (gU (ai (vr 1) (ai (vr 2) ax))))))
 (bA (mm 1 "choose_anew" [(.O 0),.F] D9 (vr 0) (ai (vr 2) ax)))))
def Ol:List D->Out D:=run 3 KH
def NV:List Md:=[.R,.F,.R]
def DS:X0->SO:=ah (aV 3 (aw (pc yI (ai (pc iX (ai (vr 0) (ai (ay (.int 2)) ax))) (ai (vr 1) ax)))))
 (ah (aV 4 (aw (pc yK (ai (pc iX (ai (vr 0) (ai (ay (.int 3)) ax))) (ai (vr 1) ax)))))
 (ah (aV 5 (aw (pc yG (ai (pc iX (ai (vr 0) (ai (ay (.int 4)) ax))) (ai (vr 1) ax)))))
 (bA (aw (pk 1 oY (ai (pc yH (ai (vr 1) (ai (vr 2) (ai (vr 3) (ai (vr 4) (ai (vr 5) ax)))))) ax))))))
def El:List D->Out D:=eZ 6 DS
def NZ:List Md:=[.O (.ob b6),.O (.ct .fz),.F,.F]
def DW:X0->SO:=ah (aV 4 (aw (bn bR (bn cO (vr 3) (ay (.int 5))) (vr 2))))
 (ah (aV 5 (aw (bn bR (bn cO (bn cO (vr 3) (ay (.int 5))) (vr 2)) (vr 2))))
 (ah (aV 6 (aw (pm 1 "waiting" pK (vr 0) ax)))
 (gN (aw (Bp (dk (bn I9 (bn bR (vr 3) (ay (.int 5))) (ay (.int 2)))) (dk (bn (sR true) (vr 4) (vr 5)))))
 (ah (aV 7 (aw (gU (ai (bn oW (vr 4) (vr 5)) (ai (bn oX (vr 4) (vr 5)) ax)))))
 (gN (aw (dk (bn GJ (vr 7) (vr 1))))
 (ah (au (mm 1 "fall" [(.O 0),.F,.F] Oj (vr 0) (ai (vr 4) (ai (vr 5) ax))))
 (au (iS (bK 1) (cM 1) wj (vr 7))))
 (ah (au (mm 1 "rise" [(.O 0),.F,.F] Of (vr 0) (ai (vr 4) (ai (vr 5) ax))))
 (au (iS (bK 1) (cM 1) js (vr 7))))))
 (gN (aw (dk (bn I9 (un jH (vr 6)) (ay (.int 0)))))
 (ah (aV 8 (aw (bn ES (vr 6) (bn bR (bn cO (vr 3) (ay (.int 5))) (un jH (vr 6))))))
 (au (mm 1 "carry" [(.O 0),.F,.F] Ol (vr 0) (ai (bn yR (vr 8) (ay (.int 0))) (ai (bn yR (vr 8) (ay (.int 1))) ax)))))
 bj))))
def yJ:List D->Out D:=run 9 DW
def DA:List Md:=[.R]
abbrev AR:X0->SO:=(ah (au (mc [(.O 6),(.O 11),.F,.F] Ej (ai (vr 6) (ai (vr 11) (ai (vr 1) (ai (vr 14) ax))))))
 (ah (au (mc [(.O 7),(.O 12),.F,.F] yJ (ai (vr 7) (ai (vr 12) (ai (vr 1) (ai (bn cO (vr 14) (ay (.int 4))) ax))))))
 (ah (au (aw (pc Em (ai (vr 7) (ai (vr 1) ax)))))
 (ah (au (mc [(.O 9),(.O 13),.F,.F] yJ (ai (vr 9) (ai (vr 13) (ai (vr 1) (ai (bn cO (vr 14) (ay (.int 4))) ax))))))
 (gN (aw (dk (bn (GK true) (pc pH (ai (vr 7) (ai (vr 1) ax))) (pc pH (ai (vr 9) (ai (vr 1) ax))))))
 (bA (aw (ay (.bl false))))
 bj)))))
abbrev AQ:X0->SO:=(gN (aw (dk (bn (GK true) (pm 0 "neighbours" Ec (vr 6) (ai (vr 15) ax)) (pc yF (ai (vr 11) (ai (vr 1) (ai (vr 15) ax)))))))
 (bA (aw (ay (.bl false))))
 bj)
def DZ:X0->SO:=ah (aV 1 (aw (bn jt (ay (.int 2)) (bn bR (pc iX (ai (vr 0) (ai (ay (.int 0)) ax))) (ay (.int 5))))))
 (ah (aV 2 (aw (pc Ei (ai (pc iX (ai (vr 0) (ai (ay (.int 1)) ax))) (ai (vr 1) ax)))))
 (ah (aV 3 (aw (pc yI (ai (pc iX (ai (vr 0) (ai (ay (.int 2)) ax))) (ai (vr 1) ax)))))
 (ah (aV 4 (aw (pc yK (ai (pc iX (ai (vr 0) (ai (ay (.int 3)) ax))) (ai (vr 1) ax)))))
 (ah (aV 5 (aw (pc yG (ai (pc iX (ai (vr 0) (ai (ay (.int 4)) ax))) (ai (vr 1) ax)))))
 (ah (aV 6 (aw (pc yH (ai (vr 1) (ai (vr 2) (ai (vr 3) (ai (vr 4) (ai (vr 5) ax))))))))
 (ah (aV 7 (aw (pk 1 oY (ai (vr 6) ax))))
 (ah (aV 8 (aw (pk 1 oY (ai (vr 6) ax))))
 (ah (aV 9 (aw (pc El (ai (vr 0) (ai (vr 1) (ai (vr 2) ax))))))
 (ah (aV 10 (aw (pc pH (ai (vr 8) (ai (vr 1) ax)))))
 (ah (aV 11 (aw (un gm (vr 2))))
 (ah (aV 12 (aw (un gm (vr 2))))
 (ah (aV 13 (aw (un gm (vr 2))))
 (ah (dt (aw (i9 (bn Fe (j6 (vr 0)) (ay (.int 6))))) (sP 14)
 AR)
 (ah (gN (aw (dk (bn (sR true) (un jH (pm 1 "waiting" pK (pk 1 oY (ai (vr 6) ax)) ax)) (un jH (pc yF (ai (vr 11) (ai (vr 1) (ai (ay (.int 0)) ax))))))))
 (bA (aw (ay (.bl false))))
 bj)
 (ah (dt (aw (cZ (vr 1))) (sP 15)
 AQ)
 (bA (aw (bn (GK false) (pc pH (ai (vr 8) (ai (vr 1) ax))) (vr 10)))))))))))))))))))
def Eo:List D->Out D:=run 16 DZ
section
variable(P:Program)(w:World)(b:Heap){K:F0}{g:Str->Option Value}
set_option compiler.extract_closed false
set_option hygiene false
seal PE PS PSs PT P6 PA PI PG TX PC PW PK PO jv PySem.binaryOp PySem.compareOp PySem.bootBuiltins Uq dD fE Qp Ur bI tC tB LM Uz BJ kZ lN iT LK BI sY vP b7 OL yZ OJ OK l7 vO iY EY EX vQ sQ Ux kY l6 BX bx aA BH GU fH cg pe xL BK LL qy BY vU vT vW vV vS Uy Ab BL LJ gY EZ xJ BG qx Aa vR
local macro_rules | `(tactic| ac_rfl)=>`(tactic| first
 |exact rfl
 |(focus show PE _ _ _;first | exact pv _ | exact MG | exact ME | exact Rf | exact CU | ((first | refine Ra ?_ ?_ ?_ | refine HN _ ?_ ?_ ?_ | refine Rb ?_ ?_ ?_ ?_ | refine MB ?_ | refine MF ?_ | refine HP ?_ ?_ ?_ ?_ | refine HU ?_ ?_ ?_ ?_ | refine Q9 ?_ ?_ | refine CS ?_ ?_ ?_ ?_ | refine Au ?_ ?_ ?_ ?_ ?_ | refine CY ?_ ?_ ?_ ?_ | refine CW ?_ ?_ ?_ ?_ ?_ | refine CT ?_ ?_ ?_ ?_ | refine MC ?_ | refine CN ?_ ?_ ?_ ?_ | refine HJ ?_ | refine MI ?_ | refine tN ?_ ?_ ?_ ?_ ?_) <;> ac_rfl) | (((first | refine CO (k:=?_) ?_ ?_ ?_ ?_ ?_ | refine CZ (k:=?_) ?_ ?_ ?_ ?_ | refine Re (id:=?_) ?_ ?_ ?_ ?_ ?_ ?_ | refine MK (id:=?_) ?_ ?_ ?_ ?_ ?_ | refine At (k:=?_) ?_ ?_ ?_ ?_ | refine HQ (cs:=?_) ?_ ?_ ?_ ?_ (λ_ _ _ _=>?_) (λ_ _ _ _=>?_) | refine CQ (k:=?_) ?_ ?_ ?_ ?_ | refine Aw (id:=?_) ?_ ?_ ?_ ?_ ?_ ?_);rotate_left) <;> ac_rfl) | ((refine C0 (id:=?_) ?_ ?_ ?_ ?_ ?_;rotate_left) <;> ac_rfl) | ((refine HM (u:=?_) ?_ ?_ ?_;rotate_left) <;> ac_rfl) | ((refine Av (T:=?_) ?_ ?_ ?_ ?_ ?_;rotate_left) <;> ac_rfl) | exact CV)
 |exact MQ
 |(refine HZ ?_ ?_<;>ac_rfl)
 |(focus show PSs _ _ _;first | exact Hv | ((first | refine CF ?_ ?_ | refine Hu ?_) <;> ac_rfl))
 |(focus show PS _ _ _;first | exact CH | ((first | refine Mj ?_ | refine Hy ?_ | refine Mh ?_ ?_ ?_ ?_ | refine Q6 ?_ ?_ ?_ | refine Ml PassesOwn.never ?_ ?_ ?_ ?_ | refine Mm ?_ ?_ ?_ | refine Hz ?_ ?_ ?_ ?_ ?_ | refine CG PassesOwn.never ?_ ?_ | refine Mn ?_ ?_) <;> ac_rfl) | ((refine wn (cs:=?_) ?_ ?_ ?_ ?_ ?_ ?_ ?_ (λ_ _ _ _=>?_) (λ_ _ _ _=>?_);rotate_left) <;> ac_rfl) | exact Hw)
 |exact Hr
 |(refine Hq ?_<;>ac_rfl)
 |exact HI
 |(refine CM ?_ ?_<;>ac_rfl)
 |exact Mv
 |(refine HG ?_ ?_<;>ac_rfl)
 |(focus show PT _ _ _;first | ((first | refine Ht ?_ ?_ ?_ ?_ | refine Me ?_ | refine Mf ?_) <;> ac_rfl) | (refine PW.pt ?_ <;> ac_rfl))
 |(focus show PI _ _ _ _;first | ((first | refine CL _ ?_ ?_ | refine Ar ?_ ?_ ?_ | refine Mx ?_ | refine Aq ?_ ?_ ?_) <;> ac_rfl))
 |(focus show PG _ _ _;first | ((first | refine qI ?_ ?_ ?_ | refine Mz ?_ ?_ ?_ ?_ | refine My ?_ ?_) <;> ac_rfl))
 |(focus show PW _ _ _;first | ((first | refine Q4 ?_ ?_ | refine Ma ?_ | refine Mb ?_ ?_ | refine Hn ?_) <;> ac_rfl))
 |((first | refine MO ?_ ?_ ?_ | refine Ax ?_ ?_ ?_) <;> ac_rfl)
 |(refine HA ?_<;>ac_rfl)
 |exact HB
 |(focus show jv _ _ _;first | exact Ni | exact M7 | exact Nb | exact Nc | exact Ii | exact M8 | exact Nh | exact M9 | exact Rz | exact RA | exact RB | exact RC | exact Ry | exact Nd | exact Ie | (refine Ih _ ?_ ?_ <;> ac_rfl) | (refine wv _ ?_ ?_ <;> ac_rfl) | (refine Ij _ ?_ ?_ <;> ac_rfl) | (refine Ig _ ?_ ?_ <;> ac_rfl))
 |(focus show dD _ _ _;first | (refine o6 _ ?_ <;> ac_rfl) | (refine Bg ?_ <;> ac_rfl) | (refine Bh ?_ <;> ac_rfl) | (refine Bj _ ?_ ?_ <;> ac_rfl) | exact Bi | (refine oA _ ?_ <;> ac_rfl) | (refine o5 _ ?_ <;> ac_rfl) | (refine xt ?_ <;> ac_rfl) | (refine xr _ ?_ ?_ <;> ac_rfl))
 |(focus show fE _ _ _ _;first | (refine xx _ ?_ ?_ <;> ac_rfl) | (refine xw _ ?_ ?_ <;> ac_rfl) | (refine vt _ ?_ ?_ ?_ <;> ac_rfl))
 |assumption
 |exact Room.mm (by assumption)
 |exact Or.inl rfl
 |exact Or.inr rfl
 |exact λ_=>rfl
 |exact λ_ _=>rfl
 |exact SL (by assumption)
 |exact U9 (by assumption)
 |exact Room.units (by assumption)
 |exact Room.u100 (by assumption)
 |exact U8 (by assumption)
 |exact SM (by assumption)
 |exact LG
 |exact BU
 |(refine ER _ ?_<;>ac_rfl)
 |(refine IX _ ?_<;>ac_rfl)
 |(refine BQ _ ?_<;>ac_rfl)
 |exact Gd.Pz
 |exact Gd.Px
 |exact Gd.Py
 |exact Gd.Jp
 |exact Gd.Ga
 |exact Gd.Pw
 |exact Gd.PB
 |exact PySem.F.plainAttrs_list
 |exact Wm
 |exact PySem.F.slot_list_append
 |exact PySem.F.type_list_append
 |exact pG
 |exact PySem.F.slot_list_clear
 |exact PySem.F.type_list_clear
 |exact Dz
 |exact PySem.F.slot_dict_update
 |exact PySem.F.type_dict_update
 |exact AD
 |exact PySem.F.slot_list_pop
 |exact PySem.F.type_list_pop
 |exact Dy
 |exact X7
 |exact PySem.F.type_list_remove
 |(refine AE ?_<;>ac_rfl)
 |exact⟨_,rfl⟩
 |exact⟨rfl,rfl,rfl,rfl⟩
 |with_unfolding_all rfl)
seal SJ MJ PJ AJ A1J Mi.TJ Vl KR KC KO KB KL KI KG sO ID Qg z9 T7 S1 S2 ah gN bA au aV bj dt eQ cc xG lg Hi yB iS Bn qu lB m8 il mc mm IC Ks aw vr ay un bn pc pm pk gU ke ai ax dk Bp Ic fc i9 cZ vX vY jA j6 Qb yY mR dY dE gO k8 jK k7 bK cM By sP GT
local macro_rules | `(tactic| infer_instance)=>`(tactic| first
 |(focus (show F0;assumption))
 |(focus show(_:Type))
 |(focus show PJ _ _ _ _ _ _;first | exact fF _ rfl | exact pI | exact fR _ rfl | exact fC _ rfl | exact rc (fF _ rfl) | exact rc (fR _ rfl) | exact fO _ rfl | exact rc (fO _ rfl) | exact ON | ((first | refine' Je ?_ ?_ | refine' Rj ?_ | refine' Rn ?_ | refine' Rr ?_ (kx ?_) | refine' Rq ?_ (kx ?_) | refine' rSc (kx ?_) | refine' Ro (kx ?_) | refine' MV (kx ?_) (kx ?_) | refine' MX (kx ?_) (kx ?_) | refine' cS ?_ | refine' U7 (kx ?_) | refine' U6 (kx ?_) (kx ?_) | refine' Q5 ?_ ?_ | refine' Mg ?_ ?_ | refine' Rv (kx ?_) ?_ | refine' M5 (kx ?_) ?_ | refine' M6 ?_ (kx ?_) | refine' Ib ?_ (kx ?_) | refine' Ia ?_ (kx ?_) ?_ | refine' Rw ?_ ?_ | refine' H0 ?_ | refine' Rx (kx ?_) | refine' C2 (kx ?_) | refine' MZ ?_ | refine' H9 ?_ | refine' MR ?_ | refine' M4 ?_ (kx ?_) | refine' Rk ?_ (kx ?_) | refine' MU (kx ?_) (kx ?_) | refine' MW (kx ?_) (kx ?_) | refine' MT ?_ (kx ?_) | refine' Rm (kx ?_)) <;> infer_instance) | (refine' MS ?_ (kx ?_) (kx ?_) <;> infer_instance) | (refine' UO (fx (MS ?_ (kx ?_) (kx ?_))) <;> infer_instance) | (refine' MN (by assumption) ?_ ?_ <;> infer_instance) | (refine' Mt (by assumption) ?_ ?_ ?_ <;> infer_instance) | (refine' UP (kx ?_) <;> infer_instance) | (refine' Rs ?_ ?_ ?_ <;> infer_instance) | exact pN | exact pNG | exact pB | (refine' M3 ?_ ?_ rfl rfl <;> infer_instance) | (refine' HW (by assumption) ?_ ?_ <;> infer_instance) | (refine' HX (by assumption) ?_ ?_ <;> infer_instance) | (refine' HC (by assumption) ?_ ?_ ?_ <;> infer_instance) | (refine' HF (by assumption) ?_ ?_ ?_ <;> infer_instance) | (refine' H8 (kx ?_) (kx ?_) ?_ <;> infer_instance) | (refine' HE (by assumption) ?_ ?_ ?_ <;> infer_instance) | (refine' Mu (by assumption) ?_ ?_ <;> infer_instance) | (refine' IZ ?_ <;> infer_instance) | (refine' yV ?_ <;> infer_instance) | (refine' OG ?_ <;> infer_instance) | exact Mc | exact Rt | exact Ru | (refine' C6 ?_ (by decide) ?_ ?_ <;> infer_instance) | (refine' C4 ?_ (by decide) ?_ ?_ <;> infer_instance) | (refine' C5 ?_ (by decide) ?_ ?_ <;> infer_instance) | (refine' C3 ?_ (by decide) ?_ ?_ <;> infer_instance) | (refine' C8 ?_ ?_ rfl (by decide) ?_ ?_ <;> infer_instance) | (refine' Ri ?_ (kx ?_) <;> infer_instance) | (refine' Rl ?_ <;> infer_instance) | (refine' oF ?_ <;> infer_instance) | (refine' oG ?_ <;> infer_instance) | (refine' gF ?_ <;> infer_instance) | (refine' ggF ?_ <;> infer_instance) | (refine' fu ?_ <;> infer_instance) | (refine' rc ?_ <;> infer_instance))
 |exact TK
 |(refine' PN ?_ ?_<;>infer_instance)
 |(focus show SJ _ _ _ _ _ _ _;first | exact QG | (refine' QN (c:=7) (by decide) ?_ rfl rfl ?_ <;> infer_instance) | (refine' QM (c:=7) (by decide) ?_ rfl rfl ?_ <;> infer_instance) | (refine' QL ?_ ?_ rfl <;> infer_instance) | ((first | refine' QD ?_ ?_ | refine' UE ?_ ?_ ?_ | refine' QE ?_ | refine' L4 ?_ | refine' QR ?_ ?_ ?_ ?_ | refine' L6 ?_ (kx ?_) ?_ | refine' LZ ?_ (kx ?_) ?_) <;> infer_instance) | (refine' LW ?_ rfl rfl <;> infer_instance) | (refine' LV ?_ rfl rfl <;> infer_instance) | exact Hg | (refine' L0 ?_ ?_ rfl rfl ?_ <;> infer_instance) | (refine' L1 ?_ ?_ rfl rfl ?_ <;> infer_instance) | (refine' Hf _ ?_ ?_ <;> infer_instance) | exact LX λ_ _ _=>QX)
 |(focus show MJ _ _ _ _ _ _;first | ((first | refine' upP ?_ | refine' Er ?_ ?_ | refine' Oi ?_ ?_ | refine' Oh ?_ ?_ ?_ | refine' D8 ?_ ?_ | refine' Oq ?_ (kx ?_) | refine' IR ?_ (kx ?_) | refine' Ed ?_ (kx ?_) | refine' IJ ?_ (kx ?_) | refine' Ea ?_ (kx ?_)) <;> infer_instance) | (refine' Od (by assumption) ?_ ?_ ?_ (by decide) (by decide) <;> infer_instance) | exact U0 rfl | (refine' AH rfl ?_ <;> infer_instance) | (refine' Oe (by assumption) ?_ ?_ (by decide) (by decide) <;> infer_instance) | (refine' IA (by assumption) ?_ ?_ ?_ ?_ <;> infer_instance) | (refine' Iy (by assumption) ?_ ?_ ?_ ?_ ?_ <;> infer_instance) | (refine' moF ?_ <;> infer_instance))
 |(focus show TJ _ _ _ _ _ _;first | (refine' tg2 ?_ ?_ <;> infer_instance) | exact tgF rfl rfl | exact tgR rfl rfl | exact Uw rfl rfl)
 |(focus show A1J _ _ _ _ _ _;first | (refine' aK ?_ <;> infer_instance) | (refine' aF ?_ <;> infer_instance) | (refine' aU ?_ <;> infer_instance) | exact aO)
 |(focus show S2 _ _ _;first | exact QJ | exact L3 | exact QV | exact QB | exact UD | exact UF | exact UC | exact UA | exact UH | exact QQ | exact QI | exact L5 | exact UG | exact LY | exact QC)
 |((first | refine' US ?_ ?_ ?_ ?_ | refine' UR ?_ ?_) <;> infer_instance)
 |(refine' UN ?_ ?_ rfl rfl<;>infer_instance)
 |exact UL rfl
 |(refine' UM ?_<;>infer_instance)
 |exact UQ rfl
 |exact OD
 |exact rfl
 |assumption
 |exact trivial
 |exact⟨rfl,trivial⟩
 |exact⟨trivial,trivial⟩
 |exact⟨rfl,trivial,trivial⟩
 |exact⟨rfl,trivial,trivial,trivial⟩
 |exact⟨rfl,trivial,trivial,trivial,trivial⟩
 |exact⟨trivial,trivial,trivial⟩
 |exact⟨rfl,rfl,trivial,trivial,trivial⟩
 |exact Or.inl rfl
 |exact Or.inr rfl
 |exact QH
 |decide)
local macro_rules | `(tactic| and_intros)=>`(tactic| (have h:=tx0 (by assumption);cases h;refine ⟨?_,?_,show PSs _ (_::_) _ from ?_⟩;rotate_left;infer_instance;ac_rfl))
theorem Kk(T:d8 K g):CalC P w K g b 240 "Guild" 1 (iU K Sx AI):=
 T.calC 0 0 0 0 rfl (iW ["self","size"] [] rfl)
abbrev QT:Stmt:=HD.iC (HD.top PySem.Challenge.pw_heraldways_k12_posts_apart 12) 13
theorem Fu:CompSc (aM QT) (Gd.iJ (Gd.ph (Gd.nth (bU QT) 0))) "b" ["pairs","a"]:=by ac_rfl
theorem RP(T:d8 K g):CalM P w K g b 240 "houses_paired" 1 (dq (ce K) Sw (KO (ce K) (.ct .fz)) Ot):=by
 have:=Fu
 exact T.calM 1 1 rfl (tO ["self","pairs","a"] [] rfl)
abbrev UB:Stmt:=HD.iC (HD.top PySem.Challenge.pw_heraldways_k12_posts_apart 12) 15
theorem Ft:CompSc (aM UB) { kind:=.function,names:=[ (".0",.local),("b",.local),("a",.free),("self",.free)],isGenerator:=false,isCoroutine:=false,more:=[]:PySem.Scope } "b" ["a","self"]:=by ac_rfl
theorem RM(T:d8 K g):CalM P w K g b 240 "shuns_one_of" 1 (iU K Si On):=by
 have:=Ft
 exact T.calM 2 2 rfl (iW ["self","a","houses"] [] rfl)
theorem RL(T:d8 K g):CalM P w K g b 240 "size" 1 (iU K Sg mD):=
 T.calM 3 3 rfl (iW ["self"] [] rfl)
theorem RG(T:d8 K g):CalM P w K g b 395 "forget" 1 (iU K R9 II):=
 T.calM 4 4 rfl (iW ["self","writer","receiver"] [] rfl)
theorem Dj(T:d8 K g):CalM P w K g b 395 "write_road" 1 (iU K N9 t8):=
 T.calM 5 5 rfl (iW ["self","writer","receiver","road"] [.F] rfl)
theorem Dh(T:d8 K g):CalN P w K g b "_law_cell_at" 1 (iU K N5 iX):=
 T.calN 6 2 rfl (iW ["script","k"] [] rfl)
theorem Df(T:d8 K g):CalN P w K g b "_law_fond_by" 1 (dq (ce K) NY (KO (ce K) (.ct .fz)) yI):=
 T.calN 7 3 rfl (tO ["cell","size","fond","k"] [.O (.ct .fz),.F] rfl)
abbrev JS:Stmt:=HD.top PySem.Challenge.pw_heraldways_k12_posts_apart 22
theorem Bd:CompSc (aM JS) (Gd.iJ (Gd.ph (Gd.nth (bU JS) 0))) "far" ["house"]:=by ac_rfl
theorem Nr(T:d8 K g):CalN P w K g b "_law_road_by" 1 (dq (ce K) NU (KO (ce K) (.ct .fz)) Ek):=by
 have:=Bd
 exact T.calN 8 4 rfl (tO ["cell","house","size","rest","road","many"] [.O (.ct .fz),.O (.ct .fz),.F] rfl)
theorem Dc(T:d8 K g):CalN P w K g b "_law_shy_by" 1 (dq (ce K) NS (KO (ce K) (.ct .fz)) yG):=
 T.calN 9 5 rfl (tO ["cell","size","shy","k","a","b"] [.O (.ct .fz),.F,.F,.F] rfl)
abbrev JR:Stmt:=HD.top PySem.Challenge.pw_heraldways_k12_posts_apart 28
theorem Bb:CompSc (aM JR) (Gd.iJ (Gd.ph (Gd.nth (bU JR) 0))) "b" ["ways","a"]:=by ac_rfl
theorem Np(T:d8 K g):CalN P w K g b "_law_ties" 1 (dq (ce K) NR (KO (ce K) (.ct .fz)) yF):=by
 have:=Bb
 exact T.calN 10 6 rfl (tO ["ways","size","a"] [] rfl)
theorem Nn(T:d8 K g):CalN P w K g b "_law_ways_by" 1 (dq (ce K) NP (KO (ce K) (.ct .fz)) Ei):=
 T.calN 11 7 rfl (tO ["cell","size","seed","ways","k","a","b"] [.F,.O (.ct .fz),.F,.F,.F] rfl)
theorem Nz(T:d8 K g):CalN P w K g b "best_road" 1 (iU K N7 Ep):=
 T.calN 12 8 rfl (iW ["house","standings","best"] [.F] rfl)
theorem qL(T:d8 K g):CalN P w K g b "copied" 1 (dq (ce K) N6 (KG (ce K)) pJ):=
 T.calN 13 9 rfl (tO ["road"] [] rfl)
theorem Nl(T:d8 K g):CalN P w K g b "require_within" 1 (iU K NN Eg):=
 T.calN 14 10 rfl (iW ["houses","count"] [] rfl)
theorem la(T:d8 K g):CalM P w K g b 240 "require_houses" 2 (iU K Sm oZ):=by
 have:=Nl P w b T
 exact T.calM 15 6 rfl (iW ["self","houses"] [] rfl)
abbrev QA:Stmt:=HD.iC (HD.top PySem.Challenge.pw_heraldways_k12_posts_apart 19) 2
theorem Fq:CompSc (aM QA) (Gd.iJ (Gd.ph (Gd.nth (bU QA) 0))) "road" []:=by ac_rfl
theorem J7(T:d8 K g):CalM P w K g b 395 "table" 2 (dq (ce K) RZ (sO (ce K)) IF):=by
 have:=qL P w b T
 have:=Fq
 exact T.calM 16 7 rfl (tO ["self"] [] rfl)
abbrev JT:Stmt:=HD.iC (HD.top PySem.Challenge.pw_heraldways_k12_posts_apart 19) 4
theorem Be:CompSc (aM JT) (Gd.iJ (Gd.ph (Gd.nth (bU JT) 0))) "pair" ["self"]:=by ac_rfl
theorem qM(T:d8 K g):CalM P w K g b 395 "waiting" 2 (dq (ce K) Oa (sO (ce K)) pK):=by
 have:=qL P w b T
 have:=Be
 exact T.calM 17 8 rfl (tO ["self"] [] rfl)
theorem Dg(T:d8 K g):CalN P w K g b "_law_dear_by" 2 (dq (ce K) N0 (KO (ce K) (.ct .fz)) yK):=by
 have:=Nr P w b T
 exact T.calN 18 11 rfl (tO ["cell","size","dear","k","road"] [.O (.ct .fz),.F,.F] rfl)
theorem Nm(T:d8 K g):CalN P w K g b "may_take" 2 (iU K NO Eh):=by
 have:=RM P w b T
 exact T.calN 19 12 rfl (iW ["guild","house","road"] [] rfl)
theorem Ki(T:d8 K g):CalM P w K g b 240 "like" 3 (iU K Ss IQ):=by
 have:=la P w b T
 exact T.calM 20 9 rfl (iW ["self","a","b","rank"] [] rfl)
theorem RO(T:d8 K g):CalM P w K g b 240 "liking" 3 (iU K Sr Op):=by
 have:=la P w b T
 exact T.calM 21 10 rfl (iW ["self","a","b"] [] rfl)
theorem Da(T:d8 K g):CalM P w K g b 240 "neighbours" 3 (dq (ce K) Sq (KO (ce K) (.ct .fz)) Ec):=by
 have:=la P w b T
 have:=RP P w b T
 exact T.calM 22 11 rfl (tO ["self","a"] [] rfl)
theorem Kh(T:d8 K g):CalM P w K g b 240 "require_long_road" 3 (iU K Sl IP):=by
 have:=la P w b T
 exact T.calM 23 12 rfl (iW ["self","road"] [] rfl)
theorem C9(T:d8 K g):CalM P w K g b 240 "require_two_houses" 3 (iU K Sk Eb):=by
 have:=la P w b T
 exact T.calM 24 13 rfl (iW ["self","a","b"] [] rfl)
theorem RK(T:d8 K g):CalM P w K g b 240 "twin" 3 (dq (ce K) Sf (KO (ce K) (.ob bL)) wG):=by
 have:=Kk P w b T
 exact T.calM 25 14 rfl (tO ["self","other"] [.O (.ob bL)] rfl)
theorem J8(T:d8 K g):CalM P w K g b 395 "road" 3 (dq (ce K) R5 (KG (ce K)) IG):=by
 have:=la P w b T
 have:=qL P w b T
 exact T.calM 26 15 rfl (tO ["self","a"] [] rfl)
theorem Dk(T:d8 K g):CalM P w K g b 395 "told" 3 (dq (ce K) Oc (KG (ce K)) yL):=by
 have:=la P w b T
 have:=qL P w b T
 exact T.calM 27 16 rfl (tO ["self","a","b"] [] rfl)
theorem Db(T:d8 K g):CalM P w K g b 240 "lay_way" 4 (iU K Sv Ee):=by
 have:=C9 P w b T
 exact T.calM 28 17 rfl (iW ["self","a","b"] [] rfl)
theorem Kj(T:d8 K g):CalM P w K g b 240 "lift_way" 4 (iU K Su IS):=by
 have:=C9 P w b T
 exact T.calM 29 18 rfl (iW ["self","a","b"] [] rfl)
theorem RN(T:d8 K g):CalM P w K g b 240 "rank_of" 4 (iU K Sn Oo):=by
 have:=Kh P w b T
 have:=RO P w b T
 exact T.calM 30 19 rfl (iW ["self","road","wish_rank"] [.F] rfl)
theorem Kg(T:d8 K g):CalM P w K g b 240 "shun" 4 (iU K Sj IN):=by
 have:=C9 P w b T
 exact T.calM 31 20 rfl (iW ["self","a","b"] [] rfl)
theorem Kf(T:d8 K g):CalM P w K g b 240 "wish" 4 (iU K Se IK):=by
 have:=Kh P w b T
 exact T.calM 32 21 rfl (iW ["self","road","rank"] [] rfl)
theorem J9(T:d8 K g):CalM P w K g b 395 "neighbours_now" 4 (dq (ce K) R7 (KO (ce K) (.ct .fz)) IH):=by
 have:=Da P w b T
 exact T.calM 33 22 rfl (tO ["self","a"] [] rfl)
theorem Di(T:d8 K g):CalM P w K g b 395 "write_to_all" 4 (iU K N8 gM):=by
 have:=Da P w b T
 have:=Dj P w b T
 exact T.calM 34 23 rfl (iW ["self","writer","receiver"] [.F] rfl)
abbrev QF:Stmt:=HD.iC (HD.top PySem.Challenge.pw_heraldways_k12_posts_apart 19) 0
theorem Fs:CompSc (aM QF) (Gd.iJ (Gd.ph (Gd.nth (bU QF) 6))) "house" []:=by ac_rfl
theorem Ke(T:d8 K g):CalC P w K g b 395 "Post" 5 (iU K Sd oY):=by
 have:=RK P w b T
 have:=RL P w b T
 have:=Di P w b T
 have:=Fs
 exact T.calC 35 24 1 1 rfl (iW ["self","guild"] [] rfl)
theorem Kb(T:d8 K g):CalM P w K g b 395 "choose_anew" 5 (iU K Sb D9):=by
 have:=Nz P w b T
 have:=Di P w b T
 exact T.calM 36 25 rfl (iW ["self","house","road"] [.F] rfl)
theorem RE(T:d8 K g):CalM P w K g b 395 "rise" 5 (iU K R6 Of):=by
 have:=Db P w b T
 have:=Dj P w b T
 exact T.calM 37 26 rfl (iW ["self","a","b"] [] rfl)
theorem De(T:d8 K g):CalN P w K g b "_law_guild_by" 5 (dq (ce K) NX (KO (ce K) (.ob bL)) yH):=by
 have:=Kk P w b T
 have:=Db P w b T
 have:=Ki P w b T
 have:=Kf P w b T
 have:=Kg P w b T
 exact T.calN 38 13 rfl (tO ["size","ways","fond","dear","shy","guild","a","b","pair","key"] [.O (.ob bL),.R,.R,.R,.R] rfl)
theorem Nv(T:d8 K g):CalN P w K g b "_law_meddled" 5 (iU K NW Em):=by
 have:=J7 P w b T
 have:=qM P w b T
 have:=J9 P w b T
 have:=J8 P w b T
 have:=Dk P w b T
 exact T.calN 39 14 rfl (iW ["post","size","table","road","line","note","a"] [.F,.F,.F,.F,.F] rfl)
abbrev QS:Stmt:=HD.top PySem.Challenge.pw_heraldways_k12_posts_apart 32
theorem Bc:CompSc (aM QS) { kind:=.function,names:=[ (".0",.local),("b",.local),("a",.free),("post",.free)],isGenerator:=false,isCoroutine:=false,more:=[]:PySem.Scope } "b" ["a","post"]:=by ac_rfl
theorem Nq(T:d8 K g):CalN P w K g b "_law_seen" 5 (iU K NT pH):=by
 have:=J8 P w b T
 have:=J9 P w b T
 have:=Dk P w b T
 have:=J7 P w b T
 have:=qM P w b T
 have:=Bc
 exact T.calN 40 15 rfl (iW ["post","size","heard","a"] [.O (.ct .fz),.F] rfl)
theorem No(T:d8 K g):CalN P w K g b "_law_turned" 5 (iU K NQ Ej):=by
 have:=Kj P w b T
 have:=Db P w b T
 have:=Ki P w b T
 have:=Kf P w b T
 have:=Kg P w b T
 exact T.calN 41 16 rfl (iW ["guild","ways","size","cell","a","b","pair"] [.F,.F,.F] rfl)
theorem Nk(T:d8 K g):CalN P w K g b "standing" 5 (iU K NM Ef):=by
 have:=RN P w b T
 exact T.calN 42 17 rfl (iW ["guild","road"] [] rfl)
theorem RH(T:d8 K g):CalM P w K g b 395 "fall" 6 (iU K Sa Oj):=by
 have:=Kj P w b T
 have:=RG P w b T
 have:=Kb P w b T
 exact T.calM 43 27 rfl (iW ["self","a","b"] [] rfl)
theorem RF(T:d8 K g):CalM P w K g b 395 "hear" 6 (iU K R8 Og):=by
 have:=Nm P w b T
 have:=Nk P w b T
 exact T.calM 44 28 rfl (iW ["self","writer","receiver","road"] [] rfl)
theorem RJ(T:d8 K g):CalM P w K g b 395 "carry" 7 (iU K Sc Ol):=by
 have:=la P w b T
 have:=RF P w b T
 have:=Kb P w b T
 exact T.calM 45 29 rfl (iW ["self","a","b"] [] rfl)
theorem Nu(T:d8 K g):CalN P w K g b "_law_post_by" 7 (dq (ce K) NV (KO (ce K) (.ob b6)) El):=by
 have:=Df P w b T
 have:=Dh P w b T
 have:=Dg P w b T
 have:=Dc P w b T
 have:=Ke P w b T
 have:=De P w b T
 exact T.calN 46 18 rfl (tO ["script","size","ways","fond","dear","shy"] [.F,.F,.F] rfl)
theorem Nw(T:d8 K g):CalN P w K g b "_law_deed_done" 8 (iU K NZ yJ):=by
 have:=qM P w b T
 have:=RH P w b T
 have:=RE P w b T
 have:=RJ P w b T
 exact T.calN 47 19 rfl (iW ["post","ways","size","cell","a","b","line","pair","pick"] [.F,.F,.F,.F,.F] rfl)
theorem Ny(T:d8 K g){d:FuncData}(F:Fun K "law" "law" (HD.top PySem.Challenge.pw_heraldways_k12_posts_apart 34) 491 d):FnOk P w K g b sS 9 491 d ["script"] (iU K DA Eo):=by
 have:=Dh P w b T
 have:=Nn P w b T
 have:=Df P w b T
 have:=Dg P w b T
 have:=Dc P w b T
 have:=De P w b T
 have:=Ke P w b T
 have:=Nu P w b T
 have:=Nq P w b T
 have:=No P w b T
 have:=Nw P w b T
 have:=Nv P w b T
 have:=qM P w b T
 have:=Np P w b T
 have:=Da P w b T
 exact SH F (iW (ms:=DA) ["script","size","ways","fond","dear","shy","guild","post","other","third","still","mine","left","right","cell","a"] [.F,.O (.ct .fz),.F,.F,.F,.O (.ob bL),.O (.ob b6),.O (.ob b6),.O (.ob b6),.F,.O (.ct .fz),.O (.ct .fz),.O (.ct .fz),.F,.F] rfl)
end
end K12
namespace K12
open PySem L2 Mi Cl
noncomputable section
structure GΩ where
 hω:Int
 S:(DI Bool)
 lω:(DI Int)
 sω:(DI Bool)
 wω:(DI Int)
def ag:GΩ->D:=λg=>.obj 0 ["house_count","ways","likings","shuns","wish_ranks"] [D.int g.hω,(aS D.bl) g.S,(aS D.int) g.lω,(aS D.bl) g.sω,(aS D.int) g.wω]
structure PostT where
 guild:GΩ
 roads:(List (Option (List Int)))
 told_last:(DI (Option (List Int)))
 written_last:(DI (Option (List Int)))
 letters:(DI (Option (List Int)))
 standings:(List (DJ (Int×Int×(List Int))))
def aG:PostT->D:=λg=>.obj 1 ["guild","roads","told_last","written_last","letters","standings"] [ag g.guild,(eL (eO (eL D.int))) g.roads,(aS (eO (eL D.int))) g.told_last,(aS (eO (eL D.int))) g.written_last,(aS (eO (eL D.int))) g.letters,(eL (kG (lw D.int D.int (eL D.int)))) g.standings]
theorem bC(g:GΩ):SimR D.int (bb 0 "house_count" (ag g)) (.ok g.hω):=rfl
theorem dN(g:GΩ):SimR (aS D.bl) (bb 0 "ways" (ag g)) (.ok g.S):=rfl
theorem fL(g:GΩ):SimR (aS D.int) (bb 0 "likings" (ag g)) (.ok g.lω):=rfl
theorem hZ(g:GΩ):SimR (aS D.bl) (bb 0 "shuns" (ag g)) (.ok g.sω):=rfl
theorem lb(g:GΩ):SimR (aS D.int) (bb 0 "wish_ranks" (ag g)) (.ok g.wω):=rfl
theorem bG(g:PostT):SimR ag (bb 1 "guild" (aG g)) (.ok g.guild):=rfl
theorem dM(g:PostT):SimR (eL (eO (eL D.int))) (bb 1 "roads" (aG g)) (.ok g.roads):=rfl
theorem tP(g:PostT):SimR (aS (eO (eL D.int))) (bb 1 "told_last" (aG g)) (.ok g.told_last):=rfl
theorem hE(g:PostT):SimR (aS (eO (eL D.int))) (bb 1 "written_last" (aG g)) (.ok g.written_last):=rfl
theorem d5(g:PostT):SimR (aS (eO (eL D.int))) (bb 1 "letters" (aG g)) (.ok g.letters):=rfl
def fN(size:Int):Res GΩ:=if 1<=size/\size<=60 then .ok ⟨size,[],[],[],[]⟩ else .bad
theorem iZ(size:Int):SimR ag (fP 0 AI [.int size]) (fN size):=by
 unfold fN;by_cases h:1<=size/\size<=60
 · rw[Vo h];have b:¬ size<1:=by omega
   have a:¬ 60<size:=by omega
   show fP 0 AI [.int size]=_;unfold fP AI Mi.run;rw[D6];simp[ah,gN,aw,Ic,dk,bn,ay,rg,Qs,b,a,bj,cc,k9,bX,jA,aN];rfl
 ·rw[on h];trivial
structure S_b9 where
 vuq:GΩ
 vkq:(DI Bool)
 v0q:Int
def Cv:S_b9->X0:=λs=>[some (ag s.vuq),some ((aS D.bl) s.vkq),some (D.int s.v0q)]
abbrev TU:=S_b9->FlC S_b9 (List Int)
def zL:TU:=bp (aH (d9 (aR (fb 0) (aR (λg=>.ok g.hω) (pC (·.vuq)))) (aD (uu false) (aR bW (ff (pC λp=>p.2.v0q) (pC λp=>p.1))) (pC λp=>p.2.vkq)) (pC λp=>p.1)))
def F8:TU:=zL
def JI(b:GΩ)(a:DI Bool)(c:Int):OutC S_b9 (List Int):=a8 none (F8 ⟨b,a,c⟩)
theorem To:Cl.TJ Cv (eL D.int) K5 F8:=aE (af (gu (dO (aC bC xp)) (aB (ae (tS false) (bN aW (aJ xp xp)) xp)) xp))
theorem TC(b:GΩ)(a:DI Bool)(c:Int):SimO Cv (eL D.int) (Ot [ag b,(aS D.bl) a,D.int c]) (JI b a c):=cw To rfl
structure S_m9 where
 vuq:GΩ
 v0q:Int
 vaq:(List Int)
def Ch:S_m9->X0:=λs=>[some (ag s.vuq),some (D.int s.v0q),some ((eL D.int) s.vaq)]
abbrev TQ:=S_m9->FlC S_m9 Bool
def zk:TQ:=bp (aH (aR TF (d9 (pC (·.vaq)) (λ_=>.ok true) (aD (uu false) (aR bW (ff (pC λp=>p.2.v0q) (pC λp=>p.1))) (aR (λg=>.ok g.sω) (pC λp=>p.2.vuq))))))
def FW:TQ:=zk
def JF(b:GΩ)(c:Int)(a:List Int):OutC S_m9 Bool:=a8 none (FW ⟨b,c,a⟩)
theorem Tc:Cl.TJ Ch D.bl KQ FW:=aE (af (aC RV (gu (ft xp) rB (ae (tS false) (bN aW (aJ xp (bT (λ_=>rfl) xp))) (aC hZ xp)))))
theorem Tw(b:GΩ)(c:Int)(a:List Int):SimO Ch D.bl (On [ag b,D.int c,(eL D.int) a]) (JF b c a):=eM Tc rfl
structure S_n9 where
 vuq:GΩ
def wd:S_n9->X0:=λs=>[some (ag s.vuq)]
abbrev TN:=S_n9->FlC S_n9 Int
def Jn:TN:=bp (aH (aR (λg=>.ok g.hω) (pC (·.vuq))))
def Lv:TN:=Jn
def Vn(a:GΩ):OutC S_n9 Int:=a8 none (Lv ⟨a⟩)
theorem Tb:Cl.TJ wd D.int KP Lv:=aE (af (bT (λ_=>rfl) (aC bC xp)))
theorem Tv(a:GΩ):SimO wd D.int (mD [ag a]) (Vn a):=eM Tb rfl
structure S_u9 where
 vuq:PostT
 vDq:Int
 voq:Int
def Cb:S_u9->X0:=λs=>[some (aG s.vuq),some (D.int s.vDq),some (D.int s.voq)]
abbrev Gf:=S_u9->FlC S_u9 Unit
def rT:Gf:=ar (i8 (λs=>some s.vuq.letters) (λs y=>{s with vuq:={s.vuq with letters:=y}}) (aR bW (ff (pC (·.vDq)) (pC (·.voq)))))
def rR:Gf:=ar (i8 (λs=>some s.vuq.told_last) (λs y=>{s with vuq:={s.vuq with told_last:=y}}) (aR bW (ff (pC (·.vDq)) (pC (·.voq)))))
def rQ:Gf:=ar (i8 (λs=>some s.vuq.written_last) (λs y=>{s with vuq:={s.vuq with written_last:=y}}) (aR bW (ff (pC (·.vDq)) (pC (·.voq)))))
def rP:Gf:=ar (pV (gI (λs=>some s.vuq.standings) (λs=>some s.voq)) (pI (λs=>some s.vuq.standings) (λs y=>{s with vuq:={s.vuq with standings:=y}}) (λs=>some s.voq)) (pC (·.vDq)))
def FP:Gf:=ak rT
 (ak rR
 (ak rQ
 rP))
def Gu(c:PostT)(b:Int)(a:Int):OutC S_u9 Unit:=a8 (some ()) (FP ⟨c,b,a⟩)
theorem S5:Cl.TJ Cb eN KD FP:=aa (aj (mz (λ_=>rfl) (λ_ _=>rfl) (bN aW (aJ xp xp))))
 (aa (aj (mz (λ_=>rfl) (λ_ _=>rfl) (bN aW (aJ xp xp))))
 (aa (aj (mz (λ_=>rfl) (λ_ _=>rfl) (bN aW (aJ xp xp))))
 (aj (yz (Uk (λ_=>rfl) (mM (λ_=>rfl))) (Va (λ_=>rfl) (λ_ _=>rfl) (mM (λ_=>rfl))) xp))))
theorem Ln(c:PostT)(b:Int)(a:Int):SimO Cb eN (II [aG c,D.int b,D.int a]) (Gu c b a):=da (d:=()) rfl S5 rfl
structure S_bc9 where
 vuq:PostT
 vDq:Int
 voq:Int
 vrq:Option (Option (List Int))
def yp:S_bc9->X0:=λs=>[some (aG s.vuq),some (D.int s.vDq),some (D.int s.voq),s.vrq.map (eO (eL D.int))]
abbrev ql:=S_bc9->FlC S_bc9 Unit
def oq:ql:=a6 (λa s=>{s with vrq:=some a}) (aH (aD rh (aR (λg=>.ok g.roads) (pC (·.vuq))) (pC (·.vDq))))
def j3:ql:=JU ()
def om:ql:=iL (aH (aD (oR false) (aD Fk (aR (λg=>.ok g.written_last) (pC (·.vuq))) (aR bW (ff (pC (·.vDq)) (pC (·.voq))))) (vC (·.vrq))))
 j3
 bP
def vc:ql:=ik (λs=>some s.vuq.written_last) (λs y=>{s with vuq:={s.vuq with written_last:=y}}) (aR bW (ff (pC (·.vDq)) (pC (·.voq)))) (aH (vC (·.vrq)))
def va:ql:=ik (λs=>some s.vuq.letters) (λs y=>{s with vuq:={s.vuq with letters:=y}}) (aR bW (ff (pC (·.vDq)) (pC (·.voq)))) (aH (vC (·.vrq)))
def xm:ql:=ak oq
 (ak om
 (ak vc
 va))
def qr(c:PostT)(b:Int)(a:Int):OutC S_bc9 Unit:=a8 (some ()) (xm ⟨c,b,a,none⟩)
theorem Pf:Cl.TJ yp eN D3 xm:=aa (xs (af (ae mo (aC dM xp) xp)))
 (aa (bg (af (aB (ae (tR (i3 (cI bw) (cP _)) (by decide) false) (uo (aC hE xp) (bN aW (aJ xp xp))) xv)))
 (GP rfl)
 aQ)
 (aa (dH (λ_=>rfl) (λ_ _=>rfl) (bN aW (aJ xp xp)) (af xv))
 (dH (λ_=>rfl) (λ_ _=>rfl) (bN aW (aJ xp xp)) (af xv))))
theorem wT(c:PostT)(b:Int)(a:Int):SimO yp eN (t8 [aG c,D.int b,D.int a]) (qr c b a):=da (d:=()) rfl Pf rfl
structure S_bh9 where
 vsq:(List Int)
 vbq:Int
def yl:S_bh9->X0:=λs=>[some (eS s.vsq),some (D.int s.vbq)]
abbrev zR:=S_bh9->FlC S_bh9 Int
def jX:zR:=bp (aH (aD rh (pC (·.vsq)) (pC (·.vbq))))
def u6:zR:=iL (aH (aD Qh (pC (·.vbq)) (aR ko (pC (·.vsq)))))
 jX
 bP
def u5:zR:=bp (aH (kC (0:Int)))
def xg:zR:=ak u6
 u5
def gS(a:List Int)(b:Int):OutC S_bh9 Int:=a8 none (xg ⟨a,b⟩)
theorem Pa:Cl.TJ yl D.int DY xg:=aa (bg (af (aB (ae Dm xp (aC NG xp))))
 (aE (af (bT (λ_=>rfl) (ae RU xp xp))))
 aQ)
 (aE (af xk))
theorem iD(a:List Int)(b:Int):SimO yl D.int (iX [eS a,D.int b]) (gS a b):=eM Pa rfl
structure S_bk9 where
 v3q:Int
 vwq:Int
 v6q:Option (DI Int)
 vbq:Option Int
def yi:S_bk9->X0:=λs=>[some (D.int s.v3q),some (D.int s.vwq),s.v6q.map (aS D.int),s.vbq.map D.int]
abbrev oJ:=S_bk9->FlC S_bk9 (DI Int)
def uZ:oJ:=a6 (λa s=>{s with v6q:=some a}) (aH (kC ([]:DI Int)))
def nJ:oJ:=a6 (λa s=>{s with v3q:=a}) (aH (aD b9 (aD j9 (aD AC (pC (·.v3q)) (kC (48271:Int))) (kC (11:Int))) (kC (2147483647:Int))))
def nI:oJ:=ik (λs=>s.v6q) (λs y=>{s with v6q:=some y}) (aR bW (ff (aD b9 (pC (·.v3q)) (pC (·.vwq))) (aD b9 (aD du (pC (·.v3q)) (kC (7:Int))) (pC (·.vwq))))) (aH (aD sZ (aD b9 (aD du (pC (·.v3q)) (kC (49:Int))) (kC (7:Int))) (kC (3:Int))))
def oy:oJ:=ak nJ
 nI
def uY:oJ:=dW (aR (fb 0) (aD b9 (pC (·.v3q)) (kC (5:Int)))) (λa s=>{s with vbq:=some a})
 oy
def uX:oJ:=bp (Dw (λs=>s.v6q) (λs=>{s with v6q:=none}))
def xc:oJ:=ak uZ
 (ak uY
 uX)
def vH(b:Int)(a:Int):OutC S_bk9 (DI Int):=a8 none (xc ⟨b,a,none,none⟩)
theorem O7:Cl.TJ yi (aS D.int) DV xc:=aa (xs (af (rF rfl)))
 (aa (bZ (dO (ae ba xp xk)) (λ_ _=>rfl)
 (aa (xs (af (ae ba (ae gL (ae tQ xp xk) xk) xk)))
 (dH (λ_=>rfl) (λ_ _=>rfl) (bN aW (aJ (ae ba xp xp) (ae ba (ae cj xp xk) xp))) (af (ae ml (ae ba (ae cj xp xk) xk) xk)))))
 (aE (jE (λ_=>rfl) (λ_=>rfl))))
theorem FE(b:Int)(a:Int):SimO yi (aS D.int) (yI [D.int b,D.int a]) (vH b a):=cw O7 rfl
structure S_bo9 where
 v3q:Int
 v9q:Int
 vwq:Int
 vpq:Option (List Int)
 vrq:Option (List Int)
 vfq:Option Int
def qE:S_bo9->X0:=λs=>[some (D.int s.v3q),some (D.int s.v9q),some (D.int s.vwq),s.vpq.map (eL D.int),s.vrq.map (eL D.int),s.vfq.map D.int]
abbrev gd:=S_bo9->FlC S_bo9 (List Int)
def nz:gd:=a6 (λa s=>{s with vpq:=some a}) (aH (d9 (aD fb (kC (1:Int)) (pC (·.vwq))) (aD (oR true) (pC λp=>p.1) (pC λp=>p.2.v9q)) (pC λp=>p.1)))
def ny:gd:=a6 (λa s=>{s with vrq:=some a}) (aH (vK (di (pC (·.v9q)) (iQ:_->Res (List Int)))))
def nw:gd:=a6 (λa s=>{s with vfq:=some a}) (aH (aD b9 (pC (·.v3q)) (kC (4:Int))))
def jV:gd:=a6 (λa s=>{s with vfq:=some a}) (aH (pC (·.vwq)))
def nv:gd:=iL (aH (aD (oR false) (aD b9 (aD du (pC (·.v3q)) (kC (4:Int))) (kC (8:Int))) (kC (3:Int))))
 jV
 bP
def nu:gd:=a6 (λa s=>{s with v3q:=a}) (aH (aD du (pC (·.v3q)) (kC (4:Int))))
def nr:gd:=ar (PH (λs=>s.vrq) (λs y=>{s with vrq:=some y}) (GI (λs=>s.vpq) (λs y=>{s with vpq:=some y}) CJ (aD b9 (pC (·.v3q)) (aR ko (vC (·.vpq))))))
def nq:gd:=a6 (λa s=>{s with v3q:=a}) (aH (aD du (pC (·.v3q)) (kC (5:Int))))
def nk:gd:=a6 (λa s=>{s with vfq:=some a}) (aH (aD sZ (vC (·.vfq)) (kC (1:Int))))
def ou:gd:=ak nr
 (ak nq
 nk)
def uQ:gd:=LD (aH (Gb (aD OH (vC (·.vfq)) (kC (0:Int))) (aD OH (aR ko (vC (·.vpq))) (kC (0:Int)))))
 ou 100000
def uP:gd:=bp (aH (aD xq (vC (·.vrq)) (vK (di (kC (0:Int)) (iQ:_->Res (List Int))))))
def w8:gd:=ak nz
 (ak ny
 (ak nw
 (ak nv
 (ak nu
 (ak uQ
 uP)))))
def zY(c:Int)(a:Int)(b:Int):OutC S_bo9 (List Int):=a8 none (w8 ⟨c,a,b,none,none,none⟩)
theorem O3:Cl.TJ qE (eL D.int) DR w8:=aa (xs (af (gu (wP xk xp) (aB (ae (fg true) xp xp)) xp)))
 (aa (xs (af (cW (bv xp cV))))
 (aa (xs (af (ae ba xp xk)))
 (aa (bg (af (aB (ae (fg false) (ae ba (ae cj xp xk) xk) xk)))
 (xs (af xp))
 aQ)
 (aa (xs (af (ae cj xp xk)))
 (aa (BF (rep:=qE) (af (rG (aB (ae Iq xv xk)) (aB (ae Iq (aC gg xv) xk))))
 (aa (aj (NK (λ_=>rfl) (λ_ _=>rfl) (lc (λ_=>rfl) (λ_ _=>rfl) SS (ae ba xp (aC gg xv)))))
 (aa (xs (af (ae cj xp xk)))
 (xs (af (ae ml xv xk))))) 100000)
 (aE (af (ae Kn xv (cW (bv xk cV))))))))))
theorem Pp(c:Int)(a:Int)(b:Int):SimO qE (eL D.int) (Ek [D.int c,D.int a,D.int b]) (zY c a b):=cw O3 rfl
structure S_bq9 where
 v3q:Int
 vwq:Int
 vvq:Option Tp
 vbq:Option Int
 v0q:Option Int
 v1q:Option Int
def ye:S_bq9->X0:=λs=>[some (D.int s.v3q),some (D.int s.vwq),s.vvq.map (eL (jw D.int D.int)),s.vbq.map D.int,s.v0q.map D.int,s.v1q.map D.int]
abbrev gR:=S_bq9->FlC S_bq9 Tp
def nh:gR:=a6 (λa s=>{s with vvq:=some a}) (aH (vK (iQ:_->Res Tp)))
def jU:gR:=bp (Dw (λs=>s.vvq) (λs=>{s with vvq:=none}))
def ng:gR:=iL (aH (aD Qh (pC (·.vwq)) (kC (2:Int))))
 jU
 bP
def ji:gR:=a6 (λa s=>{s with v3q:=a}) (aH (aD b9 (aD j9 (aD AC (pC (·.v3q)) (kC (48271:Int))) (kC (23:Int))) (kC (2147483647:Int))))
def jh:gR:=a6 (λa s=>{s with v0q:=some a}) (aH (aD b9 (pC (·.v3q)) (pC (·.vwq))))
def jg:gR:=a6 (λa s=>{s with v1q:=some a}) (aH (aD b9 (aD j9 (aD j9 (vC (·.v0q)) (kC (1:Int))) (aD b9 (aD du (pC (·.v3q)) (kC (7:Int))) (aD sZ (pC (·.vwq)) (kC (1:Int))))) (pC (·.vwq))))
def iq:gR:=ar (GI (λs=>s.vvq) (λs y=>{s with vvq:=some y}) lU (ff (vC (·.v0q)) (vC (·.v1q))))
def jf:gR:=iL (aH (aD (La true) (ff (vC (·.v0q)) (vC (·.v1q))) (vC (·.vvq))))
 iq
 bP
def j5:gR:=ak ji
 (ak jh
 (ak jg
 jf))
def uN:gR:=dW (aR (fb 0) (aD b9 (pC (·.v3q)) (kC (3:Int)))) (λa s=>{s with vbq:=some a})
 j5
def uM:gR:=bp (Dw (λs=>s.vvq) (λs=>{s with vvq:=none}))
def sF:gR:=ak nh
 (ak ng
 (ak uN
 uM))
def qo(b:Int)(a:Int):OutC S_bq9 Tp:=a8 none (sF ⟨b,a,none,none,none,none⟩)
theorem O1:Cl.TJ ye (eL (jw D.int D.int)) DP sF:=aa (xs (af (cW cV)))
 (aa (bg (af (aB (ae Dm xp xk)))
 (aE (jE (λ_=>rfl) (λ_=>rfl)))
 aQ)
 (aa (bZ (dO (ae ba xp xk)) (λ_ _=>rfl)
 (aa (xs (af (ae ba (ae gL (ae tQ xp xk) xk) xk)))
 (aa (xs (af (ae ba xp xp)))
 (aa (xs (af (ae ba (ae gL (ae gL xv xk) (ae ba (ae cj xp xk) (ae ml xp xk))) xp)))
 (bg (af (aB (ae (ND (kL bw bw) (by decide)) (aJ xv xv) xv)))
 (aj (lc (λ_=>rfl) (λ_ _=>rfl) p5 (aJ xv xv)))
 aQ)))))
 (aE (jE (λ_=>rfl) (λ_=>rfl)))))
theorem FC(b:Int)(a:Int):SimO ye (eL (jw D.int D.int)) (yG [D.int b,D.int a]) (qo b a):=cw O1 rfl
structure S_br9 where
 vBq:Tp
 vwq:Int
 v0q:Int
def yd:S_br9->X0:=λs=>[some ((eL (jw D.int D.int)) s.vBq),some (D.int s.vwq),some (D.int s.v0q)]
abbrev LA:=S_br9->FlC S_br9 (List Int)
def uL:LA:=bp (aH (d9 (aR (fb 0) (pC (·.vwq))) (aD (La false) (ff (aD t4 (pC λp=>p.2.v0q) (pC λp=>p.1)) (aD t7 (pC λp=>p.2.v0q) (pC λp=>p.1))) (pC λp=>p.2.vBq)) (pC λp=>p.1)))
def wZ:LA:=uL
def qm(a:Tp)(b:Int)(c:Int):OutC S_br9 (List Int):=a8 none (wZ ⟨a,b,c⟩)
theorem O0:Cl.TJ yd (eL D.int) DO wZ:=aE (af (gu (dO xp) (aB (ae (yy (kL bw bw) (by decide)) (aJ (ae pD xp xp) (ae pE xp xp)) xp)) xp))
theorem FA(a:Tp)(b:Int)(c:Int):SimO yd (eL D.int) (yF [(eL (jw D.int D.int)) a,D.int b,D.int c]) (qm a b c):=cw O0 rfl
structure S_bt9 where
 v3q:Int
 vwq:Int
 vtq:Option Int
 vBq:Option Tp
 vbq:Option Int
 v0q:Option Int
 v1q:Option Int
def yb:S_bt9->X0:=λs=>[some (D.int s.v3q),some (D.int s.vwq),s.vtq.map D.int,s.vBq.map (eL (jw D.int D.int)),s.vbq.map D.int,s.v0q.map D.int,s.v1q.map D.int]
abbrev iE:=S_bt9->FlC S_bt9 Tp
def uK:iE:=a6 (λa s=>{s with vtq:=some a}) (aH (aD b9 (aD AC (aD b9 (aD AC (aD j9 (pC (·.v3q)) (kC (1:Int))) (kC (48271:Int))) (kC (2147483647:Int))) (kC (16807:Int))) (kC (2147483647:Int))))
def uJ:iE:=a6 (λa s=>{s with vBq:=some a}) (aH (vK (iQ:_->Res Tp)))
def uI:iE:=a6 (λa s=>{s with vbq:=some a}) (aH (kC (0:Int)))
def fV:iE:=ar (GI (λs=>s.vBq) (λs y=>{s with vBq:=some y}) lU (ff (vC (·.v0q)) (vC (·.v1q))))
def gx:iE:=iL (aH (aD (oR false) (aD b9 (aD Qz (vC (·.vtq)) (aD b9 (vC (·.vbq)) (kC (29:Int)))) (kC (2:Int))) (kC (1:Int))))
 fV
 bP
def gw:iE:=a6 (λa s=>{s with vbq:=some a}) (aH (aD j9 (vC (·.vbq)) (kC (1:Int))))
def gG:iE:=ak gx
 gw
def je:iE:=dW (aD fb (aD j9 (vC (·.v0q)) (kC (1:Int))) (pC (·.vwq))) (λa s=>{s with v1q:=some a})
 gG
def uH:iE:=dW (aR (fb 0) (pC (·.vwq))) (λa s=>{s with v0q:=some a})
 je
def uG:iE:=bp (Dw (λs=>s.vBq) (λs=>{s with vBq:=none}))
def wX:iE:=ak uK
 (ak uJ
 (ak uI
 (ak uH
 uG)))
def zW(b:Int)(a:Int):OutC S_bt9 Tp:=a8 none (wX ⟨b,a,none,none,none,none,none⟩)
theorem OY:Cl.TJ yb (eL (jw D.int D.int)) DM wX:=aa (xs (af (ae ba (ae tQ (ae ba (ae tQ (ae gL xp xk) xk) xk) xk) xk)))
 (aa (xs (af (cW cV)))
 (aa (xs (af xk))
 (aa (bZ (dO xp) (λ_ _=>rfl)
 (bZ (wP (ae gL xv xk) xp) (λ_ _=>rfl)
 (aa (bg (af (aB (ae (fg false) (ae ba (ae RQ xv (ae ba xv xk)) xk) xk)))
 (aj (lc (λ_=>rfl) (λ_ _=>rfl) p5 (aJ xv xv)))
 aQ)
 (xs (af (ae gL xv xk))))))
 (aE (jE (λ_=>rfl) (λ_=>rfl))))))
theorem Pm(b:Int)(a:Int):SimO yb (eL (jw D.int D.int)) (Ei [D.int b,D.int a]) (zW b a):=cw OY rfl
structure S_be9 where
 v9q:Int
 vxq:(List (Int×Int×(List Int)))
 v2q:Option (Option (Int×Int×(List Int)))
def yo:S_be9->X0:=λs=>[some (D.int s.v9q),some ((eL (lw D.int D.int (eL D.int))) s.vxq),s.v2q.map (eO (lw D.int D.int (eL D.int)))]
abbrev oK:=S_be9->FlC S_be9 (Option (List Int))
def jZ:oK:=bp (λs=>xy ((aH (vK (di (kC (0:Int)) (iQ:_->Res (List Int))))) s) λa s=>bndO (xY a) s λb=>.ok b s)
def j2:oK:=iL (aH (aD (oR false) (pC (·.v9q)) (kC (0:Int))))
 jZ
 bP
def oj:oK:=a6 (λa s=>{s with v2q:=some a}) (aH (aR Kt (pC (·.vxq))))
def gB:oK:=bp (λs=>xy ((aH (kC ())) s) λa s=>bndO ((Dr:Unit->Res (Option (List Int))) a) s λb=>.ok b s)
def oh:oK:=iL (aH (aR (ET false Ds) (vC (·.v2q))))
 gB
 bP
def u8:oK:=bp (λs=>xy ((aH (aR Qv (aR wu (vC (·.v2q))))) s) λa s=>bndO (xY a) s λb=>.ok b s)
def xj:oK:=ak j2
 (ak oj
 (ak oh
 u8))
def z5(b:Int)(a:List (Int×Int×(List Int))):OutC S_be9 (Option (List Int)):=a8 (some none) (xj ⟨b,a,none⟩)
theorem Pd:Cl.TJ yo (eO (eL D.int)) D1 xj:=aa (bg (af (aB (ae (fg false) xp xk)))
 (aE (pF xA (af (cW (bv xk cV)))))
 aQ)
 (aa (xs (af (uq NF xp)))
 (aa (bg (af (aB (rE (yS (λ_=>rfl)) xv)))
 (aE (pF zP (af xk)))
 aQ)
 (aE (pF xA (af (uq UU (bN iO xv)))))))
theorem Pt(b:Int)(a:List (Int×Int×(List Int))):SimO yo (eO (eL D.int)) (Ep [D.int b,(eL (lw D.int D.int (eL D.int))) a]) (z5 b a):=da (d:=none) rfl Pd rfl
structure S_bf9 where
 vrq:(Option (List Int))
def yn:S_bf9->X0:=λs=>[some ((eO (eL D.int)) s.vrq)]
abbrev zS:=S_bf9->FlC S_bf9 (Option (List Int))
def jY:zS:=bp (λs=>xy ((aH (kC ())) s) λa s=>bndO ((Dr:Unit->Res (Option (List Int))) a) s λb=>.ok b s)
def og:zS:=iL (aH (aR (ET false Ds) (pC (·.vrq))))
 jY
 bP
def u7:zS:=bp (λs=>xy ((aH (aR EW (aR wu (pC (·.vrq))))) s) λa s=>bndO (xY a) s λb=>.ok b s)
def xi:zS:=ak og
 u7
def ka(a:Option (List Int)):OutC S_bf9 (Option (List Int)):=a8 none (xi ⟨a⟩)
theorem Pc:Cl.TJ yn (eO (eL D.int)) D0 xi:=aa (bg (af (aB (rE (yS (λ_=>rfl)) xp)))
 (aE (pF zP (af xk)))
 aQ)
 (aE (pF xA (af (kK (qC (λ_=>rfl)) (aC qQ (bN iO (kK (LS (qC (λ_=>rfl))) xp)))))))
theorem sD(a:Option (List Int)):SimO yn (eO (eL D.int)) (pJ [(eO (eL D.int)) a]) (ka a):=cw Pc rfl
structure S_bv9 where
 vaq:(List Int)
 v4q:Int
def x9:S_bv9->X0:=λs=>[some ((eL D.int) s.vaq),some (D.int s.v4q)]
abbrev Lz:=S_bv9->FlC S_bv9 Unit
def uE:Lz:=iL (aH (Ud (aD Qh (aD Ey (pC (·.vaq)) (kC (0:Int))) (kC (0:Int))) (aD geC (aD Kq (pC (·.vaq)) (kC (0:Int))) (pC (·.v4q)))))
 sL
 bP
def wV:Lz:=uE
def zV(a:List Int)(b:Int):OutC S_bv9 Unit:=a8 (some ()) (wV ⟨a,b⟩)
theorem OW:Cl.TJ x9 eN DK wV:=bg (af (wQ (aB (ae Dm (ae Io xp xk) xk)) (aB (ae UY (ae NE xp xk) xp))))
 gX
 aQ
theorem Pk(a:List Int)(b:Int):SimO x9 eN (Eg [(eL D.int) a,D.int b]) (zV a b):=da (d:=()) rfl OW rfl
structure S_i9 where
 vuq:GΩ
 vaq:(List Int)
def Co:S_i9->X0:=λs=>[some (ag s.vuq),some ((eL D.int) s.vaq)]
abbrev TR:=S_i9->FlC S_i9 Unit
def zv:TR:=ar (aH (bB zV (pC (·.vaq)) (aR (λg=>.ok g.hω) (pC (·.vuq)))))
def F1:TR:=zv
def oN(b:GΩ)(a:List Int):OutC S_i9 Unit:=a8 (some ()) (F1 ⟨b,a⟩)
theorem Tg:Cl.TJ Co eN KY F1:=aj (af (br (λb a=>Pk b a) xp (bT (λ_=>rfl) (aC bC xp))))
theorem lK(b:GΩ)(a:List Int):SimO Co eN (oZ [ag b,(eL D.int) a]) (oN b a):=da (d:=()) rfl Tg rfl
structure S_z9 where
 vuq:PostT
def B6:S_z9->X0:=λs=>[some (aG s.vuq)]
abbrev TL:=S_z9->FlC S_z9 (List (Option (List Int)))
def za:TL:=bp (aH (d9 (aR (λg=>.ok g.roads) (pC (·.vuq))) (λ_=>.ok true) (iP ka (pC λp=>p.1))))
def FK:TL:=za
def Gq(a:PostT):OutC S_z9 (List (Option (List Int))):=a8 none (FK ⟨a⟩)
theorem SY:Cl.TJ B6 (eL (eO (eL D.int))) Kw FK:=aE (af (gu (ft (aC dM xp)) rB (rD (λa=>sD a) xp)))
theorem Lk(a:PostT):SimO B6 (eL (eO (eL D.int))) (IF [aG a]) (Gq a):=cw SY rfl
structure S_bb9 where
 vuq:PostT
def yq:S_bb9->X0:=λs=>[some (aG s.vuq)]
abbrev LB:=S_bb9->FlC S_bb9 (List (Int×Int×(Option (List Int))))
def vd:LB:=bp (aH (d9 (aR pR (aR (λg=>.ok g.letters) (pC (·.vuq)))) (λ_=>.ok true) (ff (aD rh (pC λp=>p.1) (kC (0:Int))) (ff (aD rh (pC λp=>p.1) (kC (1:Int))) (iP ka (aD Qn (aR (λg=>.ok g.letters) (pC λp=>p.2.vuq)) (pC λp=>p.1)))))))
def xn:LB:=vd
def oP(a:PostT):OutC S_bb9 (List (Int×Int×(Option (List Int)))):=a8 none (xn ⟨a⟩)
theorem Pg:Cl.TJ yq (eL (lw D.int D.int (eO (eL D.int)))) D4 xn:=aE (af (gu (Jf (aC d5 xp)) rB (y0 (bT (λ_=>rfl) (ae qR xp xk)) (bT (λ_=>rfl) (ae qR xp xk)) (rD (λa=>sD a) (ae wx (aC d5 xp) xp)))))
theorem sE(a:PostT):SimO yq (eL (lw D.int D.int (eO (eL D.int)))) (pK [aG a]) (oP a):=cw Pg rfl
structure S_bi9 where
 v3q:Int
 vwq:Int
 v5q:Option (DI Int)
 vbq:Option Int
 vrq:Option (List Int)
def yk:S_bi9->X0:=λs=>[some (D.int s.v3q),some (D.int s.vwq),s.v5q.map (aS D.int),s.vbq.map D.int,s.vrq.map (eL D.int)]
abbrev i5:=S_bi9->FlC S_bi9 (DI Int)
def nV:i5:=a6 (λa s=>{s with v5q:=some a}) (aH (kC ([]:DI Int)))
def jW:i5:=bp (Dw (λs=>s.v5q) (λs=>{s with v5q:=none}))
def nT:i5:=iL (aH (aD Qh (pC (·.vwq)) (kC (2:Int))))
 jW
 bP
def nR:i5:=a6 (λa s=>{s with v3q:=a}) (aH (aD b9 (aD j9 (aD AC (pC (·.v3q)) (kC (48271:Int))) (kC (17:Int))) (kC (2147483647:Int))))
def nQ:i5:=a6 (λa s=>{s with vrq:=some a}) (aH (gf zY (aD du (pC (·.v3q)) (kC (9:Int))) (aD j9 (kC (1:Int)) (aD b9 (pC (·.v3q)) (aD sZ (pC (·.vwq)) (kC (1:Int))))) (pC (·.vwq))))
def nP:i5:=ik (λs=>s.v5q) (λs y=>{s with v5q:=some y}) (aR EW (vC (·.vrq))) (aH (aD sZ (aD b9 (aD du (pC (·.v3q)) (kC (5:Int))) (kC (9:Int))) (kC (4:Int))))
def oz:i5:=ak nR
 (ak nQ
 nP)
def u4:i5:=dW (aR (fb 0) (aD b9 (pC (·.v3q)) (kC (4:Int)))) (λa s=>{s with vbq:=some a})
 oz
def u3:i5:=bp (Dw (λs=>s.v5q) (λs=>{s with v5q:=none}))
def sI:i5:=ak nV
 (ak nT
 (ak u4
 u3))
def qp(b:Int)(a:Int):OutC S_bi9 (DI Int):=a8 none (sI ⟨b,a,none,none,none⟩)
theorem O9:Cl.TJ yk (aS D.int) DX sI:=aa (xs (af (rF rfl)))
 (aa (bg (af (aB (ae Dm xp xk)))
 (aE (jE (λ_=>rfl) (λ_=>rfl)))
 aQ)
 (aa (bZ (dO (ae ba xp xk)) (λ_ _=>rfl)
 (aa (xs (af (ae ba (ae gL (ae tQ xp xk) xk) xk)))
 (aa (xs (af (mY (λc b a=>Pp c b a) (ae cj xp xk) (ae gL xk (ae ba xp (ae ml xp xk))) xp)))
 (dH (λ_=>rfl) (λ_ _=>rfl) (aC Dl xv) (af (ae ml (ae ba (ae cj xp xk) xk) xk))))))
 (aE (jE (λ_=>rfl) (λ_=>rfl)))))
theorem FG(b:Int)(a:Int):SimO yk (aS D.int) (yK [D.int b,D.int a]) (qp b a):=cw O9 rfl
structure S_bu9 where
 v7q:GΩ
 v9q:Int
 vrq:(Option (List Int))
def ya:S_bu9->X0:=λs=>[some (ag s.v7q),some (D.int s.v9q),some ((eO (eL D.int)) s.vrq)]
abbrev zQ:=S_bu9->FlC S_bu9 Bool
def dg:zQ:=bp (aH (kC false))
def ip:zQ:=iL (aH (Ud (aR (ET false Ds) (pC (·.vrq))) (Ud (aD (oR false) (pC (·.v9q)) (kC (0:Int))) (aD (La false) (pC (·.v9q)) (aR wu (pC (·.vrq)))))))
 dg
 bP
def uF:zQ:=bp (aH (aR RW (gf JF (pC (·.v7q)) (pC (·.v9q)) (aR wu (pC (·.vrq))))))
def wW:zQ:=ak ip
 uF
def vF(b:GΩ)(a:Int)(c:Option (List Int)):OutC S_bu9 Bool:=a8 none (wW ⟨b,a,c⟩)
theorem OX:Cl.TJ ya D.bl DL wW:=aa (bg (af (wQ (aB (rE (yS (λ_=>rfl)) xp)) (wQ (aB (ae (fg false) xp xk)) (aB (ae (yy bw (by decide)) xp (bN iO xp))))))
 (aE (af xk))
 aQ)
 (aE (af (aC RT (ij (λ_=>rfl) (λc b a=>Tw c b a) xp xp (bN iO xp)))))
theorem Pl(b:GΩ)(a:Int)(c:Option (List Int)):SimO ya D.bl (Eh [ag b,D.int a,(eO (eL D.int)) c]) (vF b a c):=eM OX rfl
structure S_e9 where
 vuq:GΩ
 v0q:Int
 v1q:Int
 vnq:Int
def Cs:S_e9->X0:=λs=>[some (ag s.vuq),some (D.int s.v0q),some (D.int s.v1q),some (D.int s.vnq)]
abbrev PY:=S_e9->FlC S_e9 Unit
def zC:PY:=ar (aH (bB oN (pC (·.vuq)) (vK (di (pC (·.v0q)) (di (pC (·.v1q)) (iQ:_->Res (List Int)))))))
def zB:PY:=ik (λs=>some s.vuq.lω) (λs y=>{s with vuq:={s.vuq with lω:=y}}) (aR bW (ff (pC (·.v0q)) (pC (·.v1q)))) (aH (pC (·.vnq)))
def F5:PY:=ak zC
 zB
def GA(a:GΩ)(d:Int)(c:Int)(b:Int):OutC S_e9 Unit:=a8 (some ()) (F5 ⟨a,d,c,b⟩)
theorem Tk:Cl.TJ Cs eN K2 F5:=aa (aj (af (bY (λ_=>rfl) (λb a=>lK b a) xp (cW (bv xp (bv xp cV))))))
 (dH (λ_=>rfl) (λ_ _=>rfl) (bN aW (aJ xp xp)) (af xp))
theorem Ls(a:GΩ)(e:Int)(c:Int)(b:Int):SimO Cs eN (IQ [ag a,D.int e,D.int c,D.int b]) (GA a e c b):=da (d:=()) rfl Tk rfl
structure S_f9 where
 vuq:GΩ
 v0q:Int
 v1q:Int
def Cr:S_f9->X0:=λs=>[some (ag s.vuq),some (D.int s.v0q),some (D.int s.v1q)]
abbrev PX:=S_f9->FlC S_f9 Int
def zA:PX:=ar (aH (bB oN (pC (·.vuq)) (vK (di (pC (·.v0q)) (di (pC (·.v1q)) (iQ:_->Res (List Int)))))))
def zz:PX:=bp (aH (Lb (aR (λg=>.ok g.lω) (pC (·.vuq))) (aR bW (ff (pC (·.v0q)) (pC (·.v1q)))) (kC (0:Int))))
def F4:PX:=ak zA
 zz
def JH(a:GΩ)(c:Int)(b:Int):OutC S_f9 Int:=a8 none (F4 ⟨a,c,b⟩)
theorem Tj:Cl.TJ Cr D.int K1 F4:=aa (aj (af (bY (λ_=>rfl) (λb a=>lK b a) xp (cW (bv xp (bv xp cV))))))
 (aE (af (bT (λ_=>rfl) (Jh (aC fL xp) (bN aW (aJ xp xp)) xk))))
theorem TB(a:GΩ)(c:Int)(b:Int):SimO Cr D.int (Op [ag a,D.int c,D.int b]) (JH a c b):=eM Tj rfl
structure S_g9 where
 vuq:GΩ
 v0q:Int
def Cq:S_g9->X0:=λs=>[some (ag s.vuq),some (D.int s.v0q)]
abbrev PV:=S_g9->FlC S_g9 (List Int)
def zx:PV:=ar (aH (bB oN (pC (·.vuq)) (vK (di (pC (·.v0q)) (iQ:_->Res (List Int))))))
def zw:PV:=bp (aH (gf JI (pC (·.vuq)) (aR (λg=>.ok g.S) (pC (·.vuq))) (pC (·.v0q))))
def F3:PV:=ak zx
 zw
def Bv(a:GΩ)(b:Int):OutC S_g9 (List Int):=a8 none (F3 ⟨a,b⟩)
theorem Ti:Cl.TJ Cq (eL D.int) K0 F3:=aa (aj (af (bY (λ_=>rfl) (λb a=>lK b a) xp (cW (bv xp cV)))))
 (aE (af (ij (λ_=>rfl) (λb a c=>TC b a c) xp (aC dN xp) xp)))
theorem Fx(a:GΩ)(b:Int):SimO Cq (eL D.int) (Ec [ag a,D.int b]) (Bv a b):=cw Ti rfl
structure S_j9 where
 vuq:GΩ
 vrq:(List Int)
def Ck:S_j9->X0:=λs=>[some (ag s.vuq),some ((eL D.int) s.vrq)]
abbrev Gh:=S_j9->FlC S_j9 Unit
def zu:Gh:=ar (aH (bB oN (pC (·.vuq)) (pC (·.vrq))))
def zt:Gh:=iL (aH (aD Qh (aR ko (pC (·.vrq))) (kC (2:Int))))
 sL
 bP
def zr:Gh:=iL (aH (aD (oR true) (aD rh (pC (·.vrq)) (aR NL (kC (1:Int)))) (kC (0:Int))))
 sL
 bP
def zq:Gh:=iL (aH (aD (oR true) (aR qZ (pC (·.vrq))) (aR ko (pC (·.vrq)))))
 sL
 bP
def FZ:Gh:=ak zu
 (ak zt
 (ak zr
 zq))
def Gz(a:GΩ)(b:List Int):OutC S_j9 Unit:=a8 (some ()) (FZ ⟨a,b⟩)
theorem Tf:Cl.TJ Ck eN KW FZ:=aa (aj (af (bY (λ_=>rfl) (λb a=>lK b a) xp xp)))
 (aa (bg (af (aB (ae Dm (aC gg xp) xk)))
 gX
 aQ)
 (aa (bg (af (aB (ae (fg true) (ae mo xp (aC Km xk)) xk)))
 gX
 aQ)
 (bg (af (aB (ae (fg true) (aC Do xp) (aC gg xp))))
 gX
 aQ)))
theorem Lr(a:GΩ)(b:List Int):SimO Ck eN (IP [ag a,(eL D.int) b]) (Gz a b):=da (d:=()) rfl Tf rfl
structure S_k9 where
 vuq:GΩ
 v0q:Int
 v1q:Int
def Cj:S_k9->X0:=λs=>[some (ag s.vuq),some (D.int s.v0q),some (D.int s.v1q)]
abbrev PU:=S_k9->FlC S_k9 Unit
def zp:PU:=ar (aH (bB oN (pC (·.vuq)) (vK (di (pC (·.v0q)) (di (pC (·.v1q)) (iQ:_->Res (List Int)))))))
def zo:PU:=iL (aH (aD (oR false) (pC (·.v0q)) (pC (·.v1q))))
 sL
 bP
def FY:PU:=ak zp
 zo
def Bu(a:GΩ)(c:Int)(b:Int):OutC S_k9 Unit:=a8 (some ()) (FY ⟨a,c,b⟩)
theorem Te:Cl.TJ Cj eN KU FY:=aa (aj (af (bY (λ_=>rfl) (λb a=>lK b a) xp (cW (bv xp (bv xp cV))))))
 (bg (af (aB (ae (fg false) xp xp)))
 gX
 aQ)
theorem Fw(a:GΩ)(c:Int)(b:Int):SimO Cj eN (Eb [ag a,D.int c,D.int b]) (Bu a c b):=da (d:=()) rfl Te rfl
structure S_o9 where
 vuq:GΩ
 viq:Option GΩ
def qD:S_o9->X0:=λs=>[some (ag s.vuq),s.viq.map ag]
abbrev xD:=S_o9->FlC S_o9 GΩ
def sr:xD:=a6 (λa s=>{s with viq:=some a}) (aH (wo fN (aR (λg=>.ok g.hω) (pC (·.vuq)))))
def sn:xD:=ar (qv (λs=>s.viq.map (·.S)) (λs y=>{s with viq:=s.viq.map λo=>{o with S:=y}}) (aR (λg=>.ok g.S) (pC (·.vuq))))
def sk:xD:=ar (qv (λs=>s.viq.map (·.lω)) (λs y=>{s with viq:=s.viq.map λo=>{o with lω:=y}}) (aR (λg=>.ok g.lω) (pC (·.vuq))))
def sj:xD:=ar (qv (λs=>s.viq.map (·.sω)) (λs y=>{s with viq:=s.viq.map λo=>{o with sω:=y}}) (aR (λg=>.ok g.sω) (pC (·.vuq))))
def si:xD:=ar (qv (λs=>s.viq.map (·.wω)) (λs y=>{s with viq:=s.viq.map λo=>{o with wω:=y}}) (aR (λg=>.ok g.wω) (pC (·.vuq))))
def Jm:xD:=bp (Dw (λs=>s.viq) (λs=>{s with viq:=none}))
def FV:xD:=ak sr
 (ak sn
 (ak sk
 (ak sj
 (ak si
 Jm))))
def Gx(a:GΩ):OutC S_o9 GΩ:=a8 none (FV ⟨a,none⟩)
theorem Ta:Cl.TJ qD ag KN FV:=aa (xs (af (kJ iZ (bT (λ_=>rfl) (aC bC xp)))))
 (aa (aj (qS (λs=>by cases s with|mk b a=>cases a<;>rfl) (λs y=>by cases s with|mk b a=>cases a<;>rfl) (λ_=>rfl) (aC dN xp)))
 (aa (aj (qS (λs=>by cases s with|mk b a=>cases a<;>rfl) (λs y=>by cases s with|mk b a=>cases a<;>rfl) (λ_=>rfl) (aC fL xp)))
 (aa (aj (qS (λs=>by cases s with|mk b a=>cases a<;>rfl) (λs y=>by cases s with|mk b a=>cases a<;>rfl) (λ_=>rfl) (aC hZ xp)))
 (aa (aj (qS (λs=>by cases s with|mk b a=>cases a<;>rfl) (λs y=>by cases s with|mk b a=>cases a<;>rfl) (λ_=>rfl) (aC lb xp)))
 (aE (jE (λ_=>rfl) (λ_=>rfl)))))))
theorem Tu(a:GΩ):SimO qD ag (wG [ag a]) (Gx a):=cw Ta rfl
structure S_y9 where
 vuq:PostT
 v0q:Int
def B7:S_y9->X0:=λs=>[some (aG s.vuq),some (D.int s.v0q)]
abbrev PP:=S_y9->FlC S_y9 (Option (List Int))
def zc:PP:=ar (aH (bB oN (aR (λg=>.ok g.guild) (pC (·.vuq))) (vK (di (pC (·.v0q)) (iQ:_->Res (List Int))))))
def zb:PP:=bp (aH (iP ka (aD rh (aR (λg=>.ok g.roads) (pC (·.vuq))) (pC (·.v0q)))))
def FL:PP:=ak zc
 zb
def Gr(a:PostT)(b:Int):OutC S_y9 (Option (List Int)):=a8 none (FL ⟨a,b⟩)
theorem SZ:Cl.TJ B7 (eO (eL D.int)) Kx FL:=aa (aj (af (bY (λ_=>rfl) (λa b=>lK a b) (aC bG xp) (cW (bv xp cV)))))
 (aE (af (rD (λa=>sD a) (ae mo (aC dM xp) xp))))
theorem Ll(a:PostT)(b:Int):SimO B7 (eO (eL D.int)) (IG [aG a,D.int b]) (Gr a b):=cw SZ rfl
structure S_ba9 where
 vuq:PostT
 v0q:Int
 v1q:Int
def yr:S_ba9->X0:=λs=>[some (aG s.vuq),some (D.int s.v0q),some (D.int s.v1q)]
abbrev Gn:=S_ba9->FlC S_ba9 (Option (List Int))
def vf:Gn:=ar (aH (bB oN (aR (λg=>.ok g.guild) (pC (·.vuq))) (vK (di (pC (·.v0q)) (di (pC (·.v1q)) (iQ:_->Res (List Int)))))))
def ve:Gn:=bp (aH (iP ka (aD Fk (aR (λg=>.ok g.told_last) (pC (·.vuq))) (aR bW (ff (pC (·.v0q)) (pC (·.v1q)))))))
def xo:Gn:=ak vf
 ve
def oQ(a:PostT)(c:Int)(b:Int):OutC S_ba9 (Option (List Int)):=a8 none (xo ⟨a,c,b⟩)
theorem Ph:Cl.TJ yr (eO (eL D.int)) D5 xo:=aa (aj (af (bY (λ_=>rfl) (λa b=>lK a b) (aC bG xp) (cW (bv xp (bv xp cV))))))
 (aE (af (rD (λa=>sD a) (uo (aC tP xp) (bN aW (aJ xp xp))))))
theorem FJ(a:PostT)(c:Int)(b:Int):SimO yr (eO (eL D.int)) (yL [aG a,D.int c,D.int b]) (oQ a c b):=cw Ph rfl
structure S_c9 where
 vuq:GΩ
 v0q:Int
 v1q:Int
def Cu:S_c9->X0:=λs=>[some (ag s.vuq),some (D.int s.v0q),some (D.int s.v1q)]
abbrev Gk:=S_c9->FlC S_c9 Unit
def zK:Gk:=ar (aH (gf Bu (pC (·.vuq)) (pC (·.v0q)) (pC (·.v1q))))
def zJ:Gk:=iL (aH (aD (uu false) (aR bW (ff (pC (·.v0q)) (pC (·.v1q)))) (aR (λg=>.ok g.S) (pC (·.vuq)))))
 sL
 bP
def zI:Gk:=ik (λs=>some s.vuq.S) (λs y=>{s with vuq:={s.vuq with S:=y}}) (aR bW (ff (pC (·.v0q)) (pC (·.v1q)))) (aH (kC true))
def zH:Gk:=ik (λs=>some s.vuq.S) (λs y=>{s with vuq:={s.vuq with S:=y}}) (aR bW (ff (pC (·.v1q)) (pC (·.v0q)))) (aH (kC true))
def F7:Gk:=ak zK
 (ak zJ
 (ak zI
 zH))
def Bw(a:GΩ)(c:Int)(b:Int):OutC S_c9 Unit:=a8 (some ()) (F7 ⟨a,c,b⟩)
theorem Tn:Cl.TJ Cu eN K4 F7:=aa (aj (af (ij (λ_=>rfl) (λc b a=>Fw c b a) xp xp xp)))
 (aa (bg (af (aB (ae (tS false) (bN aW (aJ xp xp)) (aC dN xp))))
 gX
 aQ)
 (aa (dH (λ_=>rfl) (λ_ _=>rfl) (bN aW (aJ xp xp)) (af xk))
 (dH (λ_=>rfl) (λ_ _=>rfl) (bN aW (aJ xp xp)) (af xk))))
theorem Fy(a:GΩ)(c:Int)(b:Int):SimO Cu eN (Ee [ag a,D.int c,D.int b]) (Bw a c b):=da (d:=()) rfl Tn rfl
structure S_d9 where
 vuq:GΩ
 v0q:Int
 v1q:Int
def Ct:S_d9->X0:=λs=>[some (ag s.vuq),some (D.int s.v0q),some (D.int s.v1q)]
abbrev Gj:=S_d9->FlC S_d9 Unit
def zG:Gj:=ar (aH (gf Bu (pC (·.vuq)) (pC (·.v0q)) (pC (·.v1q))))
def zF:Gj:=iL (aH (aD (uu true) (aR bW (ff (pC (·.v0q)) (pC (·.v1q)))) (aR (λg=>.ok g.S) (pC (·.vuq)))))
 sL
 bP
def zE:Gj:=ar (ut (λs=>some s.vuq.S) (λs y=>{s with vuq:={s.vuq with S:=y}}) (aR bW (ff (pC (·.v0q)) (pC (·.v1q)))))
def zD:Gj:=ar (ut (λs=>some s.vuq.S) (λs y=>{s with vuq:={s.vuq with S:=y}}) (aR bW (ff (pC (·.v1q)) (pC (·.v0q)))))
def F6:Gj:=ak zG
 (ak zF
 (ak zE
 zD))
def GB(a:GΩ)(c:Int)(b:Int):OutC S_d9 Unit:=a8 (some ()) (F6 ⟨a,c,b⟩)
theorem Tl:Cl.TJ Ct eN K3 F6:=aa (aj (af (ij (λ_=>rfl) (λc b a=>Fw c b a) xp xp xp)))
 (aa (bg (af (aB (ae (tS true) (bN aW (aJ xp xp)) (aC dN xp))))
 gX
 aQ)
 (aa (aj (qU (λ_=>rfl) (λ_ _=>rfl) (bN aW (aJ xp xp))))
 (aj (qU (λ_=>rfl) (λ_ _=>rfl) (bN aW (aJ xp xp))))))
theorem Lu(a:GΩ)(c:Int)(b:Int):SimO Ct eN (IS [ag a,D.int c,D.int b]) (GB a c b):=da (d:=()) rfl Tl rfl
structure S_h9 where
 vuq:GΩ
 vrq:(List Int)
 vCq:Option (Option Int)
def Cp:S_h9->X0:=λs=>[some (ag s.vuq),some ((eL D.int) s.vrq),s.vCq.map (eO D.int)]
abbrev Br:=S_h9->FlC S_h9 Int
def sy:Br:=ar (aH (bB Gz (pC (·.vuq)) (pC (·.vrq))))
def sx:Br:=a6 (λa s=>{s with vCq:=some a}) (aH (aD SV (aR (λg=>.ok g.wω) (pC (·.vuq))) (aR EW (pC (·.vrq)))))
def io:Br:=bp (aH (gf JH (pC (·.vuq)) (aD rh (pC (·.vrq)) (kC (0:Int))) (aD rh (pC (·.vrq)) (kC (1:Int)))))
def sv:Br:=iL (aH (aR (ET false Ds) (vC (·.vCq))))
 io
 bP
def ss:Br:=bp (λs=>xy ((aH (vC (·.vCq))) s) λa s=>bndO (wu a) s λb=>.ok b s)
def F2:Br:=ak sy
 (ak sx
 (ak sv
 ss))
def JG(a:GΩ)(b:List Int):OutC S_h9 Int:=a8 none (F2 ⟨a,b,none⟩)
theorem Th:Cl.TJ Cp D.int KZ F2:=aa (aj (af (bY (λ_=>rfl) (λb a=>Lr b a) xp xp)))
 (aa (xs (af (bT (EU (λ_=>rfl)) (Ji (aC lb xp) (aC Dl (kK (qC (λ_=>rfl)) xp))))))
 (aa (bg (af (aB (rE (yS (λ_=>rfl)) xv)))
 (aE (af (ij (λ_=>rfl) (λb a c=>TB b a c) xp (bT (λ_=>rfl) (ae mo xp xk)) (bT (λ_=>rfl) (ae mo xp xk)))))
 aQ)
 (aE (pF iO (af xv)))))
theorem Tz(a:GΩ)(b:List Int):SimO Cp D.int (Oo [ag a,(eL D.int) b]) (JG a b):=eM Th rfl
structure S_l9 where
 vuq:GΩ
 v0q:Int
 v1q:Int
def Ci:S_l9->X0:=λs=>[some (ag s.vuq),some (D.int s.v0q),some (D.int s.v1q)]
abbrev PR:=S_l9->FlC S_l9 Unit
def zn:PR:=ar (aH (gf Bu (pC (·.vuq)) (pC (·.v0q)) (pC (·.v1q))))
def zm:PR:=ik (λs=>some s.vuq.sω) (λs y=>{s with vuq:={s.vuq with sω:=y}}) (aR bW (ff (pC (·.v0q)) (pC (·.v1q)))) (aH (kC true))
def FX:PR:=ak zn
 zm
def Gy(a:GΩ)(c:Int)(b:Int):OutC S_l9 Unit:=a8 (some ()) (FX ⟨a,c,b⟩)
theorem Td:Cl.TJ Ci eN KS FX:=aa (aj (af (ij (λ_=>rfl) (λc b a=>Fw c b a) xp xp xp)))
 (dH (λ_=>rfl) (λ_ _=>rfl) (bN aW (aJ xp xp)) (af xk))
theorem Lq(a:GΩ)(c:Int)(b:Int):SimO Ci eN (IN [ag a,D.int c,D.int b]) (Gy a c b):=da (d:=()) rfl Td rfl
structure S_p9 where
 vuq:GΩ
 vrq:(List Int)
 vnq:Int
def Cf:S_p9->X0:=λs=>[some (ag s.vuq),some ((eL D.int) s.vrq),some (D.int s.vnq)]
abbrev PQ:=S_p9->FlC S_p9 Unit
def zj:PQ:=ar (aH (bB Gz (pC (·.vuq)) (pC (·.vrq))))
def zi:PQ:=ik (λs=>some s.vuq.wω) (λs y=>{s with vuq:={s.vuq with wω:=y}}) (aR EW (pC (·.vrq))) (aH (pC (·.vnq)))
def FT:PQ:=ak zj
 zi
def Gv(a:GΩ)(b:List Int)(c:Int):OutC S_p9 Unit:=a8 (some ()) (FT ⟨a,b,c⟩)
theorem S9:Cl.TJ Cf eN KM FT:=aa (aj (af (bY (λ_=>rfl) (λb a=>Lr b a) xp xp)))
 (dH (λ_=>rfl) (λ_ _=>rfl) (aC Dl (kK (qC (λ_=>rfl)) xp)) (af xp))
theorem Lp(a:GΩ)(b:List Int)(c:Int):SimO Cf eN (IK [ag a,(eL D.int) b,D.int c]) (Gv a b c):=da (d:=()) rfl S9 rfl
structure S_w9 where
 vuq:PostT
 v0q:Int
def B9:S_w9->X0:=λs=>[some (aG s.vuq),some (D.int s.v0q)]
abbrev TM:=S_w9->FlC S_w9 (List Int)
def zd:TM:=bp (aH (bB Bv (aR (λg=>.ok g.guild) (pC (·.vuq))) (pC (·.v0q))))
def FN:TM:=zd
def Gs(a:PostT)(b:Int):OutC S_w9 (List Int):=a8 none (FN ⟨a,b⟩)
theorem S3:Cl.TJ B9 (eL D.int) Kz FN:=aE (af (bY (λ_=>rfl) (λb a=>Fx b a) (aC bG xp) xp))
theorem Lm(a:PostT)(b:Int):SimO B9 (eL D.int) (IH [aG a,D.int b]) (Gs a b):=cw S3 rfl
structure S_bd9 where
 vuq:PostT
 vDq:Int
 voq:Option Int
def lX:S_bd9->X0:=λs=>[some (aG s.vuq),some (D.int s.vDq),s.voq.map D.int]
abbrev Gm:=S_bd9->FlC S_bd9 Unit
def jq:Gm:=ar (iR qr (λa s=>{s with vuq:=a.vuq}) (pC (·.vuq)) (pC (·.vDq)) (vC (·.voq)))
def u9:Gm:=dW (bB Bv (aR (λg=>.ok g.guild) (pC (·.vuq))) (pC (·.vDq))) (λa s=>{s with voq:=some a})
 jq
def xl:Gm:=u9
def qq(b:PostT)(a:Int):OutC S_bd9 Unit:=a8 (some ()) (xl ⟨b,a,none⟩)
theorem Pe:Cl.TJ lX eN D2 xl:=bZ (ft (bY (λ_=>rfl) (λb a=>Fx b a) (aC bG xp) xp)) (λ_ _=>rfl)
 (aj (cU (λ_=>rfl) (λ_ _=>rfl) (λb a c=>wT b a c) xp xp xv))
theorem FI(b:PostT)(a:Int):SimO lX eN (gM [aG b,D.int a]) (qq b a):=da (d:=()) rfl Pe rfl
def cK(t:GΩ)(n:Nat):PostT:=⟨t,(List.replicate n none).set 0 (some [0]),[],[],[],List.replicate n []⟩
noncomputable def fh(g:GΩ):Res PostT:=match Gx g with
 | .ok t _=>if 1<=g.hω/\g.hω<=60 then (match qq (cK t g.hω.toNat) 0 with
   |.ok _ s=>.ok s.vuq
   |.exc c _=>.exc c
   |.bad=>.bad) else .bad
 |.exc c _=>.exc c
 |.bad=>.bad
theorem Ak{n:Nat}:∀k,aI (λ_=>.ok true) (ay (.dK [] [])) [] ((List.range k).map λi:Nat=>D.int (n+i))=.ok (List.replicate k (.dK [] [])):=by
 intro k
 have a:∀l:List D,aI (λ_=>.ok true) (ay (.dK [] [])) [] l=.ok (List.replicate l.length (.dK [] [])):=by
  intro l
  induction l with
  |nil=>rfl
  |cons d l b=>rw[aI,b];rfl
 rw[a,Vr,Xp]
theorem eE(g:GΩ):SimR aG (fP 1 oY [ag g]) (fh g):=by
 have a:=Tu g;have hsz:mD [ag g]=.ok (.int g.hω) (wd ⟨g⟩):=Tv g;have j:aZ 0 "twin" (ag g)=true:=rfl;have b:aZ 0 "size" (ag g)=true:=rfl;unfold fh;cases q:Gx g with
 |bad=>trivial
 |exc c s=>
   rw[q]at a;have a:wG [ag g]=.exc c (qD s):=a;show fP 1 oY [ag g]=.exc c;unfold fP oY Mi.run;rw[t6];simp[ah,cc,aw,pm,vr,rg,ax,eU,a,j]
 |ok t s=>
   rw[q]at a;have a:wG [ag g]=.ok (ag t) (qD s):=a;dsimp only;by_cases C:1<=g.hω/\g.hω<=60
   · rw[Vo C];obtain⟨n,l⟩:∃n:Nat,g.hω=n:=⟨g.hω.toNat,by omega⟩;have K:1<=n:=by omega
     have J:n<=60:=by omega
     have A:1<=ac:=by decide +kernel
     have E:60<ac:=by decide +kernel
     have e1:cc 1 "guild" 0 (aw (pm 0 "twin" wG (vr 1) ax)) [some (.obj 1 [] []),some (ag g)]=.nx [some (.obj 1 ["guild"] [ag t]),some (ag g)]:=by
      simp[cc,aw,pm,vr,rg,ax,eU,a,j,k9,bX]
     have W:cc 1 "roads" 0 (aw (bn we (ke (ai (ay .non) ax)) (pm 0 "size" mD (vr 1) ax))) [some (.obj 1 ["guild"] [ag t]),some (ag g)]=.nx [some (.obj 1 ["guild","roads"] [ag t,.lst (List.replicate n .non)]),some (ag g)]:=by
      have I:we (.lst [.non]) (.int g.hω)=.ok (.lst (List.replicate n .non)):=by
       have this:=RS (e:=eN) [()] g.hω;rw[Cg (by omega) (by omega) (by rw[Wz];omega)]at this;have this:we (.lst [.non]) (.int g.hω)=.ok (eL eN _):=this;rw[this,l];show Res.ok (D.lst _)=Res.ok (D.lst _);rw[show(Int.toNat (n:Int))=n from rfl]
       have r:∀k:Nat,((List.replicate k [()]).flatten.map eN)=List.replicate k D.non:=λk=>by
        induction k with
        |zero=>rfl
        |succ k G=>rw[V8,Wp,V7,G];rfl
       rw[r]
      simp[cc,aw,pm,vr,rg,ax,ai,ke,bn,ay,eU,hsz,b,I,k9,bX,A];decide
     have V:lg (dY 1 "roads" 0) (dE "roads" 0) (ay (.int 0)) (aw (ke (ai (ay (.int 0)) ax))) [some (.obj 1 ["guild","roads"] [ag t,.lst (List.replicate n .non)]),some (ag g)]=.nx [some (.obj 1 ["guild","roads"] [ag t,.lst ((List.replicate n .non).set 0 (.lst [.int 0]))]),some (ag g)]:=by
      have hi:mN n 0=some 0:=by unfold mN;simp;omega
      have v:¬ (Str.ofString "guild" = Str.ofString "roads"):=by decide
      simp[lg,dY,dE,yM,aw,rg,ax,ai,ke,ay,A,aT,c7,v,hi]
     have z:∀(ns:List Str) (vs:List D) (f:Str),ns.length<900->bX ns f=false->cc 1 f 0 (aw (ay (.dT [] []))) [some (.obj 1 ns vs),some (ag g)]=.nx [some (.obj 1 (ns++[f]) (vs++[.dT [] []])),some (ag g)]:=by
      intro ns vs f y w;simp only[cc,aw,ay,Res.up,fG,rg,k9];simp[y,w]
     have U:∀(ns:List Str) (vs:List D) (f:Str),ns.length<900->bX ns f=false->cc 1 f 0 (aw (fc (cZ (pm 0 "size" mD (vr 1) ax)) [] (λ_=>.ok true) (ay (.dK [] [])))) [some (.obj 1 ns vs),some (ag g)]=.nx [some (.obj 1 (ns++[f]) (vs++[.lst (List.replicate n (.dK [] []))])),some (ag g)]:=by
      intro ns vs f y w
      have M:fc (cZ (pm 0 "size" mD (vr 1) ax)) [] (λ_=>.ok true) (ay (.dK [] [])) [some (.obj 1 ns vs),some (ag g)]=.ok (.lst (List.replicate n (.dK [] []))):=by
       have H:cZ (pm 0 "size" mD (vr 1) ax) [some (.obj 1 ns vs),some (ag g)]=.ok (rng 0 n):=by
        simp[cZ,vX,pm,vr,rg,ax,eU,hsz,b,ay,l];omega
       unfold fc;rw[H];have L:(rng 0 (n:Int)).length=n:=by unfold rng;simp
       show(if (rng 0 (n:Int)).length<ac then (aI _ _ [] (rng 0 (n:Int))).bind λys=>Res.ok (D.lst ys) else .bad)=_;rw[L,Vo (by omega)]
       have:=Ak (n:=0) n
       unfold rng;rw[show((n:Int)-0).toNat=n by omega];have e0:((List.range n).map λi:Nat=>D.int ((0:Int)+i))=(List.range n).map λi:Nat=>D.int (((0:Nat):Int)+i):=rfl;rw[e0,this];rfl
      simp only[cc,aw,M,Res.up,fG,rg,k9];simp[y,w]
     have N:aG (cK t n)=.obj 1 ["guild","roads","told_last","written_last","letters","standings"] [ag t,.lst ((List.replicate n .non).set 0 (.lst [.int 0])),.dT [] [],.dT [] [],.dT [] [],.lst (List.replicate n (.dK [] []))]:=by
      show D.obj 1 _ [ag t,.lst (((List.replicate n none).set 0 (some [0])).map (eO (eL D.int))),.dT [] [],.dT [] [],.dT [] [],.lst ((List.replicate n []).map (kG eK))]=_;rw[Y6,List.map_replicate,List.map_replicate];rfl
     have m:=FI (cK t n) 0;have p:aZ 1 "write_to_all" (aG (cK t n))=true:=rfl
     have P:∀o x:D,aZ 1 "write_to_all" o=true->au (mm 1 "write_to_all" [(.O 0),.F] gM (vr 0) (ai (ay (.int 0)) ax)) [some o,some x]=(match gM [o,.int 0] with | .ok d T=>.nx (cf [(.O 0),.F] 0 T [some o,some x]) | .exc c T=>.exc c (cf [(.O 0),.F] 0 T [some o,some x]) | .bad=>.bad):=by
      intro o x h;simp[au,mm,vr,rg,ai,ax,ay,h,bQ];cases gM [o,.int 0]<;>rfl
     have S:fP 1 oY [ag g]=(match gM [aG (cK t n),.int 0] with | .ok d T=>(match rg (cf [(.O 0),.F] 0 T [some (aG (cK t n)),some (ag g)]) 0 with|some d=>.ok d|none=>.bad) | .exc c _=>.exc c | .bad=>.bad):=by
      unfold fP oY Mi.run;rw[t6];have R:([D.obj 1 [] [],ag g].map some++List.replicate (2-[D.obj 1 [] [],ag g].length) none)=[some (.obj 1 [] []),some (ag g)]:=rfl;rw[R];simp only[ah,e1,W,V];rw[z _ _ _ (by decide) (by decide)];dsimp only;rw[z _ _ _ (by decide) (by decide)];dsimp only;rw[z _ _ _ (by decide) (by decide)];dsimp only;rw[U _ _ _ (by decide) (by decide)];have Q:(D.obj 1 (((((["guild","roads"]:List Str)++[("told_last" : Str)])++[("written_last" : Str)])++[("letters" : Str)])++[("standings" : Str)]) (((([ag t,D.lst ((List.replicate n .non).set 0 (.lst [.int 0]))]++[.dT [] []])++[.dT [] []])++[.dT [] []])++[.lst (List.replicate n (.dK [] []))]))=aG (cK t n):=N.symm;dsimp only;rw[Q];rw[P _ _ p];cases gM [aG (cK t n),.int 0] with
      |ok d T=>rfl
      |exc c T=>rfl
      |bad=>rfl
     rw[S,show g.hω.toNat=n by omega];cases B:qq (cK t n) 0 with
     |bad=>trivial
     |exc c s=>
       rw[B]at m;rw[show gM [aG (cK t n),.int 0]=_ from m];exact rfl
     |ok u s=>
       rw[B]at m;rw[show gM [aG (cK t n),.int 0]=_ from m];exact rfl
   ·rw[on C];trivial
structure S_s9 where
 vuq:PostT
 v9q:Int
 vrq:Option (Option (List Int))
def Cd:S_s9->X0:=λs=>[some (aG s.vuq),some (D.int s.v9q),s.vrq.map (eO (eL D.int))]
abbrev xB:=S_s9->FlC S_s9 Bool
def r6:xB:=a6 (λa s=>{s with vrq:=some a}) (aH (bB z5 (pC (·.v9q)) (aR JJ (vC (gI (λs=>some s.vuq.standings) (λs=>some s.v9q))))))
def lG:xB:=bp (aH (kC false))
def r0:xB:=iL (aH (aD (oR false) (vC (·.vrq)) (aD rh (aR (λg=>.ok g.roads) (pC (·.vuq))) (pC (·.v9q)))))
 lG
 bP
def zg:xB:=K7 (λs=>some s.vuq.roads) (λs y=>{s with vuq:={s.vuq with roads:=y}}) (pC (·.v9q)) (aH (vC (·.vrq)))
def zf:xB:=ar (DG qq (λa s=>{s with vuq:=a.vuq}) (pC (·.vuq)) (pC (·.v9q)))
def ze:xB:=bp (aH (kC true))
def FR:xB:=ak r6
 (ak r0
 (ak zg
 (ak zf
 ze)))
def Bt(b:PostT)(a:Int):OutC S_s9 Bool:=a8 none (FR ⟨b,a,none⟩)
theorem S7:Cl.TJ Cd D.bl KF FR:=aa (xs (af (br (λb a=>Pt b a) xp (aC NC (OP (Uk (λ_=>rfl) (mM (λ_=>rfl))))))))
 (aa (bg (af (aB (ae (tR (i3 (cI bw) (cP _)) (by decide) false) xv (ae mo (aC dM xp) xp))))
 (aE (af xk))
 aQ)
 (aa (GQ (λ_=>rfl) (λ_ _=>rfl) xp (af xv))
 (aa (aj (qT (λ_=>rfl) (λ_ _=>rfl) (λb a=>FI b a) xp xp))
 (aE (af xk)))))
theorem Fv(b:PostT)(a:Int):SimO Cd D.bl (D9 [aG b,D.int a]) (Bt b a):=eM S7 rfl
structure S_x9 where
 vuq:PostT
 v0q:Int
 v1q:Int
def B8:S_x9->X0:=λs=>[some (aG s.vuq),some (D.int s.v0q),some (D.int s.v1q)]
abbrev Jy:=S_x9->FlC S_x9 Unit
def rM:Jy:=ar (Uh (λs=>some s.vuq.guild) (λs y=>{s with vuq:={s.vuq with guild:=y}}) (λs=>s.vuq) (Mw (λb a=>.ok (b,a)) (pC (·.v0q)) (pC (·.v1q))) (λo r=>Bw o r.1 r.2))
def rL:Jy:=ar (iR qr (λa s=>{s with vuq:=a.vuq}) (pC (·.vuq)) (aD t4 (pC (·.v0q)) (pC (·.v1q))) (aD t7 (pC (·.v0q)) (pC (·.v1q))))
def rK:Jy:=ar (iR qr (λa s=>{s with vuq:=a.vuq}) (pC (·.vuq)) (aD t7 (pC (·.v0q)) (pC (·.v1q))) (aD t4 (pC (·.v0q)) (pC (·.v1q))))
def FM:Jy:=ak rM
 (ak rL
 rK)
def JB(a:PostT)(c:Int)(b:Int):OutC S_x9 Unit:=a8 (some ()) (FM ⟨a,c,b⟩)
theorem S0:Cl.TJ B8 eN Ky FM:=aa (aj (Ko (λ_=>rfl) (λ_ _=>rfl) (λ_=>rfl) (QW (eR:=(λ(r:Int×Int)=>[D.int r.1,D.int r.2])) (k:=.ok) (f:=λe d=>.ok (e,d)) (e0:=D.int) (e1:=D.int) (λ_ _=>rfl) xp xp) (λo r=>Fy o r.1 r.2) (λ_=>rfl)))
 (aa (aj (cU (λ_=>rfl) (λ_ _=>rfl) (λc b a=>wT c b a) xp (ae pD xp xp) (ae pE xp xp)))
 (aj (cU (λ_=>rfl) (λ_ _=>rfl) (λc b a=>wT c b a) xp (ae pE xp xp) (ae pD xp xp))))
theorem Tq(a:PostT)(c:Int)(b:Int):SimO B8 eN (Of [aG a,D.int c,D.int b]) (JB a c b):=da (d:=()) rfl S0 rfl
structure S_bl9 where
 vwq:Int
 vBq:Tp
 v6q:(DI Int)
 v5q:(DI Int)
 vvq:Tp
 v7q:Option GΩ
 v0q:Option Int
 v1q:Option Int
 vjq:Option (List Int)
 vcq:Option (List Int)
def yh:S_bl9->X0:=λs=>[some (D.int s.vwq),some ((eL (jw D.int D.int)) s.vBq),some ((aS D.int) s.v6q),some ((aS D.int) s.v5q),some ((eL (jw D.int D.int)) s.vvq),s.v7q.map ag,s.v0q.map D.int,s.v1q.map D.int,s.vjq.map (o0 D.int),s.vcq.map (o0 D.int)]
abbrev iF:=S_bl9->FlC S_bl9 GΩ
def nH:iF:=a6 (λa s=>{s with v7q:=some a}) (aH (wo fN (pC (·.vwq))))
def jp:iF:=ar (iR Bw (λa s=>{s with v7q:=some a.vuq}) (vC (·.v7q)) (vC (·.v0q)) (vC (·.v1q)))
def uW:iF:=dW (pC (·.vBq)) (λa s=>{s with v0q:=some a.1,v1q:=some a.2})
 jp
def jo:iF:=ar (wA GA (λa s=>{s with v7q:=some a.vuq}) (vC (·.v7q)) (aD rh (vC (·.vjq)) (kC (0:Int))) (aD rh (vC (·.vjq)) (kC (1:Int))) (aD Qn (pC (·.v6q)) (vC (·.vjq))))
def uV:iF:=dW (aR pR (pC (·.v6q))) (λa s=>{s with vjq:=some a})
 jo
def jn:iF:=ar (iR Gv (λa s=>{s with v7q:=some a.vuq}) (vC (·.v7q)) (aR EW (vC (·.vcq))) (aD Qn (pC (·.v5q)) (vC (·.vcq))))
def uU:iF:=dW (aR pR (pC (·.v5q))) (λa s=>{s with vcq:=some a})
 jn
def jm:iF:=ar (iR Gy (λa s=>{s with v7q:=some a.vuq}) (vC (·.v7q)) (vC (·.v0q)) (vC (·.v1q)))
def uT:iF:=dW (pC (·.vvq)) (λa s=>{s with v0q:=some a.1,v1q:=some a.2})
 jm
def uS:iF:=bp (Dw (λs=>s.v7q) (λs=>{s with v7q:=none}))
def xb:iF:=ak nH
 (ak uW
 (ak uV
 (ak uU
 (ak uT
 uS))))
def vG(b:Int)(a:Tp)(c:DI Int)(d:DI Int)(e:Tp):OutC S_bl9 GΩ:=a8 none (xb ⟨b,a,c,d,e,none,none,none,none,none⟩)
theorem O6:Cl.TJ yh ag DU xb:=aa (xs (af (kJ iZ xp)))
 (aa (bZ (ft xp) (λ_ _=>rfl)
 (aj (cU (λ_=>rfl) (λ_ _=>rfl) (λc b a=>Fy c b a) xv (bT (λ_=>rfl) xv) (bT (λ_=>rfl) xv))))
 (aa (bZ (ft (aC Dp xp)) (λ_ _=>rfl)
 (aj (Du (λ_=>rfl) (λ_ _=>rfl) (λc b a d=>Ls c b a d) xv (bT (λ_=>rfl) (ae qR xv xk)) (bT (λ_=>rfl) (ae qR xv xk)) (bT (λ_=>rfl) (ae wx xp xv)))))
 (aa (bZ (ft (aC Dp xp)) (λ_ _=>rfl)
 (aj (cU (λ_=>rfl) (λ_ _=>rfl) (λc b a=>Lp c b a) xv (aC Im (kK (He (λ_=>rfl)) xv)) (bT (λ_=>rfl) (ae wx xp xv)))))
 (aa (bZ (ft xp) (λ_ _=>rfl)
 (aj (cU (λ_=>rfl) (λ_ _=>rfl) (λc b a=>Lq c b a) xv (bT (λ_=>rfl) xv) (bT (λ_=>rfl) xv))))
 (aE (jE (λ_=>rfl) (λ_=>rfl)))))))
theorem FD(b:Int)(a:Tp)(c:DI Int)(d:DI Int)(e:Tp):SimO yh ag (yH [D.int b,(eL (jw D.int D.int)) a,(aS D.int) c,(aS D.int) d,(eL (jw D.int D.int)) e]) (vG b a c d e):=cw O6 rfl
structure S_bm9 where
 vmq:PostT
 vwq:Int
 vzq:Option (List (Option (List Int)))
 vrq:Option (Option (List Int))
 veq:Option (List (Int×Int×(Option (List Int))))
 vhq:Option (Int×Int×(Option (List Int)))
 v0q:Option Int
def jB:S_bm9->X0:=λs=>[some (aG s.vmq),some (D.int s.vwq),s.vzq.map (eL (eO (eL D.int))),s.vrq.map (eO (eL D.int)),s.veq.map (eL (lw D.int D.int (eO (eL D.int)))),s.vhq.map (lw D.int D.int (eO (eL D.int))),s.v0q.map D.int]
abbrev oI:=S_bm9->FlC S_bm9 Unit
def nG:oI:=Qf (λs=>pY (jB s) 2 3) NB (iP Gq (pC (·.vmq)))
def nF:oI:=Qf (λs=>pY (jB s) 4 5) NA (iP oP (pC (·.vmq)))
def jk:oI:=ar (LI (bB Gs (pC (·.vmq)) (vC (·.v0q))) (vC (·.v0q)))
def nD:oI:=Ui (λs=>ie (jB s) (some 3)) (bB Gr (pC (·.vmq)) (vC (·.v0q))) (gf oQ (pC (·.vmq)) (kC (0:Int)) (vC (·.v0q)))
def ox:oI:=ak jk
 nD
def nE:oI:=dW (aR (fb 0) (pC (·.vwq))) (λa s=>{s with v0q:=some a})
 ox
def xa:oI:=ak nG
 (ak nF
 nE)
def z0(b:PostT)(a:Int):OutC S_bm9 Unit:=a8 (some ()) (xa ⟨b,a,none,none,none,none,none⟩)
theorem O5:Cl.TJ jB eN DT xa:=aa (JL qO (λ_=>rfl) (kH (λ_=>rfl) (λa=>Lk a) xp))
 (aa (JL Ik (λ_=>rfl) (kH (λ_=>rfl) (λa=>sE a) xp))
 (bZ (dO xp) (λ_ _=>rfl)
 (aa (aj (NI (bY (λ_=>rfl) (λa b=>Lm a b) xp xv) xv))
 (Qu (λ_=>rfl) (bY (λ_=>rfl) (λa b=>Ll a b) xp xv) (ij (λ_=>rfl) (λa b c=>FJ a b c) xp xk xv)))))
theorem Pr(b:PostT)(a:Int):SimO jB eN (Em [aG b,D.int a]) (z0 b a):=da (d:=()) rfl O5 rfl
structure S_bp9 where
 vmq:PostT
 vwq:Int
 v8q:Option (List ((Option (List Int))×(List Int)×(List (Option (List Int)))))
 v0q:Option Int
def yf:S_bp9->X0:=λs=>[some (aG s.vmq),some (D.int s.vwq),s.v8q.map (eL (Lh (eO (eL D.int)) (eL D.int) (eL (eO (eL D.int))))),s.v0q.map D.int]
abbrev vB:=S_bp9->FlC S_bp9 ((List (Option (List Int)))×(List (Int×Int×(Option (List Int))))×(List ((Option (List Int))×(List Int)×(List (Option (List Int))))))
def nj:vB:=a6 (λa s=>{s with v8q:=some a}) (aH (vK (iQ:_->Res (List ((Option (List Int))×(List Int)×(List (Option (List Int))))))))
def jj:vB:=ar (GI (λs=>s.v8q) (λs y=>{s with v8q:=some y}) lU (ff (bB Gr (pC (·.vmq)) (vC (·.v0q))) (ff (bB Gs (pC (·.vmq)) (vC (·.v0q))) (d9 (aR (fb 0) (pC (·.vwq))) (λ_=>.ok true) (gf oQ (pC λp=>p.2.vmq) (pC λp=>p.1) (vC λp=>p.2.v0q))))))
def ni:vB:=dW (aR (fb 0) (pC (·.vwq))) (λa s=>{s with v0q:=some a})
 jj
def uO:vB:=bp (Qt (aH (iP Gq (pC (·.vmq)))) (aH (iP oP (pC (·.vmq)))) (Dw (λs=>s.v8q) (λs=>{s with v8q:=none})))
def w6:vB:=ak nj
 (ak ni
 uO)
def oO(b:PostT)(a:Int):OutC S_bp9 ((List (Option (List Int)))×(List (Int×Int×(Option (List Int))))×(List ((Option (List Int))×(List Int)×(List (Option (List Int)))))):=a8 none (w6 ⟨b,a,none,none⟩)
theorem O2:Cl.TJ yf (lw (eL (eO (eL D.int))) (eL (lw D.int D.int (eO (eL D.int)))) (eL (Lh (eO (eL D.int)) (eL D.int) (eL (eO (eL D.int)))))) DQ w6:=aa (xs (af (cW cV)))
 (aa (bZ (dO xp) (λ_ _=>rfl)
 (aj (lc (λ_=>rfl) (λ_ _=>rfl) p5 (Jg (bY (λ_=>rfl) (λa b=>Ll a b) xp xv) (bY (λ_=>rfl) (λa b=>Lm a b) xp xv) (gu (dO xp) rB (ij (λ_=>rfl) (λa b c=>FJ a b c) xp xp xv))))))
 (aE (RX (af (kH (λ_=>rfl) (λa=>Lk a) xp)) (af (kH (λ_=>rfl) (λa=>sE a) xp)) (jE (λ_=>rfl) (λ_=>rfl)))))
theorem sC(b:PostT)(a:Int):SimO yf (lw (eL (eO (eL D.int))) (eL (lw D.int D.int (eO (eL D.int)))) (eL (Lh (eO (eL D.int)) (eL D.int) (eL (eO (eL D.int)))))) (pH [aG b,D.int a]) (oO b a):=eM O2 rfl
structure S_bs9 where
 v7q:GΩ
 vBq:Tp
 vwq:Int
 v3q:Int
 v0q:Option Int
 v1q:Option Int
 vjq:Option (Int×Int)
def yc:S_bs9->X0:=λs=>[some (ag s.v7q),some ((eL (jw D.int D.int)) s.vBq),some (D.int s.vwq),some (D.int s.v3q),s.v0q.map D.int,s.v1q.map D.int,s.vjq.map (jw D.int D.int)]
abbrev eV:=S_bs9->FlC S_bs9 Unit
def nc:eV:=a6 (λa s=>{s with v0q:=some a}) (aH (aD b9 (aD du (pC (·.v3q)) (kC (4:Int))) (pC (·.vwq))))
def na:eV:=a6 (λa s=>{s with v1q:=some a}) (aH (aD b9 (aD j9 (aD j9 (vC (·.v0q)) (kC (1:Int))) (aD b9 (aD du (aD du (pC (·.v3q)) (kC (4:Int))) (pC (·.vwq))) (aD sZ (pC (·.vwq)) (kC (1:Int))))) (pC (·.vwq))))
def m9:eV:=a6 (λa s=>{s with vjq:=some a}) (aH (ff (aD t4 (vC (·.v0q)) (vC (·.v1q))) (aD t7 (vC (·.v0q)) (vC (·.v1q)))))
def jT:eV:=ar (iR GB (λa s=>{s with v7q:=a.vuq}) (pC (·.v7q)) (vC (·.v0q)) (vC (·.v1q)))
def jS:eV:=ar (GI (λs=>some s.vBq) (λs y=>{s with vBq:=y}) tG (vC (·.vjq)))
def fX:eV:=ar (iR Bw (λa s=>{s with v7q:=a.vuq}) (pC (·.v7q)) (vC (·.v0q)) (vC (·.v1q)))
def fW:eV:=ar (GI (λs=>some s.vBq) (λs y=>{s with vBq:=y}) lU (vC (·.vjq)))
def d4:eV:=ar (wA GA (λa s=>{s with v7q:=a.vuq}) (pC (·.v7q)) (vC (·.v0q)) (vC (·.v1q)) (aD sZ (aD b9 (pC (·.v3q)) (kC (9:Int))) (kC (4:Int))))
def cQ:eV:=ar (iR Gv (λa s=>{s with v7q:=a.vuq}) (pC (·.v7q)) (vK (di (aR Qy (vC (·.vjq))) (di (kC (0:Int)) (iQ:_->Res (List Int))))) (aD b9 (pC (·.v3q)) (kC (7:Int))))
def cR:eV:=ar (iR Gy (λa s=>{s with v7q:=a.vuq}) (pC (·.v7q)) (vC (·.v0q)) (vC (·.v1q)))
def cy:eV:=iL (aH (aD (oR false) (aD b9 (pC (·.v3q)) (kC (4:Int))) (kC (2:Int))))
 cQ
 cR
def cF:eV:=iL (aH (aD (oR false) (aD b9 (pC (·.v3q)) (kC (4:Int))) (kC (1:Int))))
 d4
 cy
def dh:eV:=iL (aH (aD (oR false) (aD b9 (pC (·.v3q)) (kC (4:Int))) (kC (0:Int))))
 (ak fX
 fW)
 cF
def fY:eV:=iL (aH (Gb (aD (oR false) (aD b9 (pC (·.v3q)) (kC (4:Int))) (kC (0:Int))) (aD (La false) (vC (·.vjq)) (pC (·.vBq)))))
 (ak jT
 jS)
 dh
def wY:eV:=ak nc
 (ak na
 (ak m9
 fY))
def zX(a:GΩ)(b:Tp)(c:Int)(d:Int):OutC S_bs9 Unit:=a8 (some ()) (wY ⟨a,b,c,d,none,none,none⟩)
theorem OZ:Cl.TJ yc eN DN wY:=aa (xs (af (ae ba (ae cj xp xk) xp)))
 (aa (xs (af (ae ba (ae gL (ae gL xv xk) (ae ba (ae cj (ae cj xp xk) xp) (ae ml xp xk))) xp)))
 (aa (xs (af (aJ (ae pD xv xv) (ae pE xv xv))))
 (bg (af (rG (aB (ae (fg false) (ae ba xp xk) xk)) (aB (ae (yy (kL bw bw) (by decide)) xv xp))))
 (aa (aj (cU (λ_=>rfl) (λ_ _=>rfl) (λc b a=>Lu c b a) xp xv xv))
 (aj (lc (λ_=>rfl) (λ_ _=>rfl) (Le (kL bw bw) (by decide)) xv)))
 (bg (af (aB (ae (fg false) (ae ba xp xk) xk)))
 (aa (aj (cU (λ_=>rfl) (λ_ _=>rfl) (λc b a=>Fy c b a) xp xv xv))
 (aj (lc (λ_=>rfl) (λ_ _=>rfl) p5 xv)))
 (bg (af (aB (ae (fg false) (ae ba xp xk) xk)))
 (aj (Du (λ_=>rfl) (λ_ _=>rfl) (λc b a d=>Ls c b a d) xp xv xv (ae ml (ae ba xp xk) xk)))
 (bg (af (aB (ae (fg false) (ae ba xp xk) xk)))
 (aj (cU (λ_=>rfl) (λ_ _=>rfl) (λc b a=>Lp c b a) xp (cW (bv (uq UX xv) (bv xk cV))) (ae ba xp xk)))
 (aj (cU (λ_=>rfl) (λ_ _=>rfl) (λc b a=>Lq c b a) xp xv xv))))))))
theorem Pn(a:GΩ)(b:Tp)(c:Int)(e:Int):SimO yc eN (Ej [ag a,(eL (jw D.int D.int)) b,D.int c,D.int e]) (zX a b c e):=da (d:=()) rfl OZ rfl
structure S_bw9 where
 v7q:GΩ
 vrq:(List Int)
def x8:S_bw9->X0:=λs=>[some (ag s.v7q),some ((eL D.int) s.vrq)]
abbrev Ly:=S_bw9->FlC S_bw9 (Int×Int×(List Int))
def uD:Ly:=bp (aH (ff (aR NL (bB JG (pC (·.v7q)) (pC (·.vrq)))) (ff (aR ko (pC (·.vrq))) (pC (·.vrq)))))
def wU:Ly:=uD
def zU(a:GΩ)(b:List Int):OutC S_bw9 (Int×Int×(List Int)):=a8 none (wU ⟨a,b⟩)
theorem OV:Cl.TJ x8 (lw D.int D.int (eL D.int)) DH wU:=aE (af (y0 (aC Km (bY (λ_=>rfl) (λb a=>Tz b a) xp xp)) (aC gg xp) xp))
theorem Pj(a:GΩ)(b:List Int):SimO x8 (lw D.int D.int (eL D.int)) (Ef [ag a,(eL D.int) b]) (zU a b):=eM OV rfl
structure S_t9 where
 vuq:PostT
 v0q:Int
 v1q:Int
def Cc:S_t9->X0:=λs=>[some (aG s.vuq),some (D.int s.v0q),some (D.int s.v1q)]
abbrev Bq:=S_t9->FlC S_t9 Unit
def rZ:Bq:=ar (Uh (λs=>some s.vuq.guild) (λs y=>{s with vuq:={s.vuq with guild:=y}}) (λs=>s.vuq) (Mw (λb a=>.ok (b,a)) (pC (·.v0q)) (pC (·.v1q))) (λo r=>GB o r.1 r.2))
def rY:Bq:=ar (iR Gu (λa s=>{s with vuq:=a.vuq}) (pC (·.vuq)) (pC (·.v0q)) (pC (·.v1q)))
def rX:Bq:=ar (iR Gu (λa s=>{s with vuq:=a.vuq}) (pC (·.vuq)) (pC (·.v1q)) (pC (·.v0q)))
def rW:Bq:=ar (DG Bt (λa s=>{s with vuq:=a.vuq}) (pC (·.vuq)) (aD t4 (pC (·.v0q)) (pC (·.v1q))))
def rV:Bq:=ar (DG Bt (λa s=>{s with vuq:=a.vuq}) (pC (·.vuq)) (aD t7 (pC (·.v0q)) (pC (·.v1q))))
def FQ:Bq:=ak rZ
 (ak rY
 (ak rX
 (ak rW
 rV)))
def JD(a:PostT)(c:Int)(b:Int):OutC S_t9 Unit:=a8 (some ()) (FQ ⟨a,c,b⟩)
theorem S6:Cl.TJ Cc eN KE FQ:=aa (aj (Ko (λ_=>rfl) (λ_ _=>rfl) (λ_=>rfl) (QW (eR:=(λ(r:Int×Int)=>[D.int r.1,D.int r.2])) (k:=.ok) (f:=λe d=>.ok (e,d)) (e0:=D.int) (e1:=D.int) (λ_ _=>rfl) xp xp) (λo r=>Lu o r.1 r.2) (λ_=>rfl)))
 (aa (aj (cU (λ_=>rfl) (λ_ _=>rfl) (λb a c=>Ln b a c) xp xp xp))
 (aa (aj (cU (λ_=>rfl) (λ_ _=>rfl) (λb a c=>Ln b a c) xp xp xp))
 (aa (aj (qT (λ_=>rfl) (λ_ _=>rfl) (λb a=>Fv b a) xp (ae pD xp xp)))
 (aj (qT (λ_=>rfl) (λ_ _=>rfl) (λb a=>Fv b a) xp (ae pE xp xp))))))
theorem Ts(a:PostT)(c:Int)(b:Int):SimO Cc eN (Oj [aG a,D.int c,D.int b]) (JD a c b):=da (d:=()) rfl S6 rfl
structure S_v9 where
 vuq:PostT
 vDq:Int
 voq:Int
 vrq:(Option (List Int))
def Ca:S_v9->X0:=λs=>[some (aG s.vuq),some (D.int s.vDq),some (D.int s.voq),some ((eO (eL D.int)) s.vrq)]
abbrev Ge:=S_v9->FlC S_v9 Unit
def rO:Ge:=ik (λs=>some s.vuq.told_last) (λs y=>{s with vuq:={s.vuq with told_last:=y}}) (aR bW (ff (pC (·.vDq)) (pC (·.voq)))) (aH (pC (·.vrq)))
def lE:Ge:=K9 (gI (λs=>some s.vuq.standings) (λs=>some s.voq)) (pI (λs=>some s.vuq.standings) (λs y=>{s with vuq:={s.vuq with standings:=y}}) (λs=>some s.voq)) (pC (·.vDq)) (aH (bB zU (aR (λg=>.ok g.guild) (pC (·.vuq))) (aD xq (vK (di (pC (·.voq)) (iQ:_->Res (List Int)))) (aR wu (pC (·.vrq))))))
def lF:Ge:=ar (pV (gI (λs=>some s.vuq.standings) (λs=>some s.voq)) (pI (λs=>some s.vuq.standings) (λs y=>{s with vuq:={s.vuq with standings:=y}}) (λs=>some s.voq)) (pC (·.vDq)))
def rN:Ge:=iL (aH (gf vF (aR (λg=>.ok g.guild) (pC (·.vuq))) (pC (·.voq)) (pC (·.vrq))))
 lE
 lF
def FO:Ge:=ak rO
 rN
def JC(c:PostT)(b:Int)(a:Int)(d:Option (List Int)):OutC S_v9 Unit:=a8 (some ()) (FO ⟨c,b,a,d⟩)
theorem S4:Cl.TJ Ca eN KA FO:=aa (dH (λ_=>rfl) (λ_ _=>rfl) (bN aW (aJ xp xp)) (af xp))
 (bg (af (aB (mY (λb a c=>Pl b a c) (aC bG xp) xp xp)))
 (GR (Uk (λ_=>rfl) (mM (λ_=>rfl))) (Va (λ_=>rfl) (λ_ _=>rfl) (mM (λ_=>rfl))) xp (af (br (λb a=>Pj b a) (aC bG xp) (ae Kn (cW (bv xp cV)) (bN iO xp)))))
 (aj (yz (Uk (λ_=>rfl) (mM (λ_=>rfl))) (Va (λ_=>rfl) (λ_ _=>rfl) (mM (λ_=>rfl))) xp)))
theorem Tr(c:PostT)(b:Int)(a:Int)(e:Option (List Int)):SimO Ca eN (Og [aG c,D.int b,D.int a,(eO (eL D.int)) e]) (JC c b a e):=da (d:=()) rfl S4 rfl
structure S_r9 where
 vuq:PostT
 v0q:Int
 v1q:Int
def Ce:S_r9->X0:=λs=>[some (aG s.vuq),some (D.int s.v0q),some (D.int s.v1q)]
abbrev Gg:=S_r9->FlC S_r9 Bool
def sf:Gg:=ar (aH (bB oN (aR (λg=>.ok g.guild) (pC (·.vuq))) (vK (di (pC (·.v0q)) (di (pC (·.v1q)) (iQ:_->Res (List Int)))))))
def r9:Gg:=iL (aH (aD (uu true) (aR bW (ff (pC (·.v0q)) (pC (·.v1q)))) (aR (λg=>.ok g.letters) (pC (·.vuq)))))
 sL
 bP
def r8:Gg:=ar (UZ JC (λa s=>{s with vuq:=a.vuq}) (λs=>some s.vuq) (pC (·.v0q)) (pC (·.v1q)) (ut (λs=>some s.vuq.letters) (λs y=>{s with vuq:={s.vuq with letters:=y}}) (aR bW (ff (pC (·.v0q)) (pC (·.v1q))))))
def zh:Gg:=bp (DG Bt (λa s=>{s with vuq:=a.vuq}) (pC (·.vuq)) (pC (·.v1q)))
def FS:Gg:=ak sf
 (ak r9
 (ak r8
 zh))
def JE(a:PostT)(c:Int)(b:Int):OutC S_r9 Bool:=a8 none (FS ⟨a,c,b⟩)
theorem S8:Cl.TJ Ce D.bl KH FS:=aa (aj (af (bY (λ_=>rfl) (λb a=>lK b a) (aC bG xp) (cW (bv xp (bv xp cV))))))
 (aa (bg (af (aB (ae (tS true) (bN aW (aJ xp xp)) (aC d5 xp))))
 gX
 aQ)
 (aa (aj (RY (λ_=>rfl) (λ_ _=>rfl) (λ_=>rfl) (λb a d c=>Tr b a d c) xp xp (qU (λ_=>rfl) (λ_ _=>rfl) (bN aW (aJ xp xp)))))
 (aE (qT (λ_=>rfl) (λ_ _=>rfl) (λb a=>Fv b a) xp xp))))
theorem Tt(a:PostT)(c:Int)(b:Int):SimO Ce D.bl (Ol [aG a,D.int c,D.int b]) (JE a c b):=eM S8 rfl
structure S_bn9 where
 vsq:(List Int)
 vwq:Int
 vBq:Tp
 v6q:Option (DI Int)
 v5q:Option (DI Int)
 vvq:Option Tp
def yg:S_bn9->X0:=λs=>[some (eS s.vsq),some (D.int s.vwq),some ((eL (jw D.int D.int)) s.vBq),s.v6q.map (aS D.int),s.v5q.map (aS D.int),s.vvq.map (eL (jw D.int D.int))]
abbrev vD:=S_bn9->FlC S_bn9 PostT
def nC:vD:=a6 (λa s=>{s with v6q:=some a}) (aH (bB vH (bB gS (pC (·.vsq)) (kC (2:Int))) (pC (·.vwq))))
def nB:vD:=a6 (λa s=>{s with v5q:=some a}) (aH (bB qp (bB gS (pC (·.vsq)) (kC (3:Int))) (pC (·.vwq))))
def nA:vD:=a6 (λa s=>{s with vvq:=some a}) (aH (bB qo (bB gS (pC (·.vsq)) (kC (4:Int))) (pC (·.vwq))))
def uR:vD:=bp (aH (wo fh (MP vG (pC (·.vwq)) (pC (·.vBq)) (vC (·.v6q)) (vC (·.v5q)) (vC (·.vvq)))))
def w9:vD:=ak nC
 (ak nB
 (ak nA
 uR))
def zZ(a:List Int)(c:Int)(b:Tp):OutC S_bn9 PostT:=a8 none (w9 ⟨a,c,b,none,none,none⟩)
theorem O4:Cl.TJ yg aG DS w9:=aa (xs (af (br (λb a=>FE b a) (br (λb a=>iD b a) xp xk) xp)))
 (aa (xs (af (br (λb a=>FG b a) (br (λb a=>iD b a) xp xk) xp)))
 (aa (xs (af (br (λb a=>FC b a) (br (λb a=>iD b a) xp xk) xp)))
 (aE (af (kJ eE (Fa (λb a e d c=>FD b a e d c) xp xp xv xv xv))))))
theorem Pq(a:List Int)(c:Int)(b:Tp):SimO yg aG (El [eS a,D.int c,(eL (jw D.int D.int)) b]) (zZ a c b):=cw O4 rfl
structure S_bj9 where
 vmq:PostT
 vBq:Tp
 vwq:Int
 v3q:Int
 v0q:Option Int
 v1q:Option Int
 veq:Option (List (Int×Int×(Option (List Int))))
 vjq:Option (Int×Int)
 vlq:Option (Int×Int×(Option (List Int)))
def yj:S_bj9->X0:=λs=>[some (aG s.vmq),some ((eL (jw D.int D.int)) s.vBq),some (D.int s.vwq),some (D.int s.v3q),s.v0q.map D.int,s.v1q.map D.int,s.veq.map (eL (lw D.int D.int (eO (eL D.int)))),s.vjq.map (jw D.int D.int),s.vlq.map (lw D.int D.int (eO (eL D.int)))]
abbrev fw:=S_bj9->FlC S_bj9 Unit
def nO:fw:=a6 (λa s=>{s with v0q:=some a}) (aH (aD b9 (aD du (pC (·.v3q)) (kC (5:Int))) (pC (·.vwq))))
def nM:fw:=a6 (λa s=>{s with v1q:=some a}) (aH (aD b9 (aD du (aD du (pC (·.v3q)) (kC (5:Int))) (pC (·.vwq))) (pC (·.vwq))))
def nL:fw:=a6 (λa s=>{s with veq:=some a}) (aH (iP oP (pC (·.vmq))))
def gA:fw:=a6 (λa s=>{s with vjq:=some a}) (aH (ff (aD t4 (vC (·.v0q)) (vC (·.v1q))) (aD t7 (vC (·.v0q)) (vC (·.v1q)))))
def f6:fw:=ar (iR JD (λa s=>{s with vmq:=a.vuq}) (pC (·.vmq)) (vC (·.v0q)) (vC (·.v1q)))
def fZ:fw:=ar (GI (λs=>some s.vBq) (λs y=>{s with vBq:=y}) tG (vC (·.vjq)))
def f8:fw:=ar (iR JB (λa s=>{s with vmq:=a.vuq}) (pC (·.vmq)) (vC (·.v0q)) (vC (·.v1q)))
def f7:fw:=ar (GI (λs=>some s.vBq) (λs y=>{s with vBq:=y}) lU (vC (·.vjq)))
def gy:fw:=iL (aH (aD (La false) (vC (·.vjq)) (pC (·.vBq))))
 (ak f6
 fZ)
 (ak f8
 f7)
def ga:fw:=a6 (λa s=>{s with vlq:=some a}) (aH (aD rh (vC (·.veq)) (aD b9 (aD du (pC (·.v3q)) (kC (5:Int))) (aR ko (vC (·.veq))))))
def f9:fw:=ar (iR JE (λa s=>{s with vmq:=a.vuq}) (pC (·.vmq)) (aR SN (vC (·.vlq))) (aR Ku (vC (·.vlq))))
def cG:fw:=iL (aH (aD OH (aR ko (vC (·.veq))) (kC (0:Int))))
 (ak ga
 f9)
 bP
def eT:fw:=iL (aH (Gb (aD OH (aD b9 (pC (·.v3q)) (kC (5:Int))) (kC (2:Int))) (aD (oR true) (vC (·.v0q)) (vC (·.v1q)))))
 (ak gA
 gy)
 cG
def xf:fw:=ak nO
 (ak nM
 (ak nL
 eT))
def vI(c:PostT)(a:Tp)(b:Int)(d:Int):OutC S_bj9 Unit:=a8 (some ()) (xf ⟨c,a,b,d,none,none,none,none,none⟩)
theorem O8:Cl.TJ yj eN DW xf:=aa (xs (af (ae ba (ae cj xp xk) xp)))
 (aa (xs (af (ae ba (ae cj (ae cj xp xk) xp) xp)))
 (aa (xs (af (kH (λ_=>rfl) (λa=>sE a) xp)))
 (bg (af (rG (aB (ae Iq (ae ba xp xk) xk)) (aB (ae (fg true) xv xv))))
 (aa (xs (af (aJ (ae pD xv xv) (ae pE xv xv))))
 (bg (af (aB (ae (yy (kL bw bw) (by decide)) xv xp)))
 (aa (aj (cU (λ_=>rfl) (λ_ _=>rfl) (λa c b=>Ts a c b) xp xv xv))
 (aj (lc (λ_=>rfl) (λ_ _=>rfl) (Le (kL bw bw) (by decide)) xv)))
 (aa (aj (cU (λ_=>rfl) (λ_ _=>rfl) (λa c b=>Tq a c b) xp xv xv))
 (aj (lc (λ_=>rfl) (λ_ _=>rfl) p5 xv)))))
 (bg (af (aB (ae Iq (aC gg xv) xk)))
 (aa (xs (af (ae mo xv (ae ba (ae cj xp xk) (aC gg xv)))))
 (aj (cU (λ_=>rfl) (λ_ _=>rfl) (λa c b=>Tt a c b) xp (uq UW xv) (uq UV xv))))
 aQ))))
theorem FF(c:PostT)(a:Tp)(b:Int)(e:Int):SimO yj eN (yJ [aG c,(eL (jw D.int D.int)) a,D.int b,D.int e]) (vI c a b e):=da (d:=()) rfl O8 rfl
structure S_bg9 where
 vsq:(List Int)
 vwq:Option Int
 vBq:Option Tp
 v6q:Option (DI Int)
 v5q:Option (DI Int)
 vvq:Option Tp
 v7q:Option GΩ
 vmq:Option PostT
 viq:Option PostT
 vAq:Option PostT
 vyq:Option ((List (Option (List Int)))×(List (Int×Int×(Option (List Int))))×(List ((Option (List Int))×(List Int)×(List (Option (List Int))))))
 vgq:Option Tp
 vdq:Option Tp
 vqq:Option Tp
 v3q:Option Int
 v0q:Option Int
def ym:S_bg9->X0:=λs=>[some (eS s.vsq),s.vwq.map D.int,s.vBq.map (eL (jw D.int D.int)),s.v6q.map (aS D.int),s.v5q.map (aS D.int),s.vvq.map (eL (jw D.int D.int)),s.v7q.map ag,s.vmq.map aG,s.viq.map aG,s.vAq.map aG,s.vyq.map (lw (eL (eO (eL D.int))) (eL (lw D.int D.int (eO (eL D.int)))) (eL (Lh (eO (eL D.int)) (eL D.int) (eL (eO (eL D.int)))))),s.vgq.map (eL (jw D.int D.int)),s.vdq.map (eL (jw D.int D.int)),s.vqq.map (eL (jw D.int D.int)),s.v3q.map D.int,s.v0q.map D.int]
abbrev bH:=S_bg9->FlC S_bg9 Bool
def oe:bH:=a6 (λa s=>{s with vwq:=some a}) (aH (aD j9 (kC (2:Int)) (aD b9 (bB gS (pC (·.vsq)) (kC (0:Int))) (kC (5:Int)))))
def n9:bH:=a6 (λa s=>{s with vBq:=some a}) (aH (bB zW (bB gS (pC (·.vsq)) (kC (1:Int))) (vC (·.vwq))))
def n8:bH:=a6 (λa s=>{s with v6q:=some a}) (aH (bB vH (bB gS (pC (·.vsq)) (kC (2:Int))) (vC (·.vwq))))
def n6:bH:=a6 (λa s=>{s with v5q:=some a}) (aH (bB qp (bB gS (pC (·.vsq)) (kC (3:Int))) (vC (·.vwq))))
def n5:bH:=a6 (λa s=>{s with vvq:=some a}) (aH (bB qo (bB gS (pC (·.vsq)) (kC (4:Int))) (vC (·.vwq))))
def n0:bH:=a6 (λa s=>{s with v7q:=some a}) (aH (MP vG (vC (·.vwq)) (vC (·.vBq)) (vC (·.v6q)) (vC (·.v5q)) (vC (·.vvq))))
def nZ:bH:=a6 (λa s=>{s with vmq:=some a}) (aH (wo fh (vC (·.v7q))))
def nY:bH:=a6 (λa s=>{s with viq:=some a}) (aH (wo fh (vC (·.v7q))))
def nX:bH:=a6 (λa s=>{s with vAq:=some a}) (aH (gf zZ (pC (·.vsq)) (vC (·.vwq)) (vC (·.vBq))))
def kS:bH:=a6 (λa s=>{s with vyq:=some a}) (aH (bB oO (vC (·.viq)) (vC (·.vwq))))
def kR:bH:=a6 (λa s=>{s with vgq:=some a}) (aH (aR EW (vC (·.vBq))))
def kQ:bH:=a6 (λa s=>{s with vdq:=some a}) (aH (aR EW (vC (·.vBq))))
def kP:bH:=a6 (λa s=>{s with vqq:=some a}) (aH (aR EW (vC (·.vBq))))
def iz:bH:=ar (wA zX (λa s=>{s with v7q:=some a.v7q,vgq:=some a.vBq}) (vC (·.v7q)) (vC (·.vgq)) (vC (·.vwq)) (vC (·.v3q)))
def iy:bH:=ar (wA vI (λa s=>{s with vmq:=some a.vmq,vdq:=some a.vBq}) (vC (·.vmq)) (vC (·.vdq)) (vC (·.vwq)) (aD du (vC (·.v3q)) (kC (4:Int))))
def iw:bH:=ar (aH (bB z0 (vC (·.vmq)) (vC (·.vwq))))
def iu:bH:=ar (wA vI (λa s=>{s with vAq:=some a.vmq,vqq:=some a.vBq}) (vC (·.vAq)) (vC (·.vqq)) (vC (·.vwq)) (aD du (vC (·.v3q)) (kC (4:Int))))
def lT:bH:=bp (aH (kC false))
def lH:bH:=iL (aH (aD (oR true) (bB oO (vC (·.vmq)) (vC (·.vwq))) (bB oO (vC (·.vAq)) (vC (·.vwq)))))
 lT
 bP
def kT:bH:=ak iz
 (ak iy
 (ak iw
 (ak iu
 lH)))
def kO:bH:=dW (aD Li (pC (·.vsq)) (kC (6:Int))) (λa s=>{s with v3q:=some a})
 kT
def o3:bH:=bp (aH (kC false))
def kN:bH:=iL (aH (aD (oR true) (aR ko (iP oP (wo fh (vC (·.v7q))))) (aR ko (gf qm (vC (·.vgq)) (vC (·.vwq)) (kC (0:Int))))))
 o3
 bP
def lS:bH:=bp (aH (kC false))
def ir:bH:=iL (aH (aD (oR true) (bB Bv (vC (·.v7q)) (vC (·.v0q))) (gf qm (vC (·.vgq)) (vC (·.vwq)) (vC (·.v0q)))))
 lS
 bP
def kM:bH:=dW (aR (fb 0) (vC (·.vwq))) (λa s=>{s with v0q:=some a})
 ir
def qe:bH:=bp (aH (aD (oR false) (bB oO (vC (·.viq)) (vC (·.vwq))) (vC (·.vyq))))
def xh:bH:=ak oe
 (ak n9
 (ak n8
 (ak n6
 (ak n5
 (ak n0
 (ak nZ
 (ak nY
 (ak nX
 (ak kS
 (ak kR
 (ak kQ
 (ak kP
 (ak kO
 (ak kN
 (ak kM
 qe)))))))))))))))
def GC(a:List Int):OutC S_bg9 Bool:=a8 none (xh ⟨a,none,none,none,none,none,none,none,none,none,none,none,none,none,none,none⟩)
theorem Pb:Cl.TJ ym D.bl DZ xh:=aa (xs (af (ae gL xk (ae ba (br (λa b=>iD a b) xp xk) xk))))
 (aa (xs (af (br (λa b=>Pm a b) (br (λa b=>iD a b) xp xk) xv)))
 (aa (xs (af (br (λa b=>FE a b) (br (λa b=>iD a b) xp xk) xv)))
 (aa (xs (af (br (λa b=>FG a b) (br (λa b=>iD a b) xp xk) xv)))
 (aa (xs (af (br (λa b=>FC a b) (br (λa b=>iD a b) xp xk) xv)))
 (aa (xs (af (Fa (λa b c d e=>FD a b c d e) xv xv xv xv xv)))
 (aa (xs (af (kJ eE xv)))
 (aa (xs (af (kJ eE xv)))
 (aa (xs (af (mY (λa b c=>Pq a b c) xp xv xv)))
 (aa (xs (af (br (λa b=>sC a b) xv xv)))
 (aa (xs (af (aC qQ xv)))
 (aa (xs (af (aC qQ xv)))
 (aa (xs (af (aC qQ xv)))
 (aa (bZ (ft (ae Ir (kK LR xp) xk)) (λ_ _=>rfl)
 (aa (aj (wy (λ_ _=>rfl) (λa b c d=>Pn a b c d) xv xv xv xv))
 (aa (aj (wy (λ_ _=>rfl) (λa b c d=>FF a b c d) xv xv xv (ae cj xv xk)))
 (aa (aj (af (br (λa b=>Pr a b) xv xv)))
 (aa (aj (wy (λ_ _=>rfl) (λa b c d=>FF a b c d) xv xv xv (ae cj xv xk)))
 (bg (af (aB (ae (tR (rJ (cI (i3 (cI bw) (cP _))) (cI (rJ bw bw (i3 (cI bw) (cP _)))) (cI (Fp (i3 (cI bw) (cP _)) (cI bw) (cI (i3 (cI bw) (cP _)))))) (by decide) true) (br (λa b=>sC a b) xv xv) (br (λa b=>sC a b) xv xv))))
 (aE (af xk))
 aQ))))))
 (aa (bg (af (aB (ae (fg true) (aC gg (kH (λ_=>rfl) (λa=>sE a) (kJ eE xv))) (aC gg (mY (λa b c=>FA a b c) xv xv xk)))))
 (aE (af xk))
 aQ)
 (aa (bZ (dO xv) (λ_ _=>rfl)
 (bg (af (aB (ae (tR (cI bw) (by decide) true) (bY (λ_=>rfl) (λa b=>Fx a b) xv xv) (mY (λa b c=>FA a b c) xv xv xv))))
 (aE (af xk))
 aQ))
 (aE (af (ae (tR (rJ (cI (i3 (cI bw) (cP _))) (cI (rJ bw bw (i3 (cI bw) (cP _)))) (cI (Fp (i3 (cI bw) (cP _)) (cI bw) (cI (i3 (cI bw) (cP _)))))) (by decide) false) (br (λa b=>sC a b) xv xv) xv))))))))))))))))))
theorem Ps(a:List Int):SimO ym D.bl (Eo [eS a]) (GC a):=eM Pb rfl
end
def fD(ns:List Int)(k:Int):Int:=(ns[k.toNat]?).getD 0
theorem Hb(ns:List Int)(k:Int)(a:0<=k):(gS ns k).res=.ok (fD ns k):=by
 unfold gS xg u6 u5 jX fD;by_cases h:k<ns.length
 ·obtain⟨v,e⟩:∃v,ns[k.toNat]?=some v:=⟨_,VH (by omega)⟩;simp[h,kW ns a,e]
 ·have e:ns[k.toNat]?=none:=VP (by omega);simp[h,e]
def PairOk(sz:Int)(k:List Int):Prop:=∃a b,k=[a,b]/\0<=a/\a<sz/\0<=b/\b<sz
theorem G8(c sz:Int)(d:0<sz):∃F:DI Int,(vH c sz).res=.ok F/\F.length<=5/\DI.nd F/\∀p∈F,PairOk sz p.1:=by
 have l:0<=c%5/\c%5<5:=⟨VX _ (by omega),VR _ (by omega)⟩
 obtain⟨j,e,b,k,F,rfl,g,f,hF⟩:=cu (u:=λa s=>{s with vbq:=some a}) (c:=oy) (λp (s:S_bk9)=>∃b k F,s=⟨b,sz,some F,k⟩/\F.length<=p.length/\DI.nd F/\∀p∈F,PairOk sz p.1)
  (bV 0 (c%5)) ⟨c,sz,some [],none⟩ ⟨c,none,[],rfl,by simp,by simp[DI.nd],λ_ h=>(nomatch h)⟩ (by
    rintro p a r s i ⟨b,k,F,rfl,g,f,hF⟩
    have hp:p.length<5:=by
     have:=bf 0 (c%5)
     rw[i,Vw,Vx]at this;omega
    have hz:F.length<ac:=by unfold ac;omega
    refine⟨_,.inl ?_,(b*48271+11)%2147483647,some a,F.put [(b*48271+11)%2147483647%sz,(b*48271+11)%2147483647 / 7%sz] ((b*48271+11)%2147483647 / 49%7-3),rfl,?_,fA f,dL hF ⟨_,_,rfl,VX _ (by omega),VR _ d,VX _ (by omega),VR _ d⟩⟩
    ·simp[oy,nJ,nI,d,hz]
    ·rw[Vw];exact VT eB (by simp;omega))
 refine⟨F,?_,?_,f,hF⟩
 ·unfold vH xc uZ uY uX;simp[cT (lo:=0) (hi:=c%5) (by omega) (by omega) (by omega) (by omega),e]
 ·have:=bf 0 (c%5);omega
theorem d6{W:Type}:∀{l:List W} {j:Nat} (h:j<l.length),(l[j]::l.eraseIdx j).Perm l
 |x::l,0,h=>List.Perm.refl _
 | x::l,j+1,h=>by
   have a:=d6 (l:=l) (j:=j) (by simpa using h);rw[Wa,List.getElem_cons_succ];exact(List.Perm.swap x _ _).trans (a.cons x)
structure RoadOk (sz:Int) (r:List Int):Prop where
 two:2<=r.length
 last:r.getLast?=some 0
 nd:r.Nodup
 all:∀x∈r,0<=x/\x<sz
theorem Mp{W:Type}{l:List W}{i:Int}(h0:0<=i)(a:i<l.length)(b:l.length<=20000):∃(h:i.toNat<l.length),CJ l i=some (l[i.toNat],l.eraseIdx i.toNat):=by
 have h:i.toNat<l.length:=by omega
 refine⟨h,?_⟩;unfold CJ;rw[if_pos ⟨h0,a,by unfold ac;omega⟩,List.getElem?_eq_getElem h];rfl
theorem kX{W:Type}{l:List W}{x:W}(h:l.length<ac):lU l x=some ((),l++[x]):=by unfold lU;rw[if_pos h]
theorem Pu{W:Type}{l m:List W}(h:l.length+m.length<=ac):xq l m=.ok (l++m):=by unfold xq;rw[if_pos h]
theorem G4(c h sz:Int)(M:1<=h)(L:h<sz)(U:sz<=1000):∃r,(zY c h sz).res=.ok r/\RoadOk sz r/\(∃t,r=h::t)/\r.length<=1001:=by
 have D:d9 (aD fb (kC (1:Int)) (pC (·.vwq))) (aD (oR true) (pC λp=>p.1) (pC λp=>p.2.v9q)) (pC λp=>p.1) (⟨c,h,sz,none,none,none⟩:S_bo9)=.ok ((bV 1 sz).filter λx=>!decide (x=h)):=by
  rw[l3 (l:=bV 1 sz) (λx=>!decide (x=h)) (λx=>x) (by simp[cT (lo:=1) (hi:=sz) (by omega) (by omega) (by omega) (by omega)]) (by rw[bf];unfold ac;omega) (λa _=>by simp) (λa _ _=>by simp)];simp
 have w:∀x∈(bV 1 sz).filter (λx=>!decide (x=h)),1<=x/\x<sz/\x≠h:=λx g=>by
  obtain⟨G,F⟩:=WF.mp g
  have:=c8.mp G
  exact⟨this.1,this.2,by simpa using F⟩
 have i:((bV 1 sz).filter λx=>!decide (x=h)).Nodup:=(mq 1 sz).filter _;have y:((bV 1 sz).filter λx=>!decide (x=h)).length<=999:=VT (Xs _ _) (by rw[bf];omega);generalize (bV 1 sz).filter (λx=>!decide (x=h))=d at D w i y
 have E:=xH (t:=aH (Gb (aD OH (vC (·.vfq)) (kC (0:Int))) (aD OH (aR ko (vC (·.vpq))) (kC (0:Int))))) (c:=ou)
  (λn (s:S_bo9)=>∃f m aY mid,s=⟨f,h,sz,some aY,some (h::mid),some m⟩/\aY.length=n/\(h::mid++aY).Nodup/\(∀x∈h::mid++aY,1<=x/\x<sz)/\(h::mid++aY).length<=1000)
  (λs=>∃f m aY mid,s=⟨f,h,sz,some aY,some (h::mid),some m⟩/\(h::mid).Nodup/\(∀x∈h::mid,1<=x/\x<sz)/\(h::mid).length<=1000) (by
    rintro n s ⟨f,m,aY,mid,rfl,rfl,nd,v,A⟩;have H:mid.length+aY.length+1<=1000:=by simpa using A
    by_cases B:0<m/\0<aY.length
    · have J:0<=f%(aY.length:Int):=VX _ (by omega);have I:f%(aY.length:Int)<aY.length:=VR _ (by omega);obtain⟨k,hp⟩:=Mp J I (by omega);have hz:(0:Int)<aY.length:=by omega
      generalize (f%(aY.length:Int)).toNat=j at k hp;have C:=kX (l:=h::mid) (x:=aY[j]) (by simp only[List.length_cons];unfold ac;omega);refine .inr ⟨by simp[B.1,B.2],(aY.eraseIdx j).length,_,by rw[List.length_eraseIdx,if_pos k];omega,.inl (by simp[ou,nr,nq,nk,B.2,hp,C]),f / 5,m-1,aY.eraseIdx j,mid++[aY[j]],rfl,rfl,?_,?_,?_⟩
      · have e1:(h::(mid++[aY[j]])++aY.eraseIdx j).Perm (h::mid++aY):=by
         have:(aY[j]::aY.eraseIdx j).Perm aY:=d6 k
         simpa using(Yy (h::mid) this)
        exact e1.nodup_iff.mpr nd
      · intro x g;refine v x ?_
        have e1:(h::(mid++[aY[j]])++aY.eraseIdx j).Perm (h::mid++aY):=by
         have:(aY[j]::aY.eraseIdx j).Perm aY:=d6 k
         simpa using(Yy (h::mid) this)
        exact e1.mem_iff.mp g
      ·simp[List.length_eraseIdx,k];omega
    · refine .inl ⟨?_,f,m,aY,mid,rfl,(VW.mp nd).1,λx g=>v x (VB _ g),by simp;omega⟩;by_cases o:0<m
      ·have e0:aY=[]:=VZ.mp (by omega);subst e0;simp[o]
      ·simp[o])
 obtain⟨S,e,f,m,aY,mid,rfl,nd,v,A⟩:=E 100000 d.length ⟨c / 4,h,sz,some d,some [h],some (if c / 4%8=3 then sz else c%4)⟩
  ⟨c / 4,_,d,[],rfl,rfl,VM.mpr ⟨λz=>(w h z).2.2 rfl,i⟩,λx g=>by
   rcases VA.mp g with z|z
   ·rw[z];exact⟨M,L⟩
   ·exact⟨(w x z).1,(w x z).2.1⟩,by show(h::d).length<=1000;rw[Vx];omega⟩ (by omega)
 have T:mid.length+1<=1000:=by simpa using A
 have u:=Pu (l:=h::mid) (m:=[(0:Int)]) (by simp only[List.length_cons,List.length_nil];unfold ac;omega);refine⟨h::mid++[0],?_,⟨by simp,List.getLast?_concat ..,?_,λx g=>?_⟩,⟨_,rfl⟩,by simp;omega⟩
 · have e1:nz ⟨c,h,sz,none,none,none⟩=.nx ⟨c,h,sz,some d,none,none⟩:=by
    unfold nz a6 aH;rw[D];rfl
   have R:ny ⟨c,h,sz,some d,none,none⟩=.nx ⟨c,h,sz,some d,some [h],none⟩:=by simp[ny,ac]
   have Q:nw ⟨c,h,sz,some d,some [h],none⟩=.nx ⟨c,h,sz,some d,some [h],some (c%4)⟩:=by simp[nw]
   have P:nv ⟨c,h,sz,some d,some [h],some (c%4)⟩=.nx ⟨c,h,sz,some d,some [h],some (if c / 4%8=3 then sz else c%4)⟩:=by
    by_cases q:c / 4%8=3<;>simp[nv,jV,q]
   have O:∀x,nu ⟨c,h,sz,some d,some [h],x⟩=.nx ⟨c / 4,h,sz,some d,some [h],x⟩:=λx=>by simp[nu]
   have N:uQ ⟨c / 4,h,sz,some d,some [h],some (if c / 4%8=3 then sz else c%4)⟩=_:=e;unfold zY w8;simp only[ak,e1,R,Q,P,O,N];simp[uP,u,ac,-xq]
 · exact VW.mpr ⟨nd,by simp,λa C b K=>by
    rw[VF.mp K]
    have:=(v a C).1
    omega⟩
 · rcases Vy.mp g with z|z
   ·have:=v x z;omega
   ·rw[VF.mp z];omega
theorem dQ:∀(n:Nat) (l:List Int),l.Nodup->(∀x∈l,0<=x/\x<n)->l.length<=n:=by
 intro n
 induction n with
 |zero=>
   intro l nd a;cases l with
   |nil=>exact VG _
   |cons x l=>have:=a x Vt;omega
 |succ n d=>
   intro l nd a
   have c:=d (l.erase n) (nd.erase _) λx e=>by
    have b:=(nd.mem_erase_iff).mp e
    have:=a x b.2
    have f:=b.1;omega
   rw[List.length_erase]at c;split at c<;>omega
theorem RoadOk.len{sz:Int}{r:List Int}(h:RoadOk sz r):(r.length:Int)<=sz:=by
 have:=dQ sz.toNat r h.nd λx a=>by have:=h.all x a;omega
 obtain⟨x,a⟩:=XT r (λz=>by have:=h.two;rw[z]at this;simp at this)
 have:=h.all x a
 omega
theorem Ha(c sz:Int)(z:1<=sz)(o:sz<=1000):∃F:DI Int,(qp c sz).res=.ok F/\F.length<=4/\DI.nd F/\∀p∈F,RoadOk sz p.1:=by
 by_cases j:sz<2
 ·refine⟨[],?_,by simp,by simp[DI.nd],λ_ h=>(nomatch h)⟩;simp[qp,sI,nV,nT,jW,j]
 · have y:0<=c%4/\c%4<4:=⟨VX _ (by omega),VR _ (by omega)⟩
   obtain⟨v,e,f,k,F,r,rfl,m,i,hF⟩:=cu (u:=λa s=>{s with vbq:=some a}) (c:=oz) (λp (s:S_bi9)=>∃f k F r,s=⟨f,sz,some F,k,r⟩/\F.length<=p.length/\DI.nd F/\∀p∈F,RoadOk sz p.1)
    (bV 0 (c%4)) ⟨c,sz,some [],none,none⟩ ⟨c,none,[],none,rfl,by simp,by simp[DI.nd],λ_ h=>(nomatch h)⟩ (by
      rintro p a r s n ⟨f,k,F,rd,rfl,m,i,hF⟩
      have hp:p.length<4:=by
       have:=bf 0 (c%4)
       rw[n,Vw,Vx]at this;omega
      have hz:F.length<ac:=by unfold ac;omega
      have g:1<sz:=by omega
      generalize t:(f*48271+17)%2147483647=b;have x:0<=b%(sz-1):=VX _ (by omega);have w:b%(sz-1)<sz-1:=VR _ (by omega);obtain⟨d,q,l,_,_⟩:=G4 (b / 9) (1+b%(sz-1)) sz (by omega) (by omega) o;refine⟨_,.inl ?_,b,some a,F.put d (b / 5%9-4),some d,rfl,?_,fA i,dL hF l⟩
      ·simp[oz,nR,nQ,nP,t,hz,g,q]
      ·rw[Vw];exact VT eB (by simp;omega))
   refine⟨F,?_,?_,i,hF⟩
   ·unfold qp sI;simp[nV,nT,u4,u3,j,cT (lo:=0) (hi:=c%4) (by omega) (by omega) (by omega) (by omega),e]
   ·have:=bf 0 (c%4);omega
def zT(sz:Int)(p:Int×Int):Prop:=0<=p.1/\p.1<sz/\0<=p.2/\p.2<sz/\p.1≠p.2
theorem gh{W:Type}{l:List W}{a:W}(h:l.Nodup)(d:a∉l):(l++[a]).Nodup:=
 VW.mpr ⟨h,by simp,λx c y b=>by rw[VF.mp b];rintro rfl;exact d c⟩
theorem z6{a x sz:Int}(e:0<=a)(d:a<sz)(c:0<=x)(b:x<sz-1):a≠(a+1+x)%sz:=by
 by_cases q:a+1+x<sz
 ·rw[Xr (by omega) q];omega
 · have:(a+1+x)%sz=a+1+x-sz:=by
    rw[<-Int.sub_emod_right,Xr (by omega) (by omega)]
   rw[this];omega
theorem LO(c sz:Int)(M:1<=sz):∃W:Tp,(qo c sz).res=.ok W/\W.length<=3/\W.Nodup/\∀p∈W,zT sz p:=by
 by_cases C:sz<2
 ·refine⟨[],?_,by simp,by simp,λ_ h=>(nomatch h)⟩;simp[qo,sF,nh,ng,jU,C,ac]
 · have L:0<=c%3/\c%3<3:=⟨VX _ (by omega),VR _ (by omega)⟩;have g:1<sz:=by omega
   have f:0<sz:=by omega
   obtain⟨K,e,m,k,y,w,W,rfl,H,i,j⟩:=cu (u:=λa s=>{s with vbq:=some a}) (c:=j5) (λp (s:S_bq9)=>∃m k y w W,s=⟨m,sz,some W,k,y,w⟩/\W.length<=p.length/\W.Nodup/\∀p∈W,zT sz p)
    (bV 0 (c%3)) ⟨c,sz,some [],none,none,none⟩ ⟨c,none,none,none,[],rfl,by simp,by simp,λ_ h=>(nomatch h)⟩ (by
      rintro p x r s I ⟨m,k,y,w,W,rfl,H,i,j⟩
      have hp:p.length<3:=by
       have:=bf 0 (c%3)
       rw[I,Vw,Vx]at this;omega
      generalize D:(m*48271+23)%2147483647=d;have q:0<=d%sz:=VX _ (by omega);have o:d%sz<sz:=VR _ f;have G:0<=d / 7%(sz-1):=VX _ (by omega);have F:d / 7%(sz-1)<sz-1:=VR _ (by omega);have B:0<=(d%sz+1+d / 7%(sz-1))%sz:=VX _ (by omega);have A:(d%sz+1+d / 7%(sz-1))%sz<sz:=VR _ f;have n:=z6 q o G F;generalize v:(d%sz+1+d / 7%(sz-1))%sz=b at B A n;generalize E:d%sz=a at q o n v;by_cases t:(a,b)∈W
      ·refine⟨_,.inl ?_,d,some x,some a,some b,W,rfl,by rw[Vw];omega,i,j⟩;simp[j5,ji,jh,jg,jf,D,f,g,E,v,t]
      · have J:=kX (l:=W) (x:=(a,b)) (by unfold ac;omega);refine⟨_,.inl ?_,d,some x,some a,some b,W++[(a,b)],rfl,by rw[List.length_append,List.length_append];simp;omega,gh i t,λp hp=>?_⟩
        ·simp[j5,ji,jh,jg,jf,iq,D,f,g,E,v,t,J]
        · rcases Vy.mp hp with z|z
          ·exact j p z
          ·rw[VF.mp z];exact⟨q,o,B,A,n⟩)
   refine⟨W,?_,?_,i,j⟩
   ·unfold qo sF;simp[nh,ng,uN,uM,C,cT (lo:=0) (hi:=c%3) (by omega) (by omega) (by omega) (by omega),e,ac]
   ·have:=bf 0 (c%3);omega
structure WaysOk (sz:Int) (W:Tp):Prop where
 nd:W.Nodup
 all:∀p∈W,0<=p.1/\p.1<p.2/\p.2<sz
 len:W.length<=10000
theorem GX(c sz:Int)(S:1<=sz)(R:sz<=60):∃W:Tp,(zW c sz).res=.ok W/\WaysOk sz W:=by
 generalize j:(c+1)*48271%2147483647*16807%2147483647=d
 obtain⟨M,e,k,C,g,W,rfl,y,n,m,v⟩:=cu (u:=λa s=>{s with v0q:=some a}) (c:=je) (λp (s:S_bt9)=>∃k C g W,s=⟨c,sz,some d,some W,some k,C,g⟩/\0<=k/\W.Nodup/\(∀q∈W,0<=q.1/\q.1<q.2/\q.2<sz/\q.1<(p.length:Int))/\W.length<=p.length*100)
  (bV 0 sz) ⟨c,sz,some d,some [],some 0,none,none⟩ ⟨0,none,none,[],rfl,by omega,by simp,λ_ h=>(nomatch h),by simp⟩ (by
    rintro p a r s H ⟨k,C,g,W,rfl,y,n,m,v⟩;have Q:=xZ H;have F:(p.length:Int)=a:=by omega
    obtain⟨L,I,E,J,K,rfl,w,t,B,G⟩:=cu (u:=λa s=>{s with v1q:=some a}) (c:=gG) (λq (s:S_bt9)=>∃k g W,s=⟨c,sz,some d,some W,some k,some a,g⟩/\0<=k/\W.Nodup/\(∀x∈W,0<=x.1/\x.1<x.2/\x.2<sz/\(x.1<a\/x.1=a/\x.2<a+1+(q.length:Int)))/\W.length<=p.length*100+q.length)
     (bV (a+1) sz) ⟨c,sz,some d,some W,some k,some a,g⟩ ⟨k,g,W,rfl,y,n,λx i=>by have:=m x i;omega,by simpa using v⟩ (by
       rintro q b N s o ⟨k,g,W,rfl,y,n,m,v⟩;have P:=xZ o
       have O:q.length<60:=by
        have:=bf (a+1) sz
        rw[o,Vw,Vx]at this;omega
       have f:0<=k%29:=VX _ (by omega);by_cases D:d / 2 ^ (k%29).toNat%2=1
       · have A:=kX (l:=W) (x:=(a,b)) (by unfold ac;omega);refine⟨_,.inl ?_,k+1,some b,W++[(a,b)],rfl,by omega,gh n (λz=>by have:=m _ z;omega),λx i=>?_,by rw[List.length_append,List.length_append];simp;omega⟩
         ·simp[gG,gx,fV,gw,f,D,A]
         · rw[Vw];rcases Vy.mp i with z|z
           ·have:=m x z;simp;omega
           ·rw[VF.mp z];simp;omega
       · refine⟨_,.inl ?_,k+1,some b,W,rfl,by omega,n,λx i=>?_,by rw[Vw];omega⟩
         ·simp[gG,gx,gw,f,D]
         ·have:=m x i;rw[Vw];simp;omega)
    refine⟨_,.inl ?_,E,some a,J,K,rfl,w,t,λx i=>?_,?_⟩
    ·simp only[je,dW,aD,j9,vC,pC,kC,Res.bind];rw[cT (by omega) (by omega) (by omega) (by omega)];exact I
    ·have:=B x i;rw[Vw];simp;omega
    ·have:=bf (a+1) sz;rw[Vw];simp;omega)
 refine⟨W,?_,n,λp hp=>by have:=m p hp;omega,by have:=bf 0 sz;omega⟩;unfold zW wX;simp[uK,uJ,uI,uH,uG,j,ac,cT (lo:=0) (hi:=sz) (by omega) (by omega) (by omega) (by omega),e]
def ki(W:Tp)(sz a:Int):List Int:=(bV 0 sz).filter λb=>decide ((min a b,max a b)∈W)
theorem GZ(W:Tp)(sz a:Int)(h0:0<=sz)(d:sz<=1000):(qm W sz a).res=.ok (ki W sz a):=by
 have e:∀s:S_br9,s=⟨W,sz,a⟩->d9 (aR (fb 0) (pC (·.vwq))) (aD (La false) (ff (aD t4 (pC λp=>p.2.v0q) (pC λp=>p.1)) (aD t7 (pC λp=>p.2.v0q) (pC λp=>p.1))) (pC λp=>p.2.vBq)) (pC λp=>p.1) s=.ok (ki W sz a):=by
  rintro s rfl
  rw[l3 (l:=bV 0 sz) (λb=>decide ((min a b,max a b)∈W)) (λx=>x) (by simp[cT (lo:=0) (hi:=sz) (by omega) (by omega) (by omega) (by omega)]) (by rw[bf];unfold ac;omega) (λb _=>by
   have e1:(if b<a then b else a)=min a b:=by rw[YI];split<;>split<;>omega
   have c:(if a<b then b else a)=max a b:=by rw[X4];split<;>split<;>omega
   simp[e1,c]) (λb _ _=>by simp)]
  simp[ki]
 unfold qm wZ
 first | (unfold uL) | skip
 simp only[bp,aH];rw[e _ rfl];rfl
theorem Ew(l:List Int)(m:Int):0<=c9 l m↔0<=m/\∀x∈l,0<=x:=by
 obtain⟨e,f,d⟩:=ic l m;constructor
 ·intro h;exact⟨by omega,λx c=>by have:=d x c;omega⟩
 · rintro⟨a,b⟩;rcases e with z|z
   ·omega
   ·exact b _ z
theorem Ad(b:List Int)(n:Int)(h:∀x∈b,0<=x/\x<n)(h0:0<n):(zV b n).res=.ok ():=by
 unfold zV wV
 first | unfold uE | skip
 cases b with
 |nil=>
   have q:¬ n<=0:=by omega
   simp[q]
 |cons a l=>
   have g:0<=c9 l a:=(Ew l a).mpr ⟨(h a Vt).1,λx e=>(h x (Vu _ e)).1⟩
   have f:fM l a<n:=by
    obtain⟨z|z,_⟩:=jb l a
    ·rw[z];exact(h a Vt).2
    ·exact(h _ (Vu _ z)).2
   have d:¬ c9 l a<0:=by omega
   have c:¬ n<=fM l a:=by omega
   simp[d,c]
theorem g6(g:GΩ)(a:List Int)(h:∀x∈a,0<=x/\x<g.hω)(h0:0<g.hω):(oN g a).res=.ok ():=by
 have e:=Ad a g.hω h h0;unfold oN F1
 first | unfold zv | skip
 simp[e]
theorem in1{a n:Int}(c:0<=a/\a<n):∀x∈[a],0<=x/\x<n:=λx b=>by rw[VF.mp b];exact c
theorem Qj{a b n:Int}(e:0<=a/\a<n)(d:0<=b/\b<n):∀x∈[a,b],0<=x/\x<n:=λx c=>by
 rcases VA.mp c with z|z
 ·rw[z];exact e
 ·rw[VF.mp z];exact d
theorem vZ(g:GΩ)(a b:Int)(f:0<=a/\a<g.hω)(d:0<=b/\b<g.hω)(c:a≠b):(Bu g a b).res=.ok ():=by
 have e:=g6 g [a,b] (Qj f d) (by omega);unfold Bu FY;simp[zp,zo,e,c,ac]
theorem Ah(g:GΩ)(a b:Int)(d:0<=a/\a<g.hω)(c:0<=b/\b<g.hω):(JH g a b).res=.ok ((g.lω.get [a,b]).getD 0):=by
 have e:=g6 g [a,b] (Qj d c) (by omega);unfold JH F4;simp[zA,zz,e,ac]
theorem xU(g:GΩ)(r:List Int)(a:RoadOk g.hω r)(h:g.hω<=1000):(Gz g r).res=.ok ():=by
 have f:=a.len;have two:=a.two;have e:=g6 g r a.all (by omega);have d:¬ (r.length:Int)<2:=by omega
 have b:r.length<4000:=by omega
 have c:=a.last;unfold Gz FZ;simp[zu,zt,zr,zq,e,d,b,Cl.vz,c,Fo a.nd]
def wk(L Q:DI Int)(r:List Int):Int:=(Q.get r).getD (match r with|a::b::_=>(L.get [a,b]).getD 0|_=>0)
def dX(L Q:DI Int)(r:List Int):Int×Int×List Int:=(0-wk L Q r,(r.length:Int),r)
theorem GL{W:Type}(a b:W)(t:List W):j8 (a::b::t) 0=some a:=by rw[kW _ (by omega)];rfl
theorem Ve{W:Type}(a b:W)(t:List W):j8 (a::b::t) 1=some b:=by rw[kW _ (by omega)];rfl
theorem G6(g:GΩ)(r:List Int)(c:RoadOk g.hω r)(i:g.hω<=1000):(JG g r).res=.ok (wk g.lω g.wω r):=by
 have e:=xU g r c i
 obtain⟨a,b,t,rfl⟩:∃a b t,r=a::b::t:=by
  match r,c.two with
  |a::b::t,_=>exact⟨a,b,t,rfl⟩
 have h:=c.all a (by simp);have f:=c.all b (by simp);have d:=Ah g a b h f;unfold JG F2 wk;cases q:g.wω.get (a::b::t) with
 |none=>simp[sy,sx,sv,io,ss,e,q,GL,Ve,d]
 |some v=>simp[sy,sx,sv,io,ss,e,q]
theorem LQ(g:GΩ)(r:List Int)(a:RoadOk g.hω r)(b:g.hω<=1000):(zU g r).res=.ok (dX g.lω g.wω r):=by
 have e:=G6 g r a b;unfold zU wU dX
 first | unfold uD | skip
 simp[e,Int.zero_sub]
theorem xV(g:GΩ)(a b v:Int)(f:0<=a/\a<g.hω)(d:0<=b/\b<g.hω)(c:g.lω.length<ac):GA g a b v=.ok () ⟨{g with lω:=g.lω.put [a,b] v},a,b,v⟩:=by
 have e:=g6 g [a,b] (Qj f d) (by omega);unfold GA F5;simp[zC,zB,e,c,ac]<;>(unfold ac at c;simp[c])
theorem xS(g:GΩ)(a b:Int)(h:0<=a/\a<g.hω)(f:0<=b/\b<g.hω)(c:a≠b)(d:g.sω.length<ac):Gy g a b=.ok () ⟨{g with sω:=g.sω.put [a,b] true},a,b⟩:=by
 have e:=vZ g a b h f c;unfold Gy FX;simp[zn,zm,e,d]
theorem xQ(g:GΩ)(r:List Int)(v:Int)(a:RoadOk g.hω r)(c:g.hω<=1000)(b:g.wω.length<ac):Gv g r v=.ok () ⟨{g with wω:=g.wω.put r v},r,v⟩:=by
 have e:=xU g r a c;unfold Gv FT;simp[zj,zi,e,b]
theorem v5(g:GΩ)(a b:Int)(j:0<=a/\a<g.hω)(i:0<=b/\b<g.hω)(c:a≠b)(f:g.S.get [a,b]=none)(h:g.S.length+1<ac):Bw g a b=.ok () ⟨{g with S:=(g.S.put [a,b] true).put [b,a] true},a,b⟩:=by
 have e:=vZ g a b j i c;have d:g.S.length<ac:=by omega
 have l2:(g.S.put [a,b] true).length<ac:=Nat.lt_of_le_of_lt eB h;unfold Bw F7;simp[zK,zJ,zI,zH,e,f,d,l2]
theorem xW(g:GΩ)(a b:Int)(k:0<=a/\a<g.hω)(j:0<=b/\b<g.hω)(c:a≠b)(i:(g.S.get [a,b]).isSome=true)(d:(g.S.get [b,a]).isSome=true):GB g a b=.ok () ⟨{g with S:=(g.S.del [a,b]).del [b,a]},a,b⟩:=by
 have e:=vZ g a b k j c;obtain⟨x,ex⟩:=WB.mp i;obtain⟨y,l⟩:=WB.mp d
 have f:(g.S.del [a,b]).get [b,a]=some y:=by
  rw[rk,on (by intro z;injection z with h m;exact c h.symm)];exact l
 unfold GB F6;simp[zG,zF,zE,zD,e,ex,f]
structure GuildIs (g:GΩ) (sz:Int) (S:Tp) (Z U:DI Int) (T:Tp):Prop where
 count:g.hω=sz
 way:∀x y,(g.S.get [x,y]).isSome=true↔(x,y)∈S\/(y,x)∈S
 lik:∀k,g.lω.get k=Z.get k
 wsh:∀k,g.wω.get k=U.get k
 shn:∀x y,(g.sω.get [x,y]).isSome=true↔(x,y)∈T
def Few(g:GΩ):Prop:=g.S.length<=30000/\g.lω.length<=30000/\g.wω.length<=30000/\g.sω.length<=30000
structure DrawOk (sz:Int) (S:Tp) (Z U:DI Int) (T:Tp):Prop where
 size:1<=sz/\sz<=60
 S:WaysOk sz S
 Z:Z.length<=100/\DI.nd Z/\∀p∈Z,PairOk sz p.1
 U:U.length<=100/\DI.nd U/\∀p∈U,RoadOk sz p.1
 T:T.length<=100/\T.Nodup/\∀p∈T,zT sz p
theorem yX{X:Type}(k:List Int):DI.get ([]:DI X) k=none:=rfl
theorem lZ{X:Type}{F:DI X}(a:DI.nd F){k:List Int}(b:k∈F.map (·.1)):∃v,F.get k=some v/\(k,v)∈F:=by
 obtain⟨p,hp,rfl⟩:=VV.mp b;exact⟨p.2,jc a hp,hp⟩
theorem lq{X:Type}{F:DI X}{k:List Int}(a:k∉F.map (·.1)):F.get k=none:=by
 cases q:F.get k with
 |none=>rfl
 |some v=>exact absurd (VV.mpr ⟨(k,v),jJ q,rfl⟩) a
structure Wf (sz:Int) (g:GΩ):Prop where
 count:g.hω=sz
 S:DI.nd g.S/\∀p∈g.S,PairOk sz p.1
 lik:DI.nd g.lω/\∀p∈g.lω,PairOk sz p.1
 shn:DI.nd g.sω/\∀p∈g.sω,PairOk sz p.1
 wsh:DI.nd g.wω/\∀p∈g.wω,RoadOk sz p.1
theorem kl{X:Type}{F:DI X}{k:List Int}(h:DI.nd F):DI.nd (F.del k):=by
 unfold DI.nd DI.del at *;exact h.sublist (List.Sublist.map _ List.filter_sublist)
theorem eD{X:Type}{F:DI X}{k:List Int}{p:List Int×X}(h:p∈F.del k):p∈F:=(WF.mp h).1
theorem Wf.lay{sz:Int}{g:GΩ}(h:Wf sz g){a b:Int}(d:0<=a/\a<sz)(c:0<=b/\b<sz):Wf sz {g with S:=(g.S.put [a,b] true).put [b,a] true}:=
 ⟨h.count,⟨fA (fA h.S.1),dL (P:=PairOk sz) (dL (P:=PairOk sz) h.S.2 ⟨a,b,rfl,d.1,d.2,c.1,c.2⟩) ⟨b,a,rfl,c.1,c.2,d.1,d.2⟩⟩,h.lik,h.shn,h.wsh⟩
theorem Wf.lift{sz:Int}{g:GΩ}(h:Wf sz g)(a b:Int):Wf sz {g with S:=(g.S.del [a,b]).del [b,a]}:=
 ⟨h.count,⟨kl (kl h.S.1),λp hp=>h.S.2 p (eD (eD hp))⟩,h.lik,h.shn,h.wsh⟩
theorem Wf.like{sz:Int}{g:GΩ}(h:Wf sz g){a b:Int}(v:Int)(d:0<=a/\a<sz)(c:0<=b/\b<sz):Wf sz {g with lω:=g.lω.put [a,b] v}:=
 ⟨h.count,h.S,⟨fA h.lik.1,dL (P:=PairOk sz) h.lik.2 ⟨a,b,rfl,d.1,d.2,c.1,c.2⟩⟩,h.shn,h.wsh⟩
theorem Wf.shun{sz:Int}{g:GΩ}(h:Wf sz g){a b:Int}(d:0<=a/\a<sz)(c:0<=b/\b<sz):Wf sz {g with sω:=g.sω.put [a,b] true}:=
 ⟨h.count,h.S,h.lik,⟨fA h.shn.1,dL (P:=PairOk sz) h.shn.2 ⟨a,b,rfl,d.1,d.2,c.1,c.2⟩⟩,h.wsh⟩
theorem Wf.wish{sz:Int}{g:GΩ}(h:Wf sz g){k:List Int}(v:Int)(a:RoadOk sz k):Wf sz {g with wω:=g.wω.put k v}:=
 ⟨h.count,h.S,h.lik,h.shn,⟨fA h.wsh.1,dL (P:=RoadOk sz) h.wsh.2 a⟩⟩
theorem Wf.new{sz:Int}:Wf sz ⟨sz,[],[],[],[]⟩:=⟨rfl,⟨by unfold DI.nd;simp,by simp⟩,⟨by unfold DI.nd;simp,by simp⟩,⟨by unfold DI.nd;simp,by simp⟩,⟨by unfold DI.nd;simp,by simp⟩⟩
theorem CD{F:DI Bool}{a b x y:Int}{p:Tp}(h:(F.get [x,y]).isSome=true↔(x,y)∈p\/(y,x)∈p):((((F.put [a,b] true).put [b,a] true).get [x,y])).isSome=true↔(x,y)∈p++[(a,b)]\/(y,x)∈p++[(a,b)]:=by
 rw[cB,cB,Vy,Vy,VF,VF];by_cases e:[x,y]=[b,a]
 ·rw[Vo e];injection e with e c;injection c with c;subst e c;simp
 · rw[on e];by_cases c:[x,y]=[a,b]
   ·rw[Vo c];injection c with c d;injection d with d;subst c d;simp
   · rw[on c,h];constructor
     · rintro(z|z)
       ·exact .inl (.inl z)
       ·exact .inr (.inl z)
     · rintro((z|z) | (z|z))
       ·exact .inl z
       ·injection z with d f;subst d f;exact absurd rfl c
       ·exact .inr z
       ·injection z with d f;subst d f;exact absurd rfl e
theorem CC{F:DI Bool}{a b x y:Int}{p:Tp}(h:(F.get [x,y]).isSome=true↔(x,y)∈p):((F.put [a,b] true).get [x,y]).isSome=true↔(x,y)∈p++[(a,b)]:=by
 rw[cB,Vy,VF];by_cases c:[x,y]=[a,b]
 ·rw[Vo c];injection c with c d;injection d with d;subst c d;simp
 · rw[on c,h];constructor
   ·exact .inl
   · rintro(z|z)
     ·exact z
     ·injection z with f e;subst f e;exact absurd rfl c
theorem ui{F G:DI Int}{p:List (List Int)}{k:List Int}{v:Int}(h:∀j,F.get j=if j∈p then G.get j else none)(e:G.get k=some v)(j:List Int):(F.put k v).get j=if j∈p++[k] then G.get j else none:=by
 rw[cB,h j];by_cases z:j=k
 ·subst z;rw[Vo rfl,Vo (by simp),e]
 · rw[on z];by_cases b:j∈p
   ·rw[Vo b,Vo (VB _ b)]
   · rw[on b,on (λa=>by
      rcases Vy.mp a with a|a
      ·exact b a
      ·exact z (VF.mp a))]
theorem Ai{sz:Int}{S:Tp}{Z U:DI Int}{T:Tp}(h:DrawOk sz S Z U T):∃g,(vG sz S Z U T).res=.ok g/\GuildIs g sz S Z U T/\Few g/\Wf sz g:=by
 obtain⟨Y,X⟩:=h.size
 have e1:nH ⟨sz,S,Z,U,T,none,none,none,none,none⟩=.nx ⟨sz,S,Z,U,T,some ⟨sz,[],[],[],[]⟩,none,none,none,none⟩:=by
  simp[nH,fN,Y,X]
 obtain⟨s2,e2,g2,C,B,rfl,c2,l2,w2,n2,y2,len2⟩:=cu (u:=λa s=>{s with v0q:=some a.1,v1q:=some a.2}) (c:=jp) (λp (s:S_bl9)=>∃g N M,s=⟨sz,S,Z,U,T,some g,N,M,none,none⟩/\Wf sz g/\g.lω=[]/\g.wω=[]/\g.sω=[]/\(∀x y,(g.S.get [x,y]).isSome=true↔(x,y)∈p\/(y,x)∈p)/\g.S.length<=2*p.length)
  S ⟨sz,S,Z,U,T,some ⟨sz,[],[],[],[]⟩,none,none,none,none⟩ ⟨_,none,none,rfl,Wf.new,rfl,rfl,rfl,λx y=>by simp[yX],by simp⟩ (by
   rintro p ⟨a,b⟩ r s d ⟨g,N,M,rfl,f,hl,W,K,i,l⟩;have P:=f.count;have n:(a,b)∈S:=by rw[d];simp
   have A:=h.S.all _ n;have J:=h.S.nd;rw[d]at J;have V:=VW.mp J;have hp1:(a,b)∉p:=λz=>V.2.2 _ z _ Vt rfl
   have hp2:(b,a)∉p:=λz=>by
    have:(b,a)∈S:=by rw[d];exact VB _ z
    have:=h.S.all _ this
    simp only at A this;omega
   have m:p.length<=10000:=by
    have:=h.S.len
    rw[d,Vw]at this;omega
   simp only at A
   have gn:g.S.get [a,b]=none:=by
    cases q:g.S.get [a,b] with
    |none=>rfl
    |some v=>
      rcases(i a b).mp (by rw[q];rfl) with z|z
      ·exact absurd z hp1
      ·exact absurd z hp2
   have sp:=v5 g a b (by omega) (by omega) (by omega) gn (by unfold ac;omega);refine⟨_,.inl (by simp[jp,sp]),{g with S:=(g.S.put [a,b] true).put [b,a] true},some a,some b,rfl,f.lay (by omega) (by omega),hl,W,K,λx y=>?_,?_⟩
   ·exact CD (i x y)
   · show((g.S.put [a,b] true).put [b,a] true).length<=_
     have:=eB (F:=g.S.put [a,b] true) (k:=[b,a]) (v:=true)
     have:=eB (F:=g.S) (k:=[a,b]) (v:=true)
     rw[Vw];simp;omega)
 have hwl:=h.S.len
 obtain⟨s3,e3,g3,O,rfl,c3,w3,n3,q3,y3,k3,G⟩:=cu (u:=λa s=>{s with vjq:=some a}) (c:=jo) (λp (s:S_bl9)=>∃g p0,s=⟨sz,S,Z,U,T,some g,C,B,p0,none⟩/\Wf sz g/\g.wω=[]/\g.sω=[]/\g.S.length<=30000/\(∀x y,(g.S.get [x,y]).isSome=true↔(x,y)∈S\/(y,x)∈S)/\(∀k,g.lω.get k=if k∈p then Z.get k else none)/\g.lω.length<=p.length)
  (Z.map (·.1)) ⟨sz,S,Z,U,T,some g2,C,B,none,none⟩ ⟨g2,none,rfl,c2,w2,n2,by omega,y2,λk=>by rw[l2];rfl,by rw[l2];simp⟩ (by
    rintro p k r s d ⟨g,p0,rfl,f,W,K,I,i,L,l⟩;have P:=f.count;obtain⟨v,H,n⟩:=lZ h.Z.2.1 (k:=k) (by rw[d];simp);obtain⟨a,b,rfl,ha1,ha2,hb1,hb2⟩:=h.Z.2.2 _ n
    have m:p.length<=100:=by
     have:=h.Z.1
     have e:(Z.map (·.1)).length=Z.length:=Vr ..;rw[d,Vw]at e;omega
    have sp:=xV g a b v (by omega) (by omega) (by unfold ac;omega);refine⟨_,.inl (by simp[jo,GL,Ve,H,sp]),{g with lω:=g.lω.put [a,b] v},some [a,b],rfl,f.like v (by omega) (by omega),W,K,I,i,λj=>?_,?_⟩
    ·exact ui L H j
    · show(g.lω.put [a,b] v).length<=_
      rw[Vw];exact VT eB (by simp;omega))
 obtain⟨s4,e4,g4,p4,rfl,c4,n4,q4,y4,k4,E,f4,w⟩:=cu (u:=λa s=>{s with vcq:=some a}) (c:=jn) (λp (s:S_bl9)=>∃g k0,s=⟨sz,S,Z,U,T,some g,C,B,O,k0⟩/\Wf sz g/\g.sω=[]/\g.S.length<=30000/\(∀x y,(g.S.get [x,y]).isSome=true↔(x,y)∈S\/(y,x)∈S)/\(∀k,g.wω.get k=if k∈p then U.get k else none)/\g.wω.length<=p.length/\(∀k,g.lω.get k=Z.get k)/\g.lω.length<=30000)
  (U.map (·.1)) ⟨sz,S,Z,U,T,some g3,C,B,O,none⟩ ⟨g3,none,rfl,c3,n3,q3,y3,λk=>by rw[w3];rfl,by rw[w3];simp,λk=>by
    rw[k3 k];by_cases z:k∈Z.map (·.1)
    ·rw[Vo z]
    ·rw[on z,lq z],by have:=h.Z.1;rw[Vr]at G;omega⟩ (by
    rintro p k r s d ⟨g,k0,rfl,f,K,I,i,L,l,hf,o⟩;have P:=f.count;obtain⟨v,H,n⟩:=lZ h.U.2.1 (k:=k) (by rw[d];simp);have hr:=h.U.2.2 _ n
    have m:p.length<=100:=by
     have:=h.U.1
     have e:(U.map (·.1)).length=U.length:=Vr ..;rw[d,Vw]at e;omega
    have sp:=xQ g k v (by rw[P];exact hr) (by omega) (by unfold ac;omega);refine⟨_,.inl (by simp[jn,H,sp]),{g with wω:=g.wω.put k v},some k,rfl,f.wish v hr,K,I,i,λj=>?_,?_,hf,o⟩
    ·exact ui L H j
    · show(g.wω.put k v).length<=_
      rw[Vw];exact VT eB (by simp;omega))
 obtain⟨s5,e5,g5,a5,b5,rfl,c5,q5,y5,k5,D,f5,t,R,Q⟩:=cu (u:=λa s=>{s with v0q:=some a.1,v1q:=some a.2}) (c:=jm) (λp (s:S_bl9)=>∃g N M,s=⟨sz,S,Z,U,T,some g,N,M,O,p4⟩/\Wf sz g/\g.S.length<=30000/\(∀x y,(g.S.get [x,y]).isSome=true↔(x,y)∈S\/(y,x)∈S)/\(∀k,g.wω.get k=U.get k)/\g.wω.length<=30000/\(∀k,g.lω.get k=Z.get k)/\g.lω.length<=30000/\(∀x y,(g.sω.get [x,y]).isSome=true↔(x,y)∈p)/\g.sω.length<=p.length)
  T ⟨sz,S,Z,U,T,some g4,C,B,O,p4⟩ ⟨g4,C,B,rfl,c4,q4,y4,λk=>by
   rw[k4 k];by_cases z:k∈U.map (·.1)
   ·rw[Vo z]
   ·rw[on z,lq z],by have:=h.U.1;rw[Vr]at E;omega,f4,w,λx y=>by rw[n4];simp[yX],by rw[n4];simp⟩ (by
   rintro p ⟨a,b⟩ r s d ⟨g,N,M,rfl,f,I,i,L,hkl,hf,o,hs,hsl⟩;have P:=f.count;have n:(a,b)∈T:=by rw[d];simp
   have A:=h.T.2.2 _ n;unfold zT at A;simp only at A
   have m:p.length<=100:=by
    have:=h.T.1
    rw[d,Vw]at this;omega
   have sp:=xS g a b (by omega) (by omega) A.2.2.2.2 (by unfold ac;omega);refine⟨_,.inl (by simp[jm,sp]),{g with sω:=g.sω.put [a,b] true},some a,some b,rfl,f.shun (by omega) (by omega),I,i,L,hkl,hf,o,λx y=>?_,?_⟩
   ·exact CC (hs x y)
   · show(g.sω.put [a,b] true).length<=_
     rw[Vw];exact VT eB (by simp;omega))
 refine⟨g5,?_,⟨c5.count,y5,f5,k5,R⟩,⟨q5,t,D,by have:=h.T.1;omega⟩,c5⟩;unfold vG xb;simp only[ak,e1];simp[uW,uV,uU,uT,uS,e2,e3,e4,e5]
structure PathOk (sz:Int) (r:List Int):Prop where
 ne:r≠[]
 last:r.getLast?=some 0
 nd:r.Nodup
 all:∀x∈r,0<=x/\x<sz
theorem PathOk.len{sz:Int}{r:List Int}(p:PathOk sz r):(r.length:Int)<=sz:=by
 have:=dQ sz.toNat r p.nd λx a=>by have:=p.all x a;omega
 obtain⟨x,a⟩:=XT r p.ne
 have:=p.all x a
 omega
theorem PathOk.road{sz h:Int}{r:List Int}(p:PathOk sz r)(c:0<=h/\h<sz)(b:h∉r):RoadOk sz (h::r):=by
 obtain⟨q,t,rfl⟩:∃q t,r=q::t:=by
  cases r with
  |nil=>exact absurd rfl p.ne
  |cons q t=>exact⟨q,t,rfl⟩
 refine⟨by simp,?_,VM.mpr ⟨b,p.nd⟩,λx a=>?_⟩
 ·rw[List.getLast?_cons_cons];exact p.last
 · rcases VA.mp a with z|z
   ·rw[z];exact c
   ·exact p.all x z
theorem RoadOk.path{sz:Int}{r:List Int}(h:RoadOk sz r):PathOk sz r:=⟨λz=>by have:=h.two;rw[z]at this;simp at this,h.last,h.nd,h.all⟩
def wC(sh:Int->Bool)(h:Int)(r:List Int):Bool:=!decide (h∈r)&&!r.any sh
def GF(g:GΩ)(h b:Int):Bool:=(g.sω.get [h,b]).isSome
theorem oE{W:Type}(f:W->Bool):∀l:List W,(l.map f).any id=l.any f
 |[]=>rfl
 |a::l=>by rw[Vq,W6,W6,oE f l];rfl
theorem BM(g:GΩ)(a:Int)(c:List Int)(h:c.length<ac):(JF g a c).res=.ok (c.any (GF g a)):=by
 have e:∀s:S_m9,s=⟨g,a,c⟩->d9 (pC (·.vaq)) (λ_=>.ok true) (aD (uu false) (aR bW (ff (pC λp=>p.2.v0q) (pC λp=>p.1))) (aR (λg=>.ok g.sω) (pC λp=>p.2.vuq))) s=.ok (c.map (GF g a)):=by
  rintro s rfl;exact j4 (l:=c) (GF g a) rfl h λb _=>by simp[GF]
 unfold JF FW zk;simp only[bp,aH,aR];rw[e _ rfl];simp[oE]
def wB(sh:Int->Bool)(h:Int)(o:Option (List Int)):Bool:=match o with
 |none=>false
 |some r=>decide (h≠0)&&wC sh h r
theorem LP(g:GΩ)(h:Int)(o:Option (List Int))(b:∀r,o=some r->r.length<ac):(vF g h o).res=.ok (wB (GF g h) h o):=by
 unfold vF wW wB;cases o with
 |none=>simp[ip,dg]
 |some r=>
   by_cases h0:h=0
   ·simp[ip,dg,h0]
   · by_cases a:h∈r
     ·simp[ip,dg,h0,a,wC]
     ·simp[ip,dg,uF,h0,a,wC,BM g h r (b r rfl)]
theorem tD(h:Int)(a:List (Int×Int×List Int)):(z5 h a).res=.ok (if h=0 then some [0] else (qW a).map (·.2.2)):=by
 unfold z5 xj;by_cases h0:h=0
 ·simp[j2,jZ,h0,ac]
 · cases q:qW a with
   |none=>simp[j2,oj,oh,gB,h0,q]
   |some k=>simp[j2,oj,oh,gB,u8,h0,q]
theorem DD:∀{c:List (Int×Int×List Int)} {k:Int×Int×List Int},qW c=some k->k∈c:=by
 intro c;cases c with
 |nil=>intro k h;cases h
 |cons a r=>
   intro k h
   have d:∀(r:List (Int×Int×List Int)) (a:Int×Int×List Int),r.foldl (λb x=>if dU x b=true then x else b) a∈a::r:=by
    intro r
    induction r with
    |nil=>intro a;simp
    |cons x r e=>
      intro a;rw[Xj]
      have:=e (if dU x a=true then x else a)
      rcases VA.mp this with z|z
      · rw[z];split
        ·simp
        ·simp
      ·exact Vu _ (Vu _ z)
   injection h with h
   rw[<-h];exact d r a
def a9(sz:Int)(P:DI Bool)(a:Int):List Int:=(bV 0 sz).filter λb=>(P.get [a,b]).isSome
theorem Af(g:GΩ)(P:DI Bool)(a:Int)(h0:0<=g.hω)(c:g.hω<=1000):(JI g P a).res=.ok (a9 g.hω P a):=by
 have e:∀s:S_b9,s=⟨g,P,a⟩->d9 (aR (fb 0) (aR (λg=>.ok g.hω) (pC (·.vuq)))) (aD (uu false) (aR bW (ff (pC λp=>p.2.v0q) (pC λp=>p.1))) (pC λp=>p.2.vkq)) (pC λp=>p.1) s=.ok (a9 g.hω P a):=by
  rintro s rfl;rw[l3 (l:=bV 0 g.hω) (λb=>(P.get [a,b]).isSome) (λx=>x) (by simp[cT (lo:=0) (hi:=g.hω) (by omega) (by omega) (by omega) (by omega)]) (by rw[bf];unfold ac;omega) (λb _=>by simp) (λb _ _=>by simp)];simp[a9]
 unfold JI F8 zL;simp only[bp,aH];rw[e _ rfl];rfl
theorem fy(g:GΩ)(a:Int)(b:0<=a/\a<g.hω)(c:g.hω<=1000):(Bv g a).res=.ok (a9 g.hω g.S a):=by
 have e:=g6 g [a] (in1 b) (by omega);have d:=Af g g.S a (by omega) c;unfold Bv F3;simp[zx,zw,e,d,ac]
def cY(T:List (Option (List Int)))(h:Int):Option (List Int):=T.getD h.toNat none
theorem PF{T:List (Option (List Int))}{b:Int}(h0:0<=b)(a:b<T.length):j8 T b=some (cY T b):=by
 rw[kW T h0,List.getElem?_eq_getElem (by omega)];unfold cY;rw[List.getD_eq_getElem?_getD,List.getElem?_eq_getElem (by omega)];rfl
theorem p7{T:List (Option (List Int))}{b:Int}{r:List Int}(h:cY T b=some r):some r∈T:=by
 unfold cY at h;rw[List.getD_eq_getElem?_getD]at h;cases q:T[b.toNat]? with
 |none=>rw[q]at h;cases h
 |some o=>rw[q]at h;have h:o=some r:=h;subst h;exact Wn q
structure TableOk (sz:Int) (T:List (Option (List Int))):Prop where
 len:(T.length:Int)=sz
 all:∀r,some r∈T->PathOk sz r
theorem mB{sz:Int}{P:DI Bool}{a b:Int}(h:b∈a9 sz P a):0<=b/\b<sz:=c8.mp (WF.mp h).1
theorem JX{sz:Int}(h:0<sz):PathOk sz [0]:=⟨by simp,rfl,by simp,λx a=>by rw[VF.mp a];omega⟩
theorem TableOk.set{sz:Int}{T:List (Option (List Int))}(h:TableOk sz T)(j:Nat)(o:Option (List Int))(b:∀r,o=some r->PathOk sz r):TableOk sz (T.set j o):=⟨by rw[VS];exact h.len,λr a=>by
 rcases WQ a with z|z
 ·exact h.all r z
 ·exact b r z.symm⟩
theorem dF{W:Tp}{sz:Int}(c:WaysOk sz W)(a b:Int):((a,b)∈W\/(b,a)∈W)↔(min a b,max a b)∈W:=by
 constructor
 · rintro(z|z)
   · have:=(c.all _ z).2.1
     rw[show min a b=a by simp only at this;omega,show max a b=b by simp only at this;omega];exact z
   · have:=(c.all _ z).2.1
     rw[show min a b=b by simp only at this;omega,show max a b=a by simp only at this;omega];exact z
 · intro z;by_cases q:a<=b
   ·rw[show min a b=a by omega,show max a b=b by omega]at z;exact .inl z
   ·rw[show min a b=b by omega,show max a b=a by omega]at z;exact .inr z
theorem GuildIs.lay{g:GΩ}{sz:Int}{W:Tp}{L Q:DI Int}{T:Tp}(G:GuildIs g sz W L Q T)(a b:Int):GuildIs {g with S:=(g.S.put [a,b] true).put [b,a] true} sz (W++[(min a b,max a b)]) L Q T:=by
 refine⟨G.count,λx y=>?_,G.lik,G.wsh,G.shn⟩;show(((g.S.put [a,b] true).put [b,a] true).get [x,y]).isSome=true↔_;rw[cB,cB,Vy,Vy,VF,VF];by_cases d:[x,y]=[b,a]
 · rw[Vo d];injection d with d c;injection c with c;subst d c
   simp only[XN,true_iff];by_cases q:x<=y
   ·exact .inl (.inr (by rw[show min y x=x by omega,show max y x=y by omega]))
   ·exact .inr (.inr (by rw[show min y x=y by omega,show max y x=x by omega]))
 · rw[on d];by_cases c:[x,y]=[a,b]
   · rw[Vo c];injection c with c h;injection h with h;subst c h
     simp only[XN,true_iff];by_cases q:x<=y
     ·exact .inl (.inr (by rw[show min x y=x by omega,show max x y=y by omega]))
     ·exact .inr (.inr (by rw[show min x y=y by omega,show max x y=x by omega]))
   · rw[on c,G.way];constructor
     · rintro(z|z)
       ·exact .inl (.inl z)
       ·exact .inr (.inl z)
     · have no:∀u v:Int,(u,v)=(min a b,max a b)->[u,v]=[a,b]\/[u,v]=[b,a]:=λu v e=>by
        injection e with e1 f
        by_cases q:a<=b
        ·exact .inl (by rw[e1,f,show min a b=a by omega,show max a b=b by omega])
        ·exact .inr (by rw[e1,f,show min a b=b by omega,show max a b=a by omega])
       have i:∀{u v p q:Int},[u,v]=[p,q]->[v,u]=[q,p]:=λe=>by injection e with e1 f;injection f with f;rw[e1,f]
       rintro((z|z) | (z|z))
       ·exact .inl z
       · rcases no _ _ z with w|w
         ·exact absurd w c
         ·exact absurd w d
       ·exact .inr z
       · rcases no _ _ z with w|w
         ·exact absurd (i w) d
         ·exact absurd (i w) c
theorem GuildIs.lift{g:GΩ}{sz:Int}{W m:Tp}{L Q:DI Int}{T:Tp}(G:GuildIs g sz W L Q T)(o:WaysOk sz W)(a b:Int)(l:∀p,p∈m↔p∈W/\p≠(min a b,max a b)):GuildIs {g with S:=(g.S.del [a,b]).del [b,a]} sz m L Q T:=by
 refine⟨G.count,λx y=>?_,G.lik,G.wsh,G.shn⟩;show(((g.S.del [a,b]).del [b,a]).get [x,y]).isSome=true↔_;rw[rk,rk,l,l]
 have no:∀u v:Int,(u,v)=(min a b,max a b)->[u,v]=[a,b]\/[u,v]=[b,a]:=λu v e=>by
  injection e with e1 c
  by_cases q:a<=b
  ·exact .inl (by rw[e1,c,show min a b=a by omega,show max a b=b by omega])
  ·exact .inr (by rw[e1,c,show min a b=b by omega,show max a b=a by omega])
 have d:∀u v:Int,(u,v)∈W->[u,v]=[a,b]\/[u,v]=[b,a]->(u,v)=(min a b,max a b):=λu v n e=>by
  have:=(o.all _ n).2.1
  simp only at this;rcases e with e|e<;>(injection e with e1 c;injection c with c;subst e1 c)
  ·rw[show min u v=u by omega,show max u v=v by omega]
  ·rw[show min v u=u by omega,show max v u=v by omega]
 have k:∀{u v p q:Int},[u,v]=[p,q]->[v,u]=[q,p]:=λe=>by injection e with e1 c;injection c with c;rw[e1,c]
 by_cases j:[x,y]=[b,a]
 · rw[Vo j];simp only[Option.isSome_none,W3,false_iff];rintro(⟨h,f⟩|⟨h,f⟩)
   ·exact f (d _ _ h (.inr j))
   ·exact f (d _ _ h (.inl (k j)))
 · rw[on j];by_cases i:[x,y]=[a,b]
   · rw[Vo i];simp only[Option.isSome_none,W3,false_iff];rintro(⟨h,f⟩|⟨h,f⟩)
     ·exact f (d _ _ h (.inl i))
     ·exact f (d _ _ h (.inr (k i)))
   · rw[on i,G.way];constructor
     · rintro(w|w)
       · refine .inl ⟨w,λe=>?_⟩;rcases no _ _ e with v|v
         ·exact i v
         ·exact j v
       · refine .inr ⟨w,λe=>?_⟩;rcases no _ _ e with v|v
         ·exact j (k v)
         ·exact i (k v)
     · rintro(⟨w,_⟩|⟨w,_⟩)
       ·exact .inl w
       ·exact .inr w
theorem wg{W:Type}[DecidableEq W]:∀{xs:List W} {x:W},x∈xs->xs.Nodup->∃ys,tG xs x=some ((),ys)/\ys.Nodup/\ys.length<=xs.length/\∀y,y∈ys↔y∈xs/\y≠x
 |[],x,h,_=>(nomatch h)
 | z::xs,x,h,nd=>by
   have a:=VM.mp nd;by_cases e:z=x
   · subst e;refine⟨xs,by unfold tG;simp[List.findIdx?_cons],a.2,by simp,λy=>?_⟩;constructor
     ·exact λc=>⟨Vu _ c,λw=>a.1 (w▸c)⟩
     · rintro⟨c,l⟩;rcases VA.mp c with w|w
       ·exact absurd w l
       ·exact w
   · have k:x∈xs:=by
      rcases VA.mp h with w|w
      ·exact absurd w.symm e
      ·exact w
     obtain⟨ys,g,o,n,f⟩:=wg k a.2;unfold tG at g;obtain⟨j,m,b⟩:=Option.map_eq_some_iff.mp g;have b:xs.eraseIdx j=ys:=by injection b
     refine⟨z::ys,?_,VM.mpr ⟨λw=>a.1 ((f z).mp w).1,o⟩,by simpa using n,λy=>?_⟩
     ·unfold tG;rw[List.findIdx?_cons,decide_eq_false e,m];simp[b]
     · rw[VA,VA,f];constructor
       · rintro(w|⟨i,d⟩)
         ·exact⟨.inl w,by rw[w];exact e⟩
         ·exact⟨.inr i,d⟩
       · rintro⟨w|w,d⟩
         ·exact .inl w
         ·exact .inr ⟨w,d⟩
def E8:Nat->List Int->List (List Int)
 |0,_=>[[]]
 |n+1,l=>[]::l.flatMap λx=>(E8 n (l.erase x)).map (x::·)
theorem p6:∀(n:Nat) (b l:List Int),l.Nodup->(∀x∈l,x∈b)->l.length<=n->l∈E8 n b
 |0,b,l,_,_,h=>by rw[VZ.mp (Nat.le_zero.mp h)];exact Vt
 |n+1,b,[],_,_,_=>Vt
 | n+1,b,x::t,nd,d,h=>by
   have a:=VM.mp nd;refine Vu _ (List.mem_flatMap.mpr ⟨x,d x Vt,VV.mpr ⟨t,p6 n _ t a.2 (λy c=>?_) (by simpa using h),rfl⟩⟩);exact(List.mem_erase_of_ne λe=>a.1 (by rw[<-e];exact c)).mpr (d y (Vu _ c))
theorem yT{W X:Type}{f:W->X}:∀{l:List W},(l.map f).Nodup->∀a∈l,∀b∈l,f a=f b->a=b
 |[],_,a,c,_,_,_=>by cases c
 | x::l,h,a,c,b,d,e=>by
   rw[Vq,VM]at h;rcases VA.mp c with z|z<;>rcases VA.mp d with w|w
   ·rw[z,w]
   ·subst z;exact(h.1 (VV.mpr ⟨b,w,e.symm⟩)).elim
   ·subst w;exact(h.1 (VV.mpr ⟨a,z,e⟩)).elim
   ·exact yT h.2 a z b w e
theorem my{S:List (List Int)}(j:(S.map cH).Nodup){c:List (List Int)}(f:c.Nodup)(h:∀k∈c,k∈S):(c.map cH).Nodup:=by
 unfold List.Nodup;rw[List.pairwise_map];refine List.Pairwise.imp_of_mem ?_ f;intro a b i g d e;exact d (yT j a (h a i) b (h b g) e)
def C1(n:Int):List (List Int):=(bV 0 n).flatMap λx=>(bV 0 n).map λy=>[x,y]
theorem AG{n:Int}{k:List Int}(h:PairOk n k):k∈C1 n:=by
 obtain⟨a,b,rfl,f,e,d,c⟩:=h;exact List.mem_flatMap.mpr ⟨a,c8.mpr ⟨f,e⟩,VV.mpr ⟨b,c8.mpr ⟨d,c⟩,rfl⟩⟩
theorem PairOk.mono{m n:Int}(c:m<=n){k:List Int}(h:PairOk m k):PairOk n k:=by
 obtain⟨a,b,rfl,e,g,d,f⟩:=h;exact⟨a,b,rfl,e,by omega,d,by omega⟩
theorem Ay{sz:Int}(m:sz<=60){g:List (List Int)}(nd:g.Nodup)(h:∀k∈g,PairOk sz k):g.length<=3600:=by
 have:=dQ 3600 (g.map λk=>k.getD 0 0*60+k.getD 1 0) (by
  unfold List.Nodup;rw[List.pairwise_map];refine List.Pairwise.imp_of_mem ?_ nd;intro p q hp j f e;obtain⟨a,b,rfl,s,r,o,n⟩:=h p hp;obtain⟨c,d,rfl,y,w,v,u⟩:=h q j;simp at e;have e1:a=c:=by omega
  have t:b=d:=by omega
  rw[e1,t]at f;exact f rfl) (λx i=>by
  obtain⟨k,l,rfl⟩:=VV.mp i;obtain⟨a,b,rfl,s,r,o,n⟩:=h k l;simp
  omega)
 rwa [Vr]at this
theorem db{X:Type}{sz:Int}(a:sz<=60){F:DI X}(h:DI.nd F/\∀q∈F,PairOk sz q.1):F.length<=3600:=by
 have nd:(List.map Prod.fst F).Nodup:=h.1
 have:=Ay a nd λk c=>by obtain⟨q,b,rfl⟩:=VV.mp c;exact h.2 q b
 rwa [Vr]at this
theorem yD{X:Type}{F:DI X}{k:List Int}{v:X}{q:List Int×X}(h:q∈F.put k v):q∈F\/q=(k,v):=by
 unfold DI.put at h;split at h
 · obtain⟨p,hp,e⟩:=VV.mp h;by_cases z:p.1=k
   ·rw[Vo z]at e;rw[<-e,z];exact .inr rfl
   ·rw[on z]at e;rw[<-e];exact .inl hp
 · rcases Vy.mp h with z|z
   ·exact .inl z
   ·exact .inr (VF.mp z)
structure Hs (g:GΩ):Prop where
 S:((g.S.map (·.1)).map cH).Nodup
 lik:((g.lω.map (·.1)).map cH).Nodup
 shn:((g.sω.map (·.1)).map cH).Nodup
 wsh:((g.wω.map (·.1)).map cH).Nodup
theorem LF{Z W:Type}{a:Z->Option (DI W)}{p:Z->DI W->Z}{c:Z->Res (DI W)}{s:Z}{F:DI W}(e:a s=some [])(d:c s=.ok F)(b:((F.map (·.1)).map cH).Nodup):qv a p c s=.ok () (p s F):=by
 unfold qv;rw[e];dsimp only;rw[d];show(if ((F.map (·.1)).map cH).Nodup then OutC.ok () (p s F) else .bad)=_;rw[if_pos b]
theorem lW{Z W X:Type}{a:Z->Option (DI W)}{p:Z->DI W->Z}{c:Z->Res (DI W)}{s:Z}(F:DI W)(e:a s=some [])(d:c s=.ok F)(b:((F.map (·.1)).map cH).Nodup):(ar (qv a p c):Z->FlC Z X) s=.nx (p s F):=by
 unfold ar;rw[LF e d b];rfl
theorem GY{g:GΩ}(c:1<=g.hω)(b:g.hω<=60)(a:Hs g):∃s,Gx g=.ok g s:=by
 have e1:sr ⟨g,none⟩=.nx ⟨g,some ⟨g.hω,[],[],[],[]⟩⟩:=by simp[sr,fN,c,b]
 have h:sn ⟨g,some ⟨g.hω,[],[],[],[]⟩⟩=.nx ⟨g,some ⟨g.hω,g.S,[],[],[]⟩⟩:=by
  unfold sn;exact lW g.S rfl rfl a.S
 have f:sk ⟨g,some ⟨g.hω,g.S,[],[],[]⟩⟩=.nx ⟨g,some ⟨g.hω,g.S,g.lω,[],[]⟩⟩:=by
  unfold sk;exact lW g.lω rfl rfl a.lik
 have e:sj ⟨g,some ⟨g.hω,g.S,g.lω,[],[]⟩⟩=.nx ⟨g,some ⟨g.hω,g.S,g.lω,g.sω,[]⟩⟩:=by
  unfold sj;exact lW g.sω rfl rfl a.shn
 have d:si ⟨g,some ⟨g.hω,g.S,g.lω,g.sω,[]⟩⟩=.nx ⟨g,some g⟩:=by
  unfold si;exact lW g.wω rfl rfl a.wsh
 unfold Gx FV;simp only[ak,e1,h,f,e,d];exact⟨_,rfl⟩
abbrev xE:=Int×Int×List Int
def fJ(p:PostT)(h:Int):DJ xE:=p.standings.getD h.toNat []
structure PW (sz:Int) (p:PostT):Prop where
 g:Wf sz p.guild
 roads:TableOk sz p.roads
 told:DI.nd p.told_last/\∀q∈p.told_last,PairOk sz q.1
 wrt:DI.nd p.written_last/\∀q∈p.written_last,PairOk sz q.1
 lts:DI.nd p.letters/\∀q∈p.letters,PairOk sz q.1
 ltv:∀q∈p.letters,∀r,q.2=some r->PathOk sz r
 sln:(p.standings.length:Int)=sz
 stn:∀F∈p.standings,DJ.nd F/\∀q∈F,(0<=q.1/\q.1<sz)/\PathOk sz q.2.2.2
def bF(p:PostT)(w r:Int):PostT:=if (p.written_last.get [w,r]).bind id=cY p.roads w then p else {p with written_last:=p.written_last.put [w,r] (cY p.roads w),letters:=p.letters.put [w,r] (cY p.roads w)}
theorem l9{sz:Int}{p:PostT}(P:PW sz p)(a:sz<=60)(w r:Int)(d:0<=w/\w<sz):∃o,qr p w r=.ok () ⟨bF p w r,w,r,o⟩:=by
 have GL:j8 p.roads w=some (cY p.roads w):=PF d.1 (by have:=P.roads.len;omega);have e1:oq ⟨p,w,r,none⟩=.nx ⟨p,w,r,some (cY p.roads w)⟩:=by simp[oq,GL]
 have e:=db a P.wrt;have l2:=db a P.lts;refine⟨some (cY p.roads w),?_⟩;unfold qr xm bF;simp only[ak,e1];by_cases q:(p.written_last.get [w,r]).bind id=cY p.roads w
 ·rw[Vo q];simp[om,j3,q]
 · rw[if_neg q];have c:p.written_last.length<ac:=by unfold ac;omega
   have b:p.letters.length<ac:=by unfold ac;omega
   simp[om,vc,va,q,c,b]
theorem PW.write{sz:Int}{p:PostT}(P:PW sz p){w r:Int}(a:0<=w/\w<sz)(b:0<=r/\r<sz):PW sz (bF p w r):=by
 unfold bF;split
 ·exact P
 · have k:PairOk sz [w,r]:=⟨w,r,rfl,a.1,a.2,b.1,b.2⟩;refine⟨P.g,P.roads,P.told,⟨fA P.wrt.1,dL (P:=PairOk sz) P.wrt.2 k⟩,⟨fA P.lts.1,dL (P:=PairOk sz) P.lts.2 k⟩,λq c r e=>?_,P.sln,P.stn⟩;rcases yD c with z|z
   ·exact P.ltv q z r e
   ·subst z;exact P.roads.all r (p7 e)
theorem gW(p:PostT)(w r:Int):(bF p w r).guild=p.guild:=by unfold bF;split<;>rfl
theorem sT(p:PostT)(w r:Int):(bF p w r).roads=p.roads:=by unfold bF;split<;>rfl
theorem i6(p:PostT)(w r:Int):(bF p w r).told_last=p.told_last:=by unfold bF;split<;>rfl
def writeAll(p:PostT)(w:Int):PostT:=(a9 p.guild.hω p.guild.S w).foldl (λp r=>bF p w r) p
theorem jN{W X:Type}{f:X->W->X}(R:X->Prop):∀(l:List W) (b:X),R b->(∀b a,a∈l->R b->R (f b a))->R (l.foldl f b)
 |[],_,h,_=>h
 |a::l,b,h,st=>jN R l (f b a) (st b a Vt h) λb c d=>st b c (Vu _ d)
theorem PW.writeAll{sz:Int}{p:PostT}(P:PW sz p){w:Int}(d:0<=w/\w<sz):PW sz (writeAll p w):=by
 unfold K12.writeAll;exact jN (PW sz) _ p P λb a c Q=>Q.write d (by rw[P.g.count]at c;exact mB c)
theorem sW(p:PostT)(w:Int):(writeAll p w).guild=p.guild:=jN (λq=>q.guild=p.guild) _ p rfl λb a _ h=>(gW b w a).trans h
theorem xI(p:PostT)(w:Int):(writeAll p w).told_last=p.told_last:=jN (λq=>q.told_last=p.told_last) _ p rfl λb a _ h=>(i6 b w a).trans h
theorem k6{sz:Int}{p:PostT}(P:PW sz p)(d:sz<=60)(w:Int)(b:0<=w/\w<sz):∃o,qq p w=.ok () ⟨writeAll p w,w,o⟩:=by
 have nb:=fy p.guild w (by rw[P.g.count];exact b) (by rw[P.g.count];omega)
 obtain⟨i,e,o,rfl,_⟩:=kE (u:=λa s=>{s with voq:=some a}) (c:=jq) (λ(q:PostT) (s:S_bd9)=>∃o,s=⟨q,w,o⟩/\PW sz q) (λq r=>bF q w r) (a9 p.guild.hω p.guild.S w) p ⟨p,w,none⟩ ⟨none,rfl,P⟩ (by
  rintro q r s f ⟨o,rfl,Q⟩;obtain⟨j,h⟩:=l9 Q d w r b
  exact⟨⟨bF q w r,w,some r⟩,.inl (by simp[jq,h]),some r,rfl,Q.write b (by rw[P.g.count]at f;exact mB f)⟩)
 refine⟨o,?_⟩;unfold qq xl u9 writeAll;simp[nb,e]
def i4(h:Int)(F:DJ xE):Option (List Int):=if h=0 then some [0] else (qW (F.map (·.2))).map (·.2.2)
def b8(p:PostT)(h:Int):Bool×PostT:=if i4 h (fJ p h)=cY p.roads h then (false,p) else (true,writeAll {p with roads:=p.roads.set h.toNat (i4 h (fJ p h))} h)
theorem xP{p:PostT}{h:Int}(h0:0<=h)(a:h<p.standings.length):p.standings[h.toNat]?=some (fJ p h):=by
 unfold fJ;rw[List.getD_eq_getElem?_getD,List.getElem?_eq_getElem (by omega)];rfl
theorem oB{sz h:Int}{F:DJ xE}(h0:0<sz)(hF:∀q∈F,PathOk sz q.2.2.2){r:List Int}(e:i4 h F=some r):PathOk sz r:=by
 unfold i4 at e;split at e
 ·cases e;exact JX h0
 ·obtain⟨k,b,rfl⟩:=VJ.mp e;obtain⟨q,a,rfl⟩:=VV.mp (DD b);exact hF q a
theorem PW.st{sz:Int}{p:PostT}(P:PW sz p){h:Int}(a:0<=h/\h<sz):DJ.nd (fJ p h)/\∀q∈fJ p h,(0<=q.1/\q.1<sz)/\PathOk sz q.2.2.2:=
 P.stn _ (Wn (xP a.1 (by have:=P.sln;omega)))
theorem PW.set{sz:Int}{p:PostT}(P:PW sz p)(j:Nat)(o:Option (List Int))(a:∀r,o=some r->PathOk sz r):PW sz {p with roads:=p.roads.set j o}:=⟨P.g,P.roads.set j o a,P.told,P.wrt,P.lts,P.ltv,P.sln,P.stn⟩
theorem PW.choose{sz:Int}{p:PostT}(P:PW sz p)(h0:0<sz){h:Int}(a:0<=h/\h<sz):PW sz (b8 p h).2:=by
 unfold b8;split
 ·exact P
 ·exact(P.set _ _ λr e=>oB h0 (λq b=>((P.st a).2 q b).2) e).writeAll a
theorem kj{sz:Int}{p:PostT}(P:PW sz p)(d:sz<=60)(h:Int)(a:0<=h/\h<sz):∃o,Bt p h=.ok (b8 p h).1 ⟨(b8 p h).2,h,o⟩:=by
 have GL:j8 p.roads h=some (cY p.roads h):=PF a.1 (by have:=P.roads.len;omega);have c:p.standings[h.toNat]?=some (fJ p h):=xP a.1 (by have:=P.sln;omega);have b:=tD h ((fJ p h).map (·.2))
 have e1:r6 ⟨p,h,none⟩=.nx ⟨p,h,some (i4 h (fJ p h))⟩:=by
  simp[r6,a.1,c,b,i4]
 unfold Bt FR b8;simp only[ak,e1];by_cases q:i4 h (fJ p h)=cY p.roads h
 ·rw[Vo q];exact⟨some (i4 h (fJ p h)),by simp[r0,lG,GL,q]⟩
 ·rw[on q];have f:mN p.roads.length h=some h.toNat:=OF a.1 (by have:=P.roads.len;omega);have j:=P.set h.toNat (i4 h (fJ p h)) λr e=>oB (sz:=sz) (by omega) (λq g=>((P.st a).2 q g).2) e;obtain⟨o,i⟩:=k6 j d h a;exact⟨some (i4 h (fJ p h)),by simp[r0,zg,zf,ze,GL,q,f,i]⟩
def E2(g:GΩ)(F:DJ xE)(w r:Int)(o:Option (List Int)):DJ xE:=if wB (GF g r) r o=true then DJ.put F w (dX g.lω g.wω (r::o.getD [])) else DJ.del F w
def uf(p:PostT)(w r:Int)(o:Option (List Int)):PostT:={p with told_last:=p.told_last.put [w,r] o,standings:=p.standings.set r.toNat (E2 p.guild (fJ p r) w r o)}
def bJ(p:PostT)(w r:Int):PostT:={p with letters:=p.letters.del [w,r],told_last:=p.told_last.del [w,r],written_last:=p.written_last.del [w,r],standings:=p.standings.set r.toNat (DJ.del (fJ p r) w)}
theorem A7{X:Type}{F:DJ X}{k:Int}(h:DJ.get F k=none):DJ.del F k=F:=by
 unfold DJ.get at h;unfold DJ.del;rw[Option.map_eq_none_iff,List.find?_eq_none]at h;rw[List.filter_eq_self];exact λp hp=>by simpa using h p hp
theorem Fm{X:Type}{F:DI X}{k:List Int}(h:F.get k=none):F.del k=F:=by
 unfold DI.get at h;unfold DI.del;rw[Option.map_eq_none_iff,List.find?_eq_none]at h;rw[List.filter_eq_self];exact λp hp=>by simpa using h p hp
theorem DF{X:Type}{F:DJ X}{k:Int}{v:X}{q:Int×X}(h:q∈DJ.put F k v):q∈F\/q=(k,v):=by
 unfold DJ.put at h;split at h
 · obtain⟨p,hp,e⟩:=VV.mp h;by_cases z:p.1=k
   ·rw[Vo z]at e;rw[<-e,z];exact .inr rfl
   ·rw[on z]at e;rw[<-e];exact .inl hp
 · rcases Vy.mp h with z|z
   ·exact .inl z
   ·exact .inr (VF.mp z)
theorem xN{p:PostT}{h:Int}(h0:0<=h)(a:h<p.standings.length):p.standings.set h.toNat (fJ p h)=p.standings:=by
 refine XZ λi=>?_;rw[List.getElem?_set];split
 ·rename_i e;subst e;rw[Vo (by omega),xP h0 a]
 ·rfl
theorem qH{Z W X:Type}{g:Z->Option (DI (Option W))}{p:Z->DI (Option W)->Z}{ck:Z->Res (List Int)}{s:Z}(F:DI (Option W))(k:List Int)(c:g s=some F)(b:ck s=.ok k)(a:p s F=s):(ar (i8 g p ck):Z->FlC Z X) s=.nx (p s (F.del k)):=by
 unfold ar i8;rw[c];dsimp only;rw[b];dsimp only[bndO];cases q:DI.get F k with
 |none=>rw[Fm q,a];rfl
 |some x=>rfl
theorem yQ{Z W X:Type}{g:Z->Option (DJ W)}{p:Z->DJ W->Z}{ck:Z->Res Int}{s:Z}(F:DJ W)(k:Int)(c:g s=some F)(b:ck s=.ok k)(a:p s F=s):(ar (pV g p ck):Z->FlC Z X) s=.nx (p s (DJ.del F k)):=by
 unfold ar pV;rw[c];dsimp only;rw[b];dsimp only[bndO];cases q:DJ.get F k with
 |none=>rw[A7 q,a];rfl
 |some x=>rfl
theorem Lc{p:PostT}{h:Int}(h0:0<=h)(a:h<p.standings.length):(if 0<=h then p.standings[h.toNat]? else none)=some (fJ p h):=by rw[Vo h0,xP h0 a]
theorem GW{sz:Int}{F:DJ xE}(c:sz<=60)(h:DJ.nd F/\∀q∈F,(0<=q.1/\q.1<sz)/\PathOk sz q.2.2.2):F.length<=60:=by
 have nd:(List.map Prod.fst F).Nodup:=h.1
 have:=dQ 60 _ nd λx a=>by
  obtain⟨q,b,rfl⟩:=VV.mp a
  have:=(h.2 q b).1
  omega
 rwa [Vr]at this
theorem G7{sz:Int}{p:PostT}(P:PW sz p)(c:sz<=60)(w r:Int)(d:0<=r/\r<sz)(o:Option (List Int))(h:∀t,o=some t->PathOk sz t):JC p w r o=.ok () ⟨uf p w r o,w,r,o⟩:=by
 have A:=db c P.told;have n:p.told_last.length<ac:=by unfold ac;omega
 have e1:rO ⟨p,w,r,o⟩=.nx ⟨{p with told_last:=p.told_last.put [w,r] o},w,r,o⟩:=by simp[rO,n]
 have i:r<p.standings.length:=by have:=P.sln;omega
 have j:=Lc d.1 i;have b:=LP p.guild r o λt e=>by have:=(h t e).len;unfold ac;omega
 have lst:=GW c (P.st d);have m:(fJ p r).length<ac:=by unfold ac;omega
 unfold JC FO uf E2;simp only[ak,e1];by_cases q:wB (GF p.guild r) r o=true
 · rw[Vo q];cases o with
   |none=>cases q
   |some t=>
     have hp:=h t rfl
     have v:r∉t:=by
      have a:wC (GF p.guild r) r t=true:=by
       unfold wB at q;revert q;simp
      unfold wC at a;simp at a;exact a.1
     have u:=LQ p.guild (r::t) (by rw[P.g.count];exact hp.road d v) (by rw[P.g.count];omega);have z:=hp.len;have ct:([r]:List Int).length+t.length<=ac:=by unfold ac;simp;omega
     have l:1<=ac:=by unfold ac;omega
     have k:1+t.length<=ac:=by simpa using ct
     simp[rN,lE,b,q,l,k,u,j,m]
 · rw[on q];have a:wB (GF p.guild r) r o=false:=by simpa using q
   have f:=yQ (X:=Unit) (g:=gI (λs:S_v9=>some s.vuq.standings) (λs=>some s.voq)) (p:=pI (λs:S_v9=>some s.vuq.standings) (λs y=>{s with vuq:={s.vuq with standings:=y}}) (λs=>some s.voq)) (ck:=pC (·.vDq)) (s:=⟨{p with told_last:=p.told_last.put [w,r] o},w,r,o⟩) (fJ p r) w j rfl (by
    show S_v9.mk _ w r o=_
    rw[xN d.1 i])
   unfold rN lF
   have x:(aH (gf vF (aR (λg=>.ok g.guild) (pC (·.vuq))) (pC (·.voq)) (pC (·.vrq))):S_v9->OutC S_v9 Bool) ⟨{p with told_last:=p.told_last.put [w,r] o},w,r,o⟩=.ok false ⟨{p with told_last:=p.told_last.put [w,r] o},w,r,o⟩:=by
    simp[b,a]
   unfold iL;rw[x];show a8 (some ()) ((ar _:S_v9->FlC S_v9 Unit) _)=_;rw[f];rfl
theorem PW.hear{sz:Int}{p:PostT}(P:PW sz p){w r:Int}(c:0<=w/\w<sz)(a:0<=r/\r<sz)(o:Option (List Int))(e:∀t,o=some t->PathOk sz t):PW sz (uf p w r o):=by
 have k:PairOk sz [w,r]:=⟨w,r,rfl,c.1,c.2,a.1,a.2⟩;refine⟨P.g,P.roads,⟨fA P.told.1,dL (P:=PairOk sz) P.told.2 k⟩,P.wrt,P.lts,P.ltv,by show((p.standings.set _ _).length:Int)=sz;rw[VS];exact P.sln,λF hF=>?_⟩;rcases WQ hF with z|z
 ·exact P.stn F z
 · subst z;unfold E2;split
   · rename_i q;cases o with
     |none=>cases q
     |some t=>
       have hp:=e t rfl
       have f:r∉t:=by
        have b:wC (GF p.guild r) r t=true:=by
         unfold wB at q;revert q;simp
        unfold wC at b;simp at b;exact b.1
       refine⟨Iw (P.st a).1,λq d=>?_⟩;rcases DF d with z|z
       ·exact(P.st a).2 q z
       ·subst z;exact⟨c,(hp.road a f).path⟩
   ·exact⟨yA (P.st a).1,λq d=>(P.st a).2 q (WF.mp d).1⟩
theorem pp{sz:Int}{p:PostT}(P:PW sz p)(w r:Int)(a:0<=r/\r<sz):Gu p w r=.ok () ⟨bJ p w r,w,r⟩:=by
 have b:r<p.standings.length:=by have:=P.sln;omega
 have e1:rT ⟨p,w,r⟩=.nx ⟨{p with letters:=p.letters.del [w,r]},w,r⟩:=by unfold rT;exact qH p.letters [w,r] rfl rfl rfl
 have e:rR ⟨{p with letters:=p.letters.del [w,r]},w,r⟩=.nx ⟨{p with letters:=p.letters.del [w,r],told_last:=p.told_last.del [w,r]},w,r⟩:=by unfold rR;exact qH p.told_last [w,r] rfl rfl rfl
 have d:rQ ⟨{p with letters:=p.letters.del [w,r],told_last:=p.told_last.del [w,r]},w,r⟩=.nx ⟨{p with letters:=p.letters.del [w,r],told_last:=p.told_last.del [w,r],written_last:=p.written_last.del [w,r]},w,r⟩:=by unfold rQ;exact qH p.written_last [w,r] rfl rfl rfl
 have c:rP ⟨{p with letters:=p.letters.del [w,r],told_last:=p.told_last.del [w,r],written_last:=p.written_last.del [w,r]},w,r⟩=.nx ⟨bJ p w r,w,r⟩:=by
  unfold rP
  exact yQ (fJ p r) w (Lc a.1 b) rfl (by
   show S_u9.mk _ w r=_
   rw[xN a.1 b])
 unfold Gu FP;simp only[ak,e1,e,d,c];rfl
theorem PW.forget{sz:Int}{p:PostT}(P:PW sz p)(w r:Int)(b:0<=r/\r<sz):PW sz (bJ p w r):=by
 refine⟨P.g,P.roads,⟨kl P.told.1,λq a=>P.told.2 q (eD a)⟩,⟨kl P.wrt.1,λq a=>P.wrt.2 q (eD a)⟩,⟨kl P.lts.1,λq a=>P.lts.2 q (eD a)⟩,λq a=>P.ltv q (eD a),by show((p.standings.set _ _).length:Int)=sz;rw[VS];exact P.sln,λF hF=>?_⟩;rcases WQ hF with z|z
 ·exact P.stn F z
 ·subst z;exact⟨yA (P.st b).1,λq a=>(P.st b).2 q (WF.mp a).1⟩
def d7(p:PostT)(a b:Int):Bool×PostT:=b8 (uf {p with letters:=p.letters.del [a,b]} a b ((p.letters.get [a,b]).bind id)) b
theorem PW.del{sz:Int}{p:PostT}(P:PW sz p)(k:List Int):PW sz {p with letters:=p.letters.del k}:=⟨P.g,P.roads,P.told,P.wrt,⟨kl P.lts.1,λq a=>P.lts.2 q (eD a)⟩,λq a=>P.ltv q (eD a),P.sln,P.stn⟩
theorem PW.pair{sz:Int}{p:PostT}(P:PW sz p){a b:Int}{o:Option (List Int)}(h:p.letters.get [a,b]=some o):(0<=a/\a<sz)/\(0<=b/\b<sz)/\∀t,o=some t->PathOk sz t:=by
 have d:=jJ h;obtain⟨x,y,e,j,i,g,f⟩:=P.lts.2 _ d;injection e with e1 c
 injection c with c
 subst e1 c;exact⟨⟨j,i⟩,⟨g,f⟩,λt e=>P.ltv _ d t e⟩
theorem PW.carry{sz:Int}{p:PostT}(P:PW sz p)(h0:0<sz){a b:Int}{o:Option (List Int)}(h:p.letters.get [a,b]=some o):PW sz (d7 p a b).2:=by
 obtain⟨e,c,d⟩:=P.pair h;unfold d7;rw[h];exact((P.del [a,b]).hear e c o d).choose h0 c
theorem BP{sz:Int}{p:PostT}(P:PW sz p)(c:sz<=60){a b:Int}{o:Option (List Int)}(h:p.letters.get [a,b]=some o):JE p a b=.ok (d7 p a b).1 ⟨(d7 p a b).2,a,b⟩:=by
 obtain⟨f,d,e⟩:=P.pair h;have j:=g6 p.guild [a,b] (by rw[P.g.count];exact Qj f d) (by rw[P.g.count];omega);have i:2<=ac:=by unfold ac;omega
 have e1:sf ⟨p,a,b⟩=.nx ⟨p,a,b⟩:=by simp[sf,j,i]
 have m:r9 ⟨p,a,b⟩=.nx ⟨p,a,b⟩:=by simp[r9,h]
 have k:=G7 (P.del [a,b]) c a b d o e;have l:r8 ⟨p,a,b⟩=.nx ⟨uf {p with letters:=p.letters.del [a,b]} a b o,a,b⟩:=by simp[r8,h,k]
 obtain⟨n,ch⟩:=kj ((P.del [a,b]).hear f d o e) c b d;unfold JE FS d7;rw[h];simp only[ak,e1,m,l];simp[zh,ch]
theorem qz(o:Option (List Int)):(ka o).res=.ok o:=by
 unfold ka xi;cases o with
 |none=>simp[og,jY]
 |some r=>simp[og,u7]
def bc(p:PostT):List (Int×Int×Option (List Int)):=p.letters.map λq=>(q.1.getD 0 0,q.1.getD 1 0,q.2)
theorem ge{sz:Int}{p:PostT}(P:PW sz p)(d:sz<=60):(oP p).res=.ok (bc p):=by
 have l2:=db d P.lts
 have c:=j4 (Z:=S_bb9) (src:=aR pR (aR (λg=>.ok g.letters) (pC (·.vuq)))) (te:=ff (aD rh (pC λp=>p.1) (kC (0:Int))) (ff (aD rh (pC λp=>p.1) (kC (1:Int))) (iP ka (aD Qn (aR (λg=>.ok g.letters) (pC λp=>p.2.vuq)) (pC λp=>p.1))))) (s:=⟨p⟩) (l:=p.letters.map (·.1)) (λk=>(k.getD 0 0,k.getD 1 0,(p.letters.get k).bind id)) rfl (by rw[List.length_map];unfold ac;omega) (λk j=>by
  obtain⟨v,f,i⟩:=lZ P.lts.1 j;obtain⟨a,b,e,_⟩:=P.lts.2 _ i;have e:k=[a,b]:=e;subst e
  simp[GL,Ve,f,qz])
 unfold oP xn vd;simp only[bp,aH,c];simp only[Js,a8,L7];congr 1;unfold bc;rw[List.map_map];refine List.map_congr_left λq h=>?_
 have:=jc P.lts.1 (show(q.1,q.2)∈p.letters from h)
 show(q.1.getD 0 0,q.1.getD 1 0,(p.letters.get q.1).bind id)=_;rw[this];rfl
theorem tj{sz:Int}{p:PostT}(P:PW sz p)(a:sz<=60):(Gq p).res=.ok p.roads:=by
 have b:=P.roads.len;have c:=j4 (Z:=S_z9) (src:=aR (λg=>.ok g.roads) (pC (·.vuq))) (te:=iP ka (pC λp=>p.1)) (s:=⟨p⟩) (l:=p.roads) (λo=>o) rfl (by unfold ac;omega) (λo _=>by simp[qz]);unfold Gq FK za;simp only[bp,aH,c];simp
theorem gH(p:PostT)(h:Int):(b8 p h).2.guild=p.guild:=by
 unfold b8;split
 ·rfl
 ·exact sW _ _
theorem vn(p:PostT)(a b:Int):(d7 p a b).2.guild=p.guild:=by unfold d7;rw[gH];rfl
def fS(p:PostT)(a b:Int):PostT:={p with guild:={p.guild with S:=(p.guild.S.del [a,b]).del [b,a]}}
def q9(p:PostT)(a b:Int):PostT:={p with guild:={p.guild with S:=(p.guild.S.put [a,b] true).put [b,a] true}}
def ii(p:PostT)(a b:Int):PostT:=(b8 (b8 (bJ (bJ (fS p a b) a b) b a) (min a b)).2 (max a b)).2
def g7(p:PostT)(a b:Int):PostT:=bF (bF (q9 p a b) (min a b) (max a b)) (max a b) (min a b)
theorem PW.guild{sz:Int}{p:PostT}(P:PW sz p){g:GΩ}(a:Wf sz g):PW sz {p with guild:=g}:=⟨a,P.roads,P.told,P.wrt,P.lts,P.ltv,P.sln,P.stn⟩
theorem yC{a b sz:Int}(d:0<=a/\a<sz)(c:0<=b/\b<sz):(0<=min a b/\min a b<sz)/\(0<=max a b/\max a b<sz):=by omega
theorem PW.fall{sz:Int}{p:PostT}(P:PW sz p){a b:Int}(d:0<=a/\a<sz)(c:0<=b/\b<sz):PW sz (ii p a b):=by
 obtain⟨f,e⟩:=yC d c;have h0:0<sz:=by omega
 exact((((P.guild (P.g.lift a b)).forget a b c).forget b a d).choose h0 f).choose h0 e
theorem PW.rise{sz:Int}{p:PostT}(P:PW sz p){a b:Int}(f:0<=a/\a<sz)(e:0<=b/\b<sz):PW sz (g7 p a b):=by
 obtain⟨d,c⟩:=yC f e;exact((P.guild (P.g.lay f e)).write d c).write c d
theorem wO(p:PostT)(a b:Int):(ii p a b).guild=(fS p a b).guild:=by
 unfold ii;rw[gH,gH];rfl
theorem v9(p:PostT)(a b:Int):(g7 p a b).guild=(q9 p a b).guild:=by
 unfold g7;rw[gW,gW]
theorem G9{sz:Int}{p:PostT}(P:PW sz p)(c:sz<=60){a b:Int}(e:0<=a/\a<sz)(d:0<=b/\b<sz)(h:a≠b)(q:(p.guild.S.get [a,b]).isSome=true)(f:(p.guild.S.get [b,a]).isSome=true):JD p a b=.ok () ⟨ii p a b,a,b⟩:=by
 obtain⟨i,o⟩:=yC e d;have h0:0<sz:=by omega
 have n:=xW p.guild a b (by rw[P.g.count];exact e) (by rw[P.g.count];exact d) h q f;have k:PW sz (fS p a b):=P.guild (P.g.lift a b);have s:=pp k a b d;have j:=k.forget a b d;have r:=pp j b a e;have P3:=j.forget b a e;obtain⟨B,y⟩:=kj P3 c (min a b) i;have z:=P3.choose h0 i;obtain⟨A,x⟩:=kj z c (max a b) o;have m:(if b<a then b else a)=min a b:=by rw[YI];split<;>split<;>omega
 have l:(if a<b then b else a)=max a b:=by rw[X4];split<;>split<;>omega
 have e1:rZ ⟨p,a,b⟩=.nx ⟨fS p a b,a,b⟩:=by simp[rZ,n,fS]
 have w:rY ⟨fS p a b,a,b⟩=.nx ⟨bJ (fS p a b) a b,a,b⟩:=by simp[rY,s]
 have v:rX ⟨bJ (fS p a b) a b,a,b⟩=.nx ⟨bJ (bJ (fS p a b) a b) b a,a,b⟩:=by simp[rX,r]
 have u:rW ⟨bJ (bJ (fS p a b) a b) b a,a,b⟩=.nx ⟨(b8 (bJ (bJ (fS p a b) a b) b a) (min a b)).2,a,b⟩:=by simp[rW,m,y]
 have t:rV ⟨(b8 (bJ (bJ (fS p a b) a b) b a) (min a b)).2,a,b⟩=.nx ⟨ii p a b,a,b⟩:=by simp[rV,l,x,ii]
 unfold JD FQ;simp only[ak,e1,w,v,u,t];rfl
theorem G5{sz:Int}{p:PostT}(P:PW sz p)(c:sz<=60){a b:Int}(f:0<=a/\a<sz)(e:0<=b/\b<sz)(d:a≠b)(n:p.guild.S.get [a,b]=none):JB p a b=.ok () ⟨g7 p a b,a,b⟩:=by
 obtain⟨k,j⟩:=yC f e;have u:=db c P.g.S;have m:=v5 p.guild a b (by rw[P.g.count];exact f) (by rw[P.g.count];exact e) d n (by unfold ac;omega);have l:PW sz (q9 p a b):=P.guild (P.g.lay f e);obtain⟨w,s⟩:=l9 l c (min a b) (max a b) k;have t:=l.write k j;obtain⟨v,r⟩:=l9 t c (max a b) (min a b) j;have i:(if b<a then b else a)=min a b:=by rw[Int.min_def];split<;>split<;>omega
 have h:(if a<b then b else a)=max a b:=by rw[X4];split<;>split<;>omega
 have e1:rM ⟨p,a,b⟩=.nx ⟨q9 p a b,a,b⟩:=by simp[rM,m,q9]
 have q:rL ⟨q9 p a b,a,b⟩=.nx ⟨bF (q9 p a b) (min a b) (max a b),a,b⟩:=by simp[rL,i,h,s]
 have o:rK ⟨bF (q9 p a b) (min a b) (max a b),a,b⟩=.nx ⟨g7 p a b,a,b⟩:=by simp[rK,i,h,r,g7]
 unfold JB FM;simp only[ak,e1,q,o];rfl
theorem PW.new{g:GΩ}{sz:Int}(h:Wf sz g)(c:1<=sz):PW sz (cK g sz.toNat):=by
 refine⟨h,⟨?_,λr b=>?_⟩,⟨by unfold DI.nd;exact List.Pairwise.nil,λq a=>(nomatch a)⟩,⟨by unfold DI.nd;exact List.Pairwise.nil,λq a=>(nomatch a)⟩,⟨by unfold DI.nd;exact List.Pairwise.nil,λq a=>(nomatch a)⟩,λq a=>(nomatch a),?_,λF hF=>?_⟩
 ·show(((List.replicate sz.toNat none).set 0 (some [0])).length:Int)=sz;rw[VS,W8];omega
 · rcases WQ b with z|z
   ·have:=(List.mem_replicate.mp z).2;cases this
   ·cases z;exact JX (by omega)
 ·show((List.replicate sz.toNat ([]:DJ xE)).length:Int)=sz;rw[W8];omega
 · have:=(List.mem_replicate.mp hF).2
   subst this;exact⟨by unfold DJ.nd;exact List.Pairwise.nil,λq a=>(nomatch a)⟩
def newP(g:GΩ):PostT:=writeAll (cK g g.hω.toNat) 0
theorem xT{g:GΩ}{sz:Int}(h:Wf sz g)(d:Hs g)(f:1<=sz)(a:sz<=60):fh g=.ok (newP g):=by
 have e:=h.count;obtain⟨s,c⟩:=GY (by omega) (by omega) d;have P:=PW.new h f;obtain⟨o,b⟩:=k6 P a 0 (by omega);unfold fh newP;rw[c];dsimp only;rw[if_pos (by omega),e,b]
theorem PW.newP{g:GΩ}{sz:Int}(h:Wf sz g)(a:1<=sz):PW sz (newP g):=by
 unfold K12.newP;rw[h.count];exact(PW.new h a).writeAll (by omega)
theorem AB(g:GΩ):(newP g).guild=g:=by unfold newP;exact sW _ _
theorem sV{sz:Int}(f:sz<=60){W:Tp}(nd:W.Nodup)(all:∀p∈W,0<=p.1/\p.1<p.2/\p.2<sz):W.length<=3600:=by
 have:=dQ 3600 (W.map λp=>p.1*60+p.2) (by
  unfold List.Nodup;rw[List.pairwise_map];refine List.Pairwise.imp_of_mem ?_ nd;intro p c hp a b e;have g:=all p hp;have h:=all c a;exact b (Prod.ext (by omega) (by omega))) (λx d=>by
  obtain⟨p,hp,rfl⟩:=VV.mp d;have g:=all p hp
  omega)
 rwa [Vr]at this
theorem GN{sz:Int}{p:PostT}(P:PW sz p){i:Nat}(hi:i<(bc p).length):∃a b o,(bc p)[i]?=some (a,b,o)/\p.letters.get [a,b]=some o:=by
 have c:i<p.letters.length:=by unfold bc at hi;rwa [List.length_map]at hi
 have d:p.letters[i]∈p.letters:=List.getElem_mem c;obtain⟨a,b,e,_⟩:=P.lts.2 _ d;refine⟨a,b,p.letters[i].2,?_,jc P.lts.1 (by rw[<-e];exact d)⟩;unfold bc;rw[List.getElem?_map,List.getElem?_eq_getElem c];simp[e]
theorem BO{TV:PostT->Prop}{sz:Int}{p:PostT}{W:Tp}{L Q:DI Int}{T:Tp}(P:PW sz p)(G:GuildIs p.guild sz W L Q T)(d:WaysOk sz W)(h1:1<=sz)(g:sz<=60)(c:Int)(H:TV p)(tc:∀{x y:Int} {o:Option (List Int)},p.letters.get [x,y]=some o->TV (d7 p x y).2)(tf:∀a b,TV (ii p a b))(I:∀a b,TV (g7 p a b)):
 ∃j h s,vI p W sz c=.ok () s/\s.vmq=j/\s.vBq=h/\PW sz j/\GuildIs j.guild sz h L Q T/\WaysOk sz h/\TV j:=by
 have e:0<sz:=by omega
 have w:sz<1073741824:=by omega
 have t:0<=c / 5%sz:=VX _ (by omega);have r:c / 5%sz<sz:=VR _ e;have n:0<=c / 5 / sz%sz:=VX _ (by omega);have m:c / 5 / sz%sz<sz:=VR _ e;have e1:nO ⟨p,W,sz,c,none,none,none,none,none⟩=.nx ⟨p,W,sz,c,some (c / 5%sz),none,none,none,none⟩:=by simp[nO,e]
 have V:nM ⟨p,W,sz,c,some (c / 5%sz),none,none,none,none⟩=.nx ⟨p,W,sz,c,some (c / 5%sz),some (c / 5 / sz%sz),none,none,none⟩:=by simp[nM,e,w]
 generalize c / 5%sz=a at *;generalize c / 5 / sz%sz=b at *;have F:=ge P g;have U:nL ⟨p,W,sz,c,some a,some b,none,none,none⟩=.nx ⟨p,W,sz,c,some a,some b,some (bc p),none,none⟩:=by simp[nL,F]
 have E:(if b<a then b else a)=min a b:=by rw[YI];split<;>split<;>omega
 have D:(if a<b then b else a)=max a b:=by rw[X4];split<;>split<;>omega
 have hc:=G.count;unfold vI xf;simp only[ak,e1,V,U]
 have line:∃j h s,a8 (some ()) (cG ⟨p,W,sz,c,some a,some b,some (bc p),none,none⟩)=.ok () s/\s.vmq=j/\s.vBq=h/\PW sz j/\GuildIs j.guild sz h L Q T/\WaysOk sz h/\TV j:=by
  by_cases q:0<((bc p).length:Int)
  · have N:0<=c / 5%((bc p).length:Int):=VX _ (by omega);have Z:c / 5%((bc p).length:Int)<(bc p).length:=VR _ q;obtain⟨x,y,o,O,A⟩:=GN P (i:=(c / 5%((bc p).length:Int)).toNat) (by omega);have at_:j8 (bc p) (c / 5%((bc p).length:Int))=some (x,y,o):=by rw[kW _ N];exact O
    have X:=BP P g A;have u:0<(bc p).length:=by omega
    refine⟨(d7 p x y).2,W,⟨(d7 p x y).2,W,sz,c,some a,some b,some (bc p),none,some (x,y,o)⟩,?_,rfl,rfl,P.carry e A,by rw[vn];exact G,d,tc A⟩;simp[cG,ga,f9,u,at_,X]
  · have u:¬ 0<(bc p).length:=by omega
    exact⟨p,W,⟨p,W,sz,c,some a,some b,some (bc p),none,none⟩,by simp[cG,u],rfl,rfl,P,G,d,H⟩
 by_cases k:2<c%5
 · by_cases f:a=b
   · have B:eT ⟨p,W,sz,c,some a,some b,some (bc p),none,none⟩=cG ⟨p,W,sz,c,some a,some b,some (bc p),none,none⟩:=by
      unfold eT;simp[k,f]
     rw[B];exact line
   · by_cases q:(min a b,max a b)∈W
     ·obtain⟨h,M,K,J,C⟩:=wg q d.nd;have sp:=G9 P g ⟨t,r⟩ ⟨n,m⟩ f ((G.way a b).mpr ((dF d a b).mpr q)) ((G.way b a).mpr ((dF d a b).mpr q).symm);refine⟨ii p a b,h,⟨ii p a b,h,sz,c,some a,some b,some (bc p),some (min a b,max a b),none⟩,?_,rfl,rfl,P.fall ⟨t,r⟩ ⟨n,m⟩,by rw[wO];exact G.lift d a b C,⟨K,λp hp=>d.all p ((C p).mp hp).1,VT J d.len⟩,tf a b⟩;simp[eT,gA,gy,f6,fZ,k,f,E,D,q,sp,M]
     · have R:p.guild.S.get [a,b]=none:=by
        cases z:p.guild.S.get [a,b] with
        |none=>rfl
        |some v=>exact absurd ((dF d a b).mp ((G.way a b).mp (by rw[z];rfl))) q
       have sp:=G5 P g ⟨t,r⟩ ⟨n,m⟩ f R;have Y:=sV g d.nd d.all;have ap:=kX (l:=W) (x:=(min a b,max a b)) (by unfold ac;omega);refine⟨g7 p a b,W++[(min a b,max a b)],⟨g7 p a b,W++[(min a b,max a b)],sz,c,some a,some b,some (bc p),some (min a b,max a b),none⟩,?_,rfl,rfl,P.rise ⟨t,r⟩ ⟨n,m⟩,by rw[v9];exact G.lay a b,⟨gh d.nd q,λp hp=>?_,by rw[List.length_append];simp;omega⟩,I a b⟩
       ·simp[eT,gA,gy,f8,f7,k,f,E,D,q,sp,ap]
       · rcases Vy.mp hp with z|z
         ·exact d.all p z
         ·rw[VF.mp z];simp only;omega
 · have B:eT ⟨p,W,sz,c,some a,some b,some (bc p),none,none⟩=cG ⟨p,W,sz,c,some a,some b,some (bc p),none,none⟩:=by
    unfold eT;simp[k]
   rw[B];exact line
def B0:List (List Int):=(E8 6 [0,1,2,3,4,5]).filter λr=>r.getLast?==some 0
theorem I8:((C1 6).map cH).Nodup:=by decide +kernel
theorem I0:(B0.map cH).Nodup:=by decide +kernel
theorem AF{sz:Int}(h:sz<=6){r:List Int}(a:RoadOk sz r):r∈B0:=by
 refine WF.mpr ⟨p6 6 _ r a.nd (λx b=>?_) (by have:=a.len;omega),by rw[a.last];rfl⟩
 have:=a.all x b
 have:x=0\/x=1\/x=2\/x=3\/x=4\/x=5:=by omega
 simp only[VA,List.not_mem_nil,or_false];exact this
theorem Hs.of{sz:Int}{g:GΩ}(h:Wf sz g)(b:sz<=6):Hs g:=by
 have pr:∀{X:Type} {F:DI X},(DI.nd F/\∀p∈F,PairOk sz p.1)->((F.map (·.1)).map cH).Nodup:=λ{X F} hF=>my I8 hF.1 λk a=>by
  obtain⟨p,hp,rfl⟩:=VV.mp a;exact AG ((hF.2 p hp).mono b)
 exact⟨pr h.S,pr h.lik,pr h.shn,my I0 h.wsh.1 λk a=>by
  obtain⟨p,hp,rfl⟩:=VV.mp a
  exact AF b (h.wsh.2 p hp)⟩
theorem GuildIs.like{g:GΩ}{sz:Int}{W:Tp}{L Q:DI Int}{T:Tp}(G:GuildIs g sz W L Q T)(k:List Int)(v:Int):GuildIs {g with lω:=g.lω.put k v} sz W (L.put k v) Q T:=
 ⟨G.count,G.way,λj=>by show(g.lω.put k v).get j=_;rw[cB,cB,G.lik],G.wsh,G.shn⟩
theorem GuildIs.wish{g:GΩ}{sz:Int}{W:Tp}{L Q:DI Int}{T:Tp}(G:GuildIs g sz W L Q T)(k:List Int)(v:Int):GuildIs {g with wω:=g.wω.put k v} sz W L (Q.put k v) T:=
 ⟨G.count,G.way,G.lik,λj=>by show(g.wω.put k v).get j=_;rw[cB,cB,G.wsh],G.shn⟩
theorem GuildIs.shun{g:GΩ}{sz:Int}{W:Tp}{L Q:DI Int}{T:Tp}(G:GuildIs g sz W L Q T)(a b:Int):GuildIs {g with sω:=g.sω.put [a,b] true} sz W L Q (T++[(a,b)]):=by
 refine⟨G.count,G.way,G.lik,G.wsh,λx y=>?_⟩;show((g.sω.put [a,b] true).get [x,y]).isSome=true↔_;rw[cB,Vy,VF];by_cases z:[x,y]=[a,b]
 ·rw[Vo z];injection z with d c;injection c with c;subst d c;simp
 · rw[on z,G.shn];constructor
   ·exact .inl
   · rintro(q|q)
     ·exact q
     ·injection q with f e;subst f e;exact absurd rfl z
theorem ja{Z X:Type}{a b:Z->FlC Z X}{s c:Z}(h:a s=.nx c):ak a b s=b c:=by unfold ak;rw[h]
def TV(sz:Int)(p:PostT):Prop:=∀q∈p.told_last,∀r,q.2=some r->PathOk sz r
theorem TV.of{sz:Int}{p q:PostT}(h:TV sz p)(e:q.told_last=p.told_last):TV sz q:=by unfold TV;rw[e];exact h
theorem iA(p:PostT)(h:Int):(b8 p h).2.told_last=p.told_last:=by
 unfold b8;split
 ·rfl
 ·exact xI _ _
theorem TV.forget{sz:Int}{p:PostT}(h:TV sz p)(w r:Int):TV sz (bJ p w r):=λq a=>h q (eD a)
theorem TV.carry{sz:Int}{p:PostT}(h:TV sz p)(P:PW sz p){a b:Int}{o:Option (List Int)}(c:p.letters.get [a,b]=some o):TV sz (d7 p a b).2:=by
 unfold d7;refine TV.of ?_ (iA _ _);intro q d r e;rcases yD (show q∈p.told_last.put [a,b] ((p.letters.get [a,b]).bind id) from d) with z|z
 ·exact h q z r e
 ·rw[c]at z;subst z;exact(P.pair c).2.2 r e
theorem TV.fall{sz:Int}{p:PostT}(h:TV sz p)(a b:Int):TV sz (ii p a b):=by
 unfold ii;exact TV.of (TV.of (((show TV sz (fS p a b) from h).forget a b).forget b a) (iA _ _)) (iA _ _)
theorem TV.rise{sz:Int}{p:PostT}(h:TV sz p)(a b:Int):TV sz (g7 p a b):=by
 unfold g7;exact TV.of (TV.of (show TV sz (q9 p a b) from h) (i6 _ _ _)) (i6 _ _ _)
theorem TV.new{sz:Int}(g:GΩ):TV sz (newP g):=by
 unfold newP;exact TV.of (p:=cK g g.hω.toNat) (λq a=>(nomatch a)) (xI _ _)
theorem tu{sz:Int}{p:PostT}(P:PW sz p){a:Int}(b:0<=a/\a<sz):(Gr p a).res=.ok (cY p.roads a):=by
 have c:=g6 p.guild [a] (by rw[P.g.count];exact in1 b) (by rw[P.g.count];omega);have GL:j8 p.roads a=some (cY p.roads a):=PF b.1 (by have:=P.roads.len;omega);unfold Gr FL;simp[zc,zb,c,GL,qz,ac]
theorem s9{sz:Int}{p:PostT}(P:PW sz p){a b:Int}(e:0<=a/\a<sz)(d:0<=b/\b<sz):(oQ p a b).res=.ok ((p.told_last.get [a,b]).bind id):=by
 have c:=g6 p.guild [a,b] (by rw[P.g.count];exact Qj e d) (by rw[P.g.count];omega);unfold oQ xo;simp[vf,ve,c,qz,ac]
theorem BN{sz:Int}{p:PostT}(P:PW sz p)(c:sz<=60){a:Int}(b:0<=a/\a<sz):(Gs p a).res=.ok (a9 sz p.guild.S a):=by
 have e:=fy p.guild a (by rw[P.g.count];exact b) (by rw[P.g.count];omega);rw[P.g.count]at e;unfold Gs FN
 first | unfold zd | skip
 simp[e]
theorem wp(sz:Int)(P:DI Bool)(a:Int)(c:sz<=60):(a9 sz P a).length<=60:=by
 unfold a9
 have:=Xs (λb=>(P.get [a,b]).isSome) (bV 0 sz)
 rw[bf]at this;omega
theorem tp{sz:Int}{p:PostT}(P:PW sz p)(w:1<=sz)(d:sz<=60):∃X,(oO p sz).res=.ok X:=by
 have rg:=cT (lo:=0) (hi:=sz) (by omega) (by omega) (by omega) (by omega);have e1:nj ⟨p,sz,none,none⟩=.nx ⟨p,sz,some [],none⟩:=by simp[nj,ac]
 have v:(bV 0 sz).length<=60:=by rw[bf];omega
 obtain⟨t,q,e,ys,rfl,_⟩:=cu (u:=λa s=>{s with v0q:=some a}) (c:=jj) (λpre (s:S_bp9)=>∃e ys,s=⟨p,sz,some ys,e⟩/\ys.length=pre.length) (bV 0 sz) ⟨p,sz,some [],none⟩ ⟨none,[],rfl,rfl⟩ (by
  rintro pre a r s h ⟨e,ys,rfl,n⟩;have f:0<=a/\a<sz:=c8.mp (by rw[h];simp)
  have hp:pre.length<61:=by
   have:=congrArg List.length h
   rw[Vw]at this;omega
  have m:=tu P f;have k:=BN P d f;have c:=j4 (Z:=S_bp9) (src:=aR (fb 0) (pC (·.vwq))) (te:=gf oQ (pC λp=>p.2.vmq) (pC λp=>p.1) (vC λp=>p.2.v0q)) (s:=⟨p,sz,some ys,some a⟩) (l:=bV 0 sz) (λb=>(p.told_last.get [b,a]).bind id) (by simp[rg]) (by unfold ac;omega) (λb o=>by simp[s9 P (c8.mp o) f]);have lt:ys.length<ac:=by unfold ac;omega
  refine⟨⟨p,sz,some (ys++[(cY p.roads a,a9 sz p.guild.S a,(bV 0 sz).map λb=>(p.told_last.get [b,a]).bind id)]),some a⟩,.inl ?_,some a,_,rfl,by rw[List.length_append,List.length_append,n];rfl⟩;unfold jj;generalize d9 (aR (fb 0) (pC λp:S_bp9=>p.vwq)) (λ_=>.ok true) (gf oQ (pC λp:Int×S_bp9=>p.2.vmq) (pC λp=>p.1) (vC λp=>p.2.v0q))=X at c ⊢
  simp[m,k,c,kX lt])
 have g:ni ⟨p,sz,some [],none⟩=.nx ⟨p,sz,some ys,e⟩:=by
  unfold ni;simp[rg,q]
 have j:=tj P d;have i:=ge P d;unfold oO w6;rw[ja e1,ja g];exact⟨(p.roads,bc p,ys),by simp[uO,j,i]⟩
theorem qN{n:Nat}{o:Option (List Int)}(a:n<=100000)(h:∀r,o=some r->r.length<=60):NB n o=true:=by
 cases o with
 |none=>rfl
 |some r=>have:=h r rfl;exact decide_eq_true (by unfold ac;omega)
theorem v4{sz:Int}{p:PostT}(P:PW sz p)(T:TV sz p)(H:1<=sz)(d:sz<=60):(z0 p sz).res=.ok ():=by
 have rg:=cT (lo:=0) (hi:=sz) (by omega) (by omega) (by omega) (by omega);have k:=tj P d;have j:=ge P d;have pl:∀{r:List Int},PathOk sz r->r.length<=60:=λh=>by have:=h.len;omega
 have G:p.roads.length<=60:=by have:=P.roads.len;omega
 have E:(bc p).length<=3600:=by unfold bc;rw[List.length_map];exact db d P.lts
 have D:(p.roads.all (NB p.roads.length))=true:=Wh.mpr λo w=>qN (by omega) λr e=>pl (P.roads.all r (e▸w))
 have C:((bc p).all (NA (bc p).length))=true:=Wh.mpr λx i=>by
  unfold bc at i;obtain⟨q,v,rfl⟩:=List.mem_map.mp i;exact qN (by omega) λr e=>pl (P.ltv q v r e)
 have e1:nG ⟨p,sz,none,none,none,none,none⟩=.nx ⟨p,sz,none,none,none,none,none⟩:=by
  unfold nG;simp only[Qf,iP,pC,Res.bind,k];rw[if_pos ⟨D,rfl,by unfold ac;omega⟩]
 have z:nF ⟨p,sz,none,none,none,none,none⟩=.nx ⟨p,sz,none,none,none,none,none⟩:=by
  unfold nF;simp only[Qf,iP,pC,Res.bind,j];rw[if_pos ⟨C,rfl,by unfold ac;omega⟩]
 obtain⟨F,A,g,rfl⟩:=uj (u:=λa s=>{s with v0q:=some a}) (c:=ox) (λ(s:S_bm9)=>∃g,s=⟨p,sz,none,none,none,none,g⟩) (bV 0 sz) ⟨p,sz,none,none,none,none,none⟩ ⟨none,rfl⟩ (by
  rintro a s f ⟨g,rfl⟩;have f:=c8.mp f;have t:=tu P f;have n:=BN P d f;have m:=s9 P (a:=0) (b:=a) ⟨by omega,by omega⟩ f;have lt:(a9 sz p.guild.S a).length<ac:=by have:=wp sz p.guild.S a d;unfold ac;omega
  have B:jk ⟨p,sz,none,none,none,none,some a⟩=.nx ⟨p,sz,none,none,none,none,some a⟩:=by simp[jk,n,lt]
  refine⟨⟨p,sz,none,none,none,none,some a⟩,.inl ?_,_,rfl⟩;unfold ox;rw[ja B];unfold nD;simp only[Ui,bB,gf,pC,vC,kC,Res.bind,t,m]
  have l:∀r,(p.told_last.get [0,a]).bind id=some r->r.length<=60:=λr e=>by
   cases q:p.told_last.get [0,a] with
   |none=>rw[q]at e;cases e
   |some o=>
     rw[q]at e;exact pl (T _ (jJ q) r e)
  rw[Vo ⟨qN (by omega) λr e=>pl (P.roads.all r (p7 e)),qN (by omega) l,rfl⟩])
 have y:nE ⟨p,sz,none,none,none,none,none⟩=.nx ⟨p,sz,none,none,none,none,g⟩:=by
  unfold nE;simp[rg,A]
 unfold z0 xa;rw[ja e1,ja z,y];rfl
theorem Ho{X:Type}{F:DI X}{k:List Int}{v:X}(h:F.get k=none):(F.put k v).length=F.length+1:=by
 unfold DI.put;split
 ·rename_i z;rw[h]at z;simp at z
 ·rw[Vw];rfl
theorem uk(v:List Int):∀(l:List Int) (p:PostT),l.Nodup->cY p.roads 0=some v->(∀r∈l,p.written_last.get [0,r]=none/\p.letters.get [0,r]=none)->(l.foldl (λp r=>bF p 0 r) p).letters.length=p.letters.length+l.length
 |[],p,_,_,_=>rfl
 | r::l,p,nd,e,f=>by
   have a:=VM.mp nd;have h0:=f r Vt
   have g:bF p 0 r={p with written_last:=p.written_last.put [0,r] (some v),letters:=p.letters.put [0,r] (some v)}:=by
    unfold bF;rw[h0.1,e,if_neg (by intro z;cases z)]
   rw[Xj,uk v l _ a.2 (by rw[sT];exact e) λx d=>?_,g,Vx]
   · show(p.letters.put [0,r] (some v)).length+_=_
     have:(p.letters.put [0,r] (some v)).length=p.letters.length+1:=Ho h0.2
     omega
   · have c:=f x (Vu _ d)
     have ne:¬ ([(0:Int),x]=[0,r]):=λz=>by
      injection z with h b;injection b with b
      exact a.1 (b▸d)
     rw[g];show(p.written_last.put [0,r] (some v)).get [0,x]=none/\(p.letters.put [0,r] (some v)).get [0,x]=none;rw[cB,cB,on ne,on ne];exact c
theorem tX{g:GΩ}{sz:Int}(h:Wf sz g)(a:1<=sz):(bc (newP g)).length=(a9 sz g.S 0).length:=by
 unfold bc newP writeAll;rw[List.length_map,h.count];show((a9 g.hω g.S 0).foldl (λp r=>bF p 0 r) (cK g sz.toNat)).letters.length=_;have f:=uk [0] (a9 sz g.S 0) (cK g sz.toNat) ((mq 0 sz).filter _) ?_ λr _=>⟨rfl,rfl⟩
 ·rw[h.count,f];show 0+_=_;omega
 ·show cY ((List.replicate sz.toNat none).set 0 (some [0])) 0=some [0];unfold cY;rw[List.getD_eq_getElem?_getD];show((List.replicate sz.toNat none).set 0 (some [0]))[0]?.getD none=_;rw[List.getElem?_set_self (by rw[List.length_replicate];omega)];rfl
theorem GS{g:GΩ}{sz:Int}{W:Tp}(c:∀x y,(g.S.get [x,y]).isSome=true↔(x,y)∈W\/(y,x)∈W)(d:WaysOk sz W)(a:Int):a9 sz g.S a=ki W sz a:=by
 unfold a9 ki;refine List.filter_congr λb _=>?_
 have:=(c a b).trans (dF d a b)
 cases q:(g.S.get [a,b]).isSome with
 |true=>exact(Wu (this.mp q)).symm
 |false=>exact(V6 λz=>by rw[this.mpr z]at q;cases q).symm
theorem yO{X:Type}{F:DI X}(a:DI.nd F)(k:List Int):k∈F.map (·.1)↔(F.get k).isSome=true:=by
 constructor
 ·intro h;obtain⟨v,e,_⟩:=lZ a h;rw[e];rfl
 ·intro h;obtain⟨v,e⟩:=WB.mp h;exact VV.mpr ⟨(k,v),jJ e,rfl⟩
theorem BV{F G:DI Int}(b:DI.nd F)(a:DI.nd G)(h:∀k,F.get k=G.get k):F.length=G.length:=by
 have c:∀k,k∈F.map (·.1)↔k∈G.map (·.1):=λk=>by rw[yO b,yO a,h]
 have hp:(F.map (·.1)).Perm (G.map (·.1)):=(List.perm_ext_iff_of_nodup b a).mpr c
 have:=hp.length_eq
 rwa [Vr,Vr]at this
theorem Ae{sz:Int}{g:GΩ}{W:Tp}(i:Wf sz g)(P:∃L Q Y,GuildIs g sz W L Q Y)(e:WaysOk sz W)(h2:2<=sz)(h:sz<=60)(n:Nat)(hn:g.wω.length<=n)(Z:n<1000)(c:Int):
 ∃g' m s,zX g W sz c=.ok () s/\s.v7q=g'/\s.vBq=m/\Wf sz g'/\(∃L Q Y,GuildIs g' sz m L Q Y)/\WaysOk sz m/\g'.wω.length<=n+1:=by
 obtain⟨L,Q,Y,G⟩:=P;have f:0<sz:=by omega
 have u:sz<1073741824:=by omega
 have t:1<sz:=by omega
 obtain⟨a,B⟩:∃a,a=c / 4%sz:=⟨_,rfl⟩;have y:0<=a/\a<sz:=by rw[B];exact⟨VX _ (by omega),VR _ f⟩
 obtain⟨d,A⟩:∃d,d=c / 4 / sz%(sz-1):=⟨_,rfl⟩;have hd:0<=d/\d<sz-1:=by rw[A];exact⟨VX _ (by omega),VR _ (by omega)⟩
 obtain⟨b,o⟩:∃b,b=(a+1+d)%sz:=⟨_,rfl⟩;have w:0<=b/\b<sz:=by rw[o];exact⟨VX _ (by omega),VR _ f⟩
 have j:a≠b:=by
  by_cases z:a+1+d<sz
  ·rw[Xr (by omega) z]at o;omega
  · have:(a+1+d)%sz=a+1+d-sz:=by rw[<-Int.sub_emod_right,Xr (by omega) (by omega)]
    omega
 have O:=G.count;have N:(if b<a then b else a)=min a b:=by rw[YI];split<;>split<;>omega
 have M:(if a<b then b else a)=max a b:=by rw[X4];split<;>split<;>omega
 have e1:nc ⟨g,W,sz,c,none,none,none⟩=.nx ⟨g,W,sz,c,some a,none,none⟩:=by simp[nc,f,B]
 have U:na ⟨g,W,sz,c,some a,none,none⟩=.nx ⟨g,W,sz,c,some a,some b,none⟩:=by simp[na,f,u,t,o,A]
 have T:m9 ⟨g,W,sz,c,some a,some b,none⟩=.nx ⟨g,W,sz,c,some a,some b,some (min a b,max a b)⟩:=by simp[m9,N,M]
 clear B o A;unfold zX wY;rw[ja e1,ja U,ja T];have V:=sV h e.nd e.all;have dl:=db h i.S;have ll:=db h i.lik;have X:=db h i.shn;by_cases r:c%4=0
 · by_cases q:(min a b,max a b)∈W
   ·obtain⟨m,K,J,I,D⟩:=wg q e.nd;have sp:=xW g a b (by omega) (by omega) j ((G.way a b).mpr ((dF e a b).mpr q)) ((G.way b a).mpr ((dF e a b).mpr q).symm);refine⟨_,m,⟨_,m,sz,c,some a,some b,some (min a b,max a b)⟩,?_,rfl,rfl,i.lift a b,⟨L,Q,Y,G.lift e a b D⟩,⟨J,λp hp=>e.all p ((D p).mp hp).1,VT I e.len⟩,by show g.wω.length<=n+1;omega⟩;simp[fY,jT,jS,r,q,sp,K]
   · have R:g.S.get [a,b]=none:=by
      cases z:g.S.get [a,b] with
      |none=>rfl
      |some v=>exact absurd ((dF e a b).mp ((G.way a b).mp (by rw[z];rfl))) q
     have sp:=v5 g a b (by omega) (by omega) j R (by unfold ac;omega);have ap:=kX (l:=W) (x:=(min a b,max a b)) (by unfold ac;omega);refine⟨_,W++[(min a b,max a b)],⟨_,W++[(min a b,max a b)],sz,c,some a,some b,some (min a b,max a b)⟩,?_,rfl,rfl,i.lay y w,⟨L,Q,Y,G.lay a b⟩,⟨gh e.nd q,λp hp=>?_,by rw[List.length_append];simp;omega⟩,by show g.wω.length<=n+1;omega⟩
     ·simp[fY,dh,fX,fW,r,q,sp,ap]
     · rcases Vy.mp hp with z|z
       ·exact e.all p z
       ·rw[VF.mp z];simp only;omega
 · by_cases H:c%4=1
   ·have sp:=xV g a b (c%9-4) (by omega) (by omega) (by unfold ac;omega);refine⟨_,W,⟨_,W,sz,c,some a,some b,some (min a b,max a b)⟩,?_,rfl,rfl,i.like (c%9-4) y w,⟨_,Q,Y,G.like [a,b] (c%9-4)⟩,e,by show g.wω.length<=n+1;omega⟩;simp[fY,dh,cF,d4,H,sp]
   · by_cases E:c%4=2
     · have C:RoadOk sz [max a b,0]:=⟨by simp,rfl,by simp;omega,Qj (by omega) (by omega)⟩;have sp:=xQ g [max a b,0] (c%7) (by rw[O];exact C) (by omega) (by unfold ac;omega);refine⟨_,W,⟨_,W,sz,c,some a,some b,some (min a b,max a b)⟩,?_,rfl,rfl,i.wish (c%7) C,⟨L,_,Y,G.wish [max a b,0] (c%7)⟩,e,?_⟩
       ·simp[fY,dh,cF,cy,cQ,E,sp,ac]
       · show(g.wω.put [max a b,0] (c%7)).length<=n+1
         have:=eB (F:=g.wω) (k:=[max a b,0]) (v:=c%7)
         omega
     ·have sp:=xS g a b (by omega) (by omega) j (by unfold ac;omega);refine⟨_,W,⟨_,W,sz,c,some a,some b,some (min a b,max a b)⟩,?_,rfl,rfl,i.shun y w,⟨L,Q,_,G.shun a b⟩,e,by show g.wω.length<=n+1;omega⟩;simp[fY,dh,cF,cy,cR,r,H,E,sp]
theorem wS(ns:List Int)(hns:ns.length<=63):∃s,GC ns=.ok true s:=by
 have cell:∀k:Int,0<=k->(gS ns k).res=.ok (fD ns k):=Hb ns;have m5:0<=fD ns 0%5/\fD ns 0%5<5:=⟨VX _ (by omega),VR _ (by omega)⟩;obtain⟨sz,hsz⟩:∃sz,sz=2+fD ns 0%5:=⟨_,rfl⟩;have h2:2<=sz:=by omega
 have p:1<=sz:=by omega
 have h6:sz<=6:=by omega
 have i:sz<=60:=by omega
 have e1:oe ⟨ns,none,none,none,none,none,none,none,none,none,none,none,none,none,none,none⟩=.nx ⟨ns,some sz,none,none,none,none,none,none,none,none,none,none,none,none,none,none⟩:=by simp[oe,cell,hsz]
 obtain⟨d,ef,lf,nf,pf⟩:=G8 (fD ns 2) sz (by omega);obtain⟨e,ed,ld,nd,pd⟩:=Ha (fD ns 3) sz (by omega) (by omega);obtain⟨sh,es,ls,E,D⟩:=LO (fD ns 4) sz (by omega);obtain⟨W,ew,G⟩:=GX (fD ns 1) sz (by omega) i;have e2:n9 ⟨ns,some sz,none,none,none,none,none,none,none,none,none,none,none,none,none,none⟩=.nx ⟨ns,some sz,some W,none,none,none,none,none,none,none,none,none,none,none,none,none⟩:=by simp[n9,cell,ew]
 have e3:n8 ⟨ns,some sz,some W,none,none,none,none,none,none,none,none,none,none,none,none,none⟩=.nx ⟨ns,some sz,some W,some d,none,none,none,none,none,none,none,none,none,none,none,none⟩:=by simp[n8,cell,ef]
 have e4:n6 ⟨ns,some sz,some W,some d,none,none,none,none,none,none,none,none,none,none,none,none⟩=.nx ⟨ns,some sz,some W,some d,some e,none,none,none,none,none,none,none,none,none,none,none⟩:=by simp[n6,cell,ed]
 have e5:n5 ⟨ns,some sz,some W,some d,some e,none,none,none,none,none,none,none,none,none,none,none⟩=.nx ⟨ns,some sz,some W,some d,some e,some sh,none,none,none,none,none,none,none,none,none,none⟩:=by simp[n5,cell,es]
 obtain⟨g,eg,N,_,v⟩:=Ai (sz:=sz) (S:=W) (Z:=d) (U:=e) (T:=sh) ⟨⟨by omega,i⟩,G,⟨by omega,nf,pf⟩,⟨by omega,nd,pd⟩,⟨by omega,E,D⟩⟩;have e6:n0 ⟨ns,some sz,some W,some d,some e,some sh,none,none,none,none,none,none,none,none,none,none⟩=.nx ⟨ns,some sz,some W,some d,some e,some sh,some g,none,none,none,none,none,none,none,none,none⟩:=by simp[n0,eg]
 have mk:=xT v (Hs.of v h6) p i;have P0:=PW.newP v p;have T0:=TV.new (sz:=sz) g;have G0:GuildIs (newP g).guild sz W d e sh:=by rw[AB];exact N
 have pb:(zZ ns sz W).res=.ok (newP g):=by
  have f1:nC ⟨ns,sz,W,none,none,none⟩=.nx ⟨ns,sz,W,some d,none,none⟩:=by simp[nC,cell,ef]
  have f2:nB ⟨ns,sz,W,some d,none,none⟩=.nx ⟨ns,sz,W,some d,some e,none⟩:=by simp[nB,cell,ed]
  have f3:nA ⟨ns,sz,W,some d,some e,none⟩=.nx ⟨ns,sz,W,some d,some e,some sh⟩:=by simp[nA,cell,es]
  unfold zZ w9;rw[ja f1,ja f2,ja f3];simp[uR,eg,mk]
 have wl:g.wω.length<=5:=by rw[BV v.wsh.1 nd N.wsh];omega
 generalize newP g=b at mk P0 T0 G0 pb;obtain⟨h,w⟩:=tp P0 p i;have e7:nZ ⟨ns,some sz,some W,some d,some e,some sh,some g,none,none,none,none,none,none,none,none,none⟩=.nx ⟨ns,some sz,some W,some d,some e,some sh,some g,some b,none,none,none,none,none,none,none,none⟩:=by simp[nZ,mk]
 have e8:nY ⟨ns,some sz,some W,some d,some e,some sh,some g,some b,none,none,none,none,none,none,none,none⟩=.nx ⟨ns,some sz,some W,some d,some e,some sh,some g,some b,some b,none,none,none,none,none,none,none⟩:=by simp[nY,mk]
 have e9:nX ⟨ns,some sz,some W,some d,some e,some sh,some g,some b,some b,none,none,none,none,none,none,none⟩=.nx ⟨ns,some sz,some W,some d,some e,some sh,some g,some b,some b,some b,none,none,none,none,none,none⟩:=by simp[nX,pb]
 have e10:kS ⟨ns,some sz,some W,some d,some e,some sh,some g,some b,some b,some b,none,none,none,none,none,none⟩=.nx ⟨ns,some sz,some W,some d,some e,some sh,some g,some b,some b,some b,some h,none,none,none,none,none⟩:=by simp[kS,w]
 have e11:kR ⟨ns,some sz,some W,some d,some e,some sh,some g,some b,some b,some b,some h,none,none,none,none,none⟩=.nx ⟨ns,some sz,some W,some d,some e,some sh,some g,some b,some b,some b,some h,some W,none,none,none,none⟩:=by simp[kR]
 have e12:kQ ⟨ns,some sz,some W,some d,some e,some sh,some g,some b,some b,some b,some h,some W,none,none,none,none⟩=.nx ⟨ns,some sz,some W,some d,some e,some sh,some g,some b,some b,some b,some h,some W,some W,none,none,none⟩:=by simp[kQ]
 have e13:kP ⟨ns,some sz,some W,some d,some e,some sh,some g,some b,some b,some b,some h,some W,some W,none,none,none⟩=.nx ⟨ns,some sz,some W,some d,some e,some sh,some g,some b,some b,some b,some h,some W,some W,some W,none,none⟩:=by simp[kP]
 obtain⟨s14,R,l,M,f,V,o,rfl,n,q,J,_⟩:=cu (u:=λa s=>{s with v3q:=some a}) (c:=kT) (λpre (s:S_bg9)=>∃l M f V o,s=⟨ns,some sz,some W,some d,some e,some sh,some l,some f,some b,some f,some h,some M,some V,some V,o,none⟩/\Wf sz l/\(∃L Q Y,GuildIs l sz M L Q Y)/\WaysOk sz M/\l.wω.length<=5+pre.length/\PW sz f/\TV sz f/\GuildIs f.guild sz V d e sh/\WaysOk sz V) (ns.drop 6) ⟨ns,some sz,some W,some d,some e,some sh,some g,some b,some b,some b,some h,some W,some W,some W,none,none⟩ ⟨g,W,b,W,none,rfl,v,⟨_,_,_,N⟩,G,wl,P0,T0,G0,G⟩ (by
  rintro pre c r s he ⟨l,M,f,V,o,rfl,n,q,J,B,P1,A,t,hV⟩
  have hpre:pre.length<100:=by
   have:=congrArg List.length he
   rw[List.length_drop,Vw,Vx]at this;omega
  obtain⟨g2,M2,j,q1,rfl,rfl,C,K,I,wl2⟩:=Ae n q J h2 i (5+pre.length) B (by omega) c;obtain⟨p2,V2,m,q2,rfl,rfl,P2,G2,H,T2⟩:=BO (TV:=TV sz) P1 t hV p i (c / 4) A (λhg=>A.carry P1 hg) A.fall A.rise;obtain⟨X,eX⟩:=tp P2 p i;have md:=v4 P2 T2 p i;have b1:iz ⟨ns,some sz,some W,some d,some e,some sh,some l,some f,some b,some f,some h,some M,some V,some V,some c,none⟩=.nx ⟨ns,some sz,some W,some d,some e,some sh,some j.v7q,some f,some b,some f,some h,some j.vBq,some V,some V,some c,none⟩:=by simp[iz,q1]
  have b2:iy ⟨ns,some sz,some W,some d,some e,some sh,some j.v7q,some f,some b,some f,some h,some j.vBq,some V,some V,some c,none⟩=.nx ⟨ns,some sz,some W,some d,some e,some sh,some j.v7q,some m.vmq,some b,some f,some h,some j.vBq,some m.vBq,some V,some c,none⟩:=by simp[iy,q2]
  have b3:iw ⟨ns,some sz,some W,some d,some e,some sh,some j.v7q,some m.vmq,some b,some f,some h,some j.vBq,some m.vBq,some V,some c,none⟩=.nx ⟨ns,some sz,some W,some d,some e,some sh,some j.v7q,some m.vmq,some b,some f,some h,some j.vBq,some m.vBq,some V,some c,none⟩:=by simp[iw,md]
  have b4:iu ⟨ns,some sz,some W,some d,some e,some sh,some j.v7q,some m.vmq,some b,some f,some h,some j.vBq,some m.vBq,some V,some c,none⟩=.nx ⟨ns,some sz,some W,some d,some e,some sh,some j.v7q,some m.vmq,some b,some m.vmq,some h,some j.vBq,some m.vBq,some m.vBq,some c,none⟩:=by simp[iu,q2]
  refine⟨_,.inl ?_,j.v7q,j.vBq,m.vmq,m.vBq,some c,rfl,C,K,I,by rw[List.length_append,List.length_singleton];omega,P2,T2,G2,H⟩;unfold kT;show ak _ _ _=_;rw[ja b1,ja b2,ja b3,ja b4]
  simp[lH,eX])
 have y:kO ⟨ns,some sz,some W,some d,some e,some sh,some g,some b,some b,some b,some h,some W,some W,some W,none,none⟩=.nx ⟨ns,some sz,some W,some d,some e,some sh,some l,some f,some b,some f,some h,some M,some V,some V,o,none⟩:=by
  unfold kO;simp[R]
 obtain⟨L,Q,Y,t⟩:=q;have tq:=GS t.way J;have sm:=xT n (Hs.of n h6) p i;have sw:=ge (PW.newP n p) i;have nl:=tX n p;have st:∀a,(qm M sz a).res=.ok (ki M sz a):=λa=>GZ M sz a (by omega) (by omega);rw[tq 0]at nl;have P:kN ⟨ns,some sz,some W,some d,some e,some sh,some l,some f,some b,some f,some h,some M,some V,some V,o,none⟩=.nx ⟨ns,some sz,some W,some d,some e,some sh,some l,some f,some b,some f,some h,some M,some V,some V,o,none⟩:=by simp[kN,sm,sw,st,nl]
 have rg:=cT (lo:=0) (hi:=sz) (by omega) (by omega) (by omega) (by omega)
 obtain⟨s16,O,z,rfl⟩:=uj (u:=λa s=>{s with v0q:=some a}) (c:=ir) (λs:S_bg9=>∃z,s=⟨ns,some sz,some W,some d,some e,some sh,some l,some f,some b,some f,some h,some M,some V,some V,o,z⟩) (bV 0 sz) ⟨ns,some sz,some W,some d,some e,some sh,some l,some f,some b,some f,some h,some M,some V,some V,o,none⟩ ⟨none,rfl⟩ (by
  rintro a s F ⟨z,rfl⟩;have F:=c8.mp F;have s3:=fy l a (by rw[t.count];exact F) (by rw[t.count];omega);rw[t.count,tq a]at s3
  exact⟨⟨ns,some sz,some W,some d,some e,some sh,some l,some f,some b,some f,some h,some M,some V,some V,o,some a⟩,.inl (by simp[ir,s3,st]),_,rfl⟩)
 have x:kM ⟨ns,some sz,some W,some d,some e,some sh,some l,some f,some b,some f,some h,some M,some V,some V,o,none⟩=.nx ⟨ns,some sz,some W,some d,some e,some sh,some l,some f,some b,some f,some h,some M,some V,some V,o,z⟩:=by
  unfold kM;simp[rg,O]
 unfold GC xh;rw[ja e1,ja e2,ja e3,ja e4,ja e5,ja e6,ja e7,ja e8,ja e9,ja e10,ja e11,ja e12,ja e13,ja y,ja P,ja x];exact⟨_,by simp[qe,w];rfl⟩
theorem EM(ns:List Int)(a:ns.length<=63):∃T,Eo [.scr (ns.map D.int)]=.ok (.bl true) T:=by
 obtain⟨s,e⟩:=wS ns a
 have:=Ps ns
 rw[e]at this;exact⟨_,this⟩
end K12
namespace K12
open PySem L2
def Uv:Tns:=[]
theorem PL{w:World}{K:F0}{h:Heap}{mg:Str->Option Value}{T:Tbs}{g:Addr}(X:K.In h)(G:h.Ns mainGlobals mg)(b:mg "law" = some (.ref g))(TO:TabsOf mg h Uv T)(y:HD.obK Qc Qd Qk Qo Qm Ql Qi K=P9 PySem.Challenge.pw_heraldways_k12_posts_apart):∃fd:FuncData,(∀(s:Shared) (v:Value),BindsTo s fd ⟨[v],[]⟩ [("script",v)])/\∀base:Heap,K.In base->base.Ns mainGlobals mg->(∀c P,PySem.W.CodeHd h c P->PySem.W.CodeHd base c P)->FnOk PySem.Challenge.rw_heraldways_k12_posts_apart.prog w K mg base sS 9 g fd ["script"] (Mi.spT K T):=by
 have f:d8 K mg:=⟨⟨h,X,G⟩,y⟩;have e:=b.symm.trans (f.tm 20 rfl rfl);cases e;obtain⟨d,F⟩:=f.tf 48 rfl rfl
 have q:∀(s:Shared) (v:Value),BindsTo s d ⟨[v],[]⟩ [("script",v)]:=by
  obtain⟨oc,x,kV,r,pm,an,t,ct,i,rfl,lk,o⟩:=F.ex;exact λs v=>.of_eq rfl
 refine⟨d,q,λbase _ _ u=>?_⟩;refine(Ny _ _ base f F).imp λvs H Q E k=>?_;obtain⟨a,xs,j,l,m,z,n⟩:=k;refine Mi.Oy EM j l m (λp hp=>?_) n;cases hp
theorem Qr{K:F0}{q:Program}{loose:List Str}{XP:(Str->Option Value)->Heap->Prop}{d:DefRec}(e:d.params.defaults=[])(b:d.name = "law")(y:HD.obK Qc Qd Qk Qo Qm Ql Qi K=P9 PySem.Challenge.pw_heraldways_k12_posts_apart):PySem.W.WalkO q loose XP (λ_ h=>K.In h) PySem.Challenge.rw_heraldways_k12_posts_apart.row.toRowW d [] (λf vs=>PySem.call f vs):=
 L2.GM (l:=PySem.Challenge.rw_heraldways_k12_posts_apart) (K:=λ_=>K) (n:=63) (k:=9) (x := "script") (CX:=λ_=>sS) (sp:=λ_ T=>Mi.spT K T) Uv rfl (by decide) e ⟨rfl,by decide,by decide⟩ (λ_ _ Y=>Y) (λ_ h=>absurd rfl h) (λ_ h=>(nomatch h)) (by unfold Tns.ok Uv;decide) (λw mg j h T X G c TO=>PL X G (b▸c) TO y) (λw T H a ns g hO i=>⟨a,ns,rfl,Mi.LN hO i,g,Mi.Qw hO,λ_=>rfl⟩) λ_ _ _ _ _ z=>z
end K12
open PySem PySem.W PyProof.Rows
set_option maxRecDepth 100000 in
set_option maxHeartbeats 0 in
theorem PySem.Challenge.cw_heraldways_k12_posts_apart_holds : PySem.Challenge.rw_heraldways_k12_posts_apart.Holds := by
 refine K12.hd0 λsaid=>?_;refine holds_openX (q:=K12.qP PySem.Challenge.pw_heraldways_k12_posts_apart) (loose:=[]) (Xt:=λs=>xlAt (K12.qP PySem.Challenge.pw_heraldways_k12_posts_apart) [] s&&recOk (RowW.records PySem.Challenge.rw_heraldways_k12_posts_apart.row.toRowW) s) (XP:=XL (K12.qP PySem.Challenge.pw_heraldways_k12_posts_apart) []) (Yf:=HD.ob K12.Vf K12.Qc K12.Qd K12.Qk K12.Qo K12.Qm K12.Ql K12.Qi) (Ya:=λ_=>K12.P9 PySem.Challenge.pw_heraldways_k12_posts_apart) (N:=7120) (λw=>HD.two (K12.SG w) (K12.SF w)) (λs e=>xl_of s (YJ.mp e).1) XL.keeps (by rfl) (by rfl) (by rfl) (λs e=>recFacts_of (YJ.mp e).2) (by rfl) said (by decide +kernel) ⟨rfl,rfl,rfl,rfl,rfl,by decide +kernel⟩ ?hw (HD.walkX λK y=>K12.Qr rfl rfl y)
 case hw=>w_witness2
