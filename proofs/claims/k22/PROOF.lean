import PyProof.Rows.All
import Wide.All
import Wide.FinOn
import OpenK.XOpen
import OpenK.KWalk
import OpenK.KMake
import OpenK.KOwn
import OpenK.KRaiseN
import OpenK.Peek
import OpenK.KCall
import OpenK.KGet
import KE.KIsAll
import KE.KBytesAny
import KE.BytesK
import KE.KxBytes
import KE.KDictOf
import KE.KItem
import Lean
import PyProof.EqAt
import PyProof.EqKinds
import PyProof.TupleCall
import KE.KLam
import KE.KMinKey
import KE.KDictList
import KE.KRevIter
import PyProof.WalksMore
import PyProof.Rows.SetFrom
import KE.KSortTup
import KE.KDictSum
import PyProof.DictUpdate
import Open.Tops
import PySem.Challenge.RW_heraldways_k22_whole_all_settled_tables
set_option Elab.async false
set_option linter.all false
set_option maxRecDepth 100000
abbrev L0:=PySem.W.Frag
abbrev L1:=List (PySem.Addr×PySem.Obj)
abbrev L4:=PySem.Value->PySem.Shared->Prop
abbrev P1:=List (Int×Int)
local macro_rules|`(tactic|ac_rfl)=>`(tactic|(constructor<;>first|rfl|decide +kernel))
local macro_rules|`(command|def $i:declId $s:optDeclSig $v:declVal)=>`(command|noncomputable def $i:declId $s:optDeclSig $v:declVal)
local macro_rules|`(command|@[simp]def $i:declId $s:optDeclSig $v:declVal)=>`(command|@[simp]noncomputable def $i:declId $s:optDeclSig $v:declVal)
local macro_rules|`(command|abbrev $i:declId $s:optDeclSig $v:declVal)=>`(command|noncomputable abbrev $i:declId $s:optDeclSig $v:declVal)
def no:=@List.mem_cons_of_mem
def on:=@List.length_map
def Xj:=@if_neg
def Xk:=@List.mem_cons_self
def Xl:=@if_pos
def Xm:=@List.map_cons
def Xn:=@PySem.wpAny_bind
def Xo:=@List.length_append
def Xp:=@List.length_cons
def Xq:=@PySem.Heap.get?_push_of_some
def Xr:=@List.mem_append_right
def Xs:=@PySem.W.mg_of
def Xu:=@PySem.Heap.lt_size
def Xv:=@List.mem_cons
def Xw:=@Bool.false_ne_true
def Xx:=@List.getD_eq_getElem?_getD
def Xy:=@List.getElem?_eq_getElem
def Xz:=@List.mem_singleton
def XA:=@List.mem_append_left
def XB:=@List.size_toArray
def XC:=@PySem.wpAny_pure
def XD:=@Nat.le_refl
def XE:=@List.mem_append
def XF:=@List.getElem?_eq_some_iff
def XG:=@Nat.lt_of_lt_of_le
def XH:=@List.nodup_cons
def XI:=@PySem.Heap.get?_push_size
def XJ:=@List.map_append
def XM:=@PySem.F.plainAttrs_list
def XN:=@Nat.ne_of_lt
def XO:=@List.getElem?_eq_none
def XQ:=@Option.some.inj
def XR:=@Option.map_eq_some_iff
def XS:=@PySem.F.slot_list_append
def XT:=@PySem.F.type_list_append
def XU:=@Bool.and_eq_true_iff
def XV:=@List.nodup_append
def XW:=@Int.emod_lt_of_pos
def XX:=@PySem.W.mg_none_of
def XY:=@Nat.le_trans
def XZ:=@List.append_nil
def X0:=@decide_eq_false
def X3:=@List.getElem?_map
def X4:=@Nat.le_of_lt
def X5:=@List.mem_map
def X6:=@Int.emod_nonneg
def X7:=@List.lookup_cons
def X8:=@decide_eq_true
def X9:=@PySem.Heap.get?_update_other
def Yb:=@PySem.W.kia_one
def Yc:=@List.length_set
def Yd:=@beq_eq_false_iff_ne
def Ye:=@List.length_singleton
def Yg:=@List.length_filter_le
def Yh:=@List.append_assoc
def Yi:=@List.getElem?_append_right
def Yj:=@Nat.lt_irrefl
def Yk:=@List.map_map
def Yl:=@List.nodup_nil
def Ym:=@List.map_nil
def Yn:=@List.length_eq_zero_iff
def Yo:=@List.cons_append
def Yp:=@List.getElem?_set_self
def Yq:=@PySem.wpAny_truthy_bool
def Yr:=@List.find?_cons
def Ys:=@List.getElem?_append_left
def Yt:=@PySem.F.slot_dict_get
def Yu:=@List.getElem?_set_ne
def Yv:=@List.mem_of_getElem?
def Yw:=@PySem.wpAny_typeNameOfWhole_keyiter
def Yx:=@List.eraseIdx_cons_succ
def Yy:=@of_decide_eq_true
def Yz:=@Array.length_toList
def YA:=@PySem.mem_of_lookup
def YB:=@List.getD_cons_succ
def YC:=@List.map_congr_left
def YD:=@Prod.mk.inj
def YE:=@List.all_eq_true
def YF:=@Bool.and_eq_true
def YG:=@List.getElem_mem
def YH:=@PySem.wpAny_Call_Name_kw
def YI:=@Nat.lt_of_le_of_lt
def YJ:=@Array.getElem?_eq_getElem
def YK:=@List.getElem?_eq_none_iff
def YL:=@PySem.wpAny_passesOwn
def YM:=@PySem.Around.under_plainId
def YN:=@PySem.wpAny_typeNameOf_keyiter
def YO:=@PySem.W.hideAll_get
def YQ:=@beq_self_eq_true
def YR:=@List.getElem?_cons_succ
def YS:=@Nat.zero_le
def YT:=@PySem.tupleKind_room_in1
def YU:=@PySem.F.entry_dict_get
def YV:=@List.mem_filter
def YW:=@PySem.wpAny_execs_nil
def YX:=@List.any_cons
def YY:=@PyProof.Rows.callWith_type1
def YZ:=@PySem.Heap.size_push
def Y0:=@PySem.Calls.evalArgs_plain
def Y1:=@Nat.pow_le_pow_right
def Y2:=@Ne.symm
def Y3:=@Nat.lt_succ_self
def Y4:=@List.length_take
def Y5:=@List.drop_eq_getElem_cons
def Y6:=@PySem.plainId_quiet
def Y7:=@PySem.codeAny_builtin
def Y8:=@PySem.wpAny_mono
def Y9:=@List.mem_filterMap
def Za:=@PySem.Calls.spliced_cons
def Zb:=@PySem.W.callWith_K
def Zc:=@List.getElem?_replicate
def Zd:=@PySem.wpAny_pyIter_list
def Ze:=@PySem.codeAny_mono
def Zf:=@PySem.Calls.callWith_builtin
def Zg:=@PySem.wpAny_tryCatch
def Zh:=@Nat.sub_self
def Zi:=@Array.getElem?_toList
def Zj:=@PySem.Heap.get?_update_self
def Zk:=@Bool.beq_eq_decide_eq
def Zl:=@beq_iff_eq
def Zm:=@List.drop_length
def Zn:=@Bool.eq_iff_iff
def Zo:=@Option.map_some
def Zp:=@List.filter_nil
def Zq:=@PySem.W.plainGet_of
def Zr:=@List.getElem?_range
def Zs:=@PySem.W.shaped_ints
def Zt:=@Nat.succ.inj
def Zu:=@PySem.Calls.Name_function_global
def Zv:=@Int.fdiv_eq_ediv_of_nonneg
def Zw:=@Bool.false_eq_true
def Zx:=@List.exists_mem_of_ne_nil
def Zy:=@PySem.Calls.spliced_nil
def Zz:=@Nat.lt_succ_of_lt
def ZA:=@PySem.wpAny_newObj_type
def ZB:=@List.ext_getElem?
def ZC:=@PySem.wpAny_loadPart_at
def ZD:=@PySem.Paired.length
def ZE:=@Option.isSome_iff_exists
def ZG:=@List.set_eq_of_length_le
def ZH:=@PySem.wpAny_execs_cons
def ZI:=@PySem.F.args_dict_get_2
def ZJ:=@PySem.F.args_dict_get_3
def ZK:=@PySem.F.plainAttrs_dict
def ZL:=@if_false
def ZM:=@Option.bind_eq_some_iff
def ZN:=@List.mem_flatMap
def ZO:=@List.filter_cons_of_pos
def ZP:=@List.filter_cons_of_neg
def ZQ:=@PySem.W.cellsFrom_some
def ZR:=@PySem.call_meetsIn
def ZU:=@List.drop_eq_nil_of_le
def ZW:=@List.range_succ_eq_map
def ZX:=@PySem.wpAny_updateSeq
def ZY:=@List.foldl_cons
def ZZ:=@Nat.min_eq_left
def Z0:=@List.cons.injEq
def Z2:=@PySem.W.methodCall_KW
def Z3:=@PySem.F.type_dict_get
def Z4:=@List.getElem?_toArray
def Z6:=@List.length_replicate
def Z7:=@List.Perm.append_left
def Z9:=@congrFun
def Aa0:=@List.mem_range
def Aa3:=@PySem.wpAny_letGo
def Aa7:=@List.tail_cons
def Ab1:=@Prod.mk.injEq
def Ab4:=@List.drop_one
def Ad2:=@List.all_map
namespace HD
open PySem PySem.W PyProof.Rows
def top(p:Program)(i:Nat):Stmt:=p.main.body.getD i (.Pass ⟨0,0,0,0⟩)
def iC(s:Stmt)(j:Nat):Stmt:=match s with
 |.ClassDef _ _ _ body _ _ _ _ _ _ _=>body.getD j (.Pass ⟨0,0,0,0⟩)
 |_=> .Pass ⟨0,0,0,0⟩
def dA(s:Stmt):Arguments:=match s with
 |.FunctionDef _ a _ _ _ _ _ _ _ _=>a
 |_=>{posonlyargs:=[],args:=[],vararg:=none,kwonlyargs:=[],kw_defaults:=[],kwarg:=none,defaults:=[]}
def dB(s:Stmt):List Stmt:=match s with
 |.FunctionDef _ _ b _ _ _ _ _ _ _=>b
 |_=>[]
def dS(s:Stmt):Scope:=match s with
 |.FunctionDef _ _ _ _ _ _ sc _ _ _=>sc
 |_=>{kind:=.function,names:=[],isGenerator:=false,isCoroutine:=false}
def MW(as:List Addr)(h:Heap):Frag:=as.filterMap λa=>(h.get? a).map λo=>(a,o)
theorem MV(as:List Addr)(h:Heap):(MW as h).In h:=by
 intro a o e
 induction as with
 |nil=>cases e
 |cons b as c=>
   unfold MW at e;rw[List.filterMap_cons]at e;cases q:h.get? b with
   |none=>
     rw[q]at e;exact c e
   |some x=>
     rw[q]at e;replace e:List.lookup a ((b,x)::MW as h)=some o:=e;rw[X7]at e;by_cases z:a=b
     ·subst z;rw[YQ a]at e;cases e;exact q
     ·rw[Yd.mpr z]at e;exact c e
abbrev Xh:=Str×Str×Arguments×FuncBody×Scope×Addr×List (Str×Addr)×Value×Addr×Bool
def fnO(K:Frag)(f:Addr)(q:Str):Option Xh:=match K.lookup f with
 |some ⟨_,_,.func fd,_⟩=>some (fd.name,fd.qualname,fd.params,fd.body,fd.scope,fd.globals,fd.closure,fd.defaults,fd.builtins,codeIn K fd.code q)
 |_=>none
def fnE(x q:Str)(st:Stmt):Option Xh:=some (x,q,dA st,.stmts (dB st),dS st,mainGlobals,[],.none,builtinsNs,true)
theorem fn_of{K:Frag}{f:Addr}{x q:Str}{st:Stmt}(h:fnO K f q=fnE x q st):∃(oc:Value) (c:Option Addr) (kV d pm:Value) (an:Option Addr) (b ct:Value) (a:Array (Option Value)),
 K.lookup f=some ⟨oc,c,.func (fnOf x q (dA st) (dB st) (dS st) .none kV d pm an b ct),a⟩/\codeIn K b q=true:=by
 unfold fnO at h;split at h
 · next oc c fd a e=>
   obtain⟨n,l,m,bd,sc,o,r,p,g,j,pm,an,k,ct,s⟩:=fd;unfold fnE at h;simp only[Option.some.injEq,Prod.mk.injEq]at h;obtain⟨rfl,rfl,rfl,rfl,rfl,rfl,rfl,rfl,rfl,i⟩:=h;exact⟨oc,c,g,j,pm,an,k,ct,a,e,i⟩
 ·exact nomatch h
theorem fn_keep{K:Frag}{f:Addr}{x q:Str}{st:Stmt}(h:fnO K f q=fnE x q st):keepIn K (.ref f)=true:=by
 obtain⟨oc,d,kV,b,pm,an,c,ct,a,e,_⟩:=fn_of h;show(match K.lookup f with|some ⟨_,_,.func _,_⟩=>true|some ⟨_,_,.cls _,_⟩=>specialIn K (.ref f) "__call__" == some (some (.builtin "type.__call__"))|_=>false)=true;rw[e]
def qF(K:Frag)(C:Addr):List Value:=match K.lookup C with
 |some ⟨_,_,.cls a,_⟩=>a.mro
 |_=>[]
def lC(K:Frag)(C:Addr):Bool:=excIn K C [.type "ValueError",.type "Exception",.type "BaseException",.type "object"] "ValueError.__new__"
def excAt(K:Frag)(D:Addr):Bool:=findIn K (.ref D) "__getattribute__" == some (some (.builtin "BaseException.__getattribute__"))&&(findIn K (.ref D) "__getattr__" == some none&&(findIn K (.ref D) "__class__" == some (some (.builtin "object.__class__")) &&
 (specialIn K (.builtin "object.__class__") "__get__" == some (some (.builtin "getset_descriptor.__get__"))&&(takesIn K (.builtin "object.__class__")==some true&&(mroIn K D (.type "object")==some true&&(mroIn K D (.type "BaseException")==some true&&(clsIn K D).isSome))))))
abbrev Ob:=List (Option (Option Value))×List (Option (Option Value))×List Bool×List (Option Xh)×List (Bool×List Value)×List (Option Bool)
def cls(K:Frag)(C:Addr):Bool:=plainGet K C Str.empty&&(hasDictIn K C&&(plainOver K C&&(makesIn K C&&keepIn K (.ref C))))
def obK(ns:List Str)(M:List (Addr×Str))(fs c:List Addr)(ds:List (Addr×Str))(b:List Addr)(a:List (Addr×Value))(K:Frag):Ob:=
 (ns.map (nsIn K mainGlobals),M.map (λp=>findIn K (.ref p.1) p.2),(fs.map λf=>isFn K (.ref f))++c.map (cls K),ds.map (λp=>fnO K p.1 p.2),b.map (λC=>(lC K C&&excAt K C,qF K C)),a.map λp=>kitOne K (.ref p.1) p.2)
def ob(n:List Addr)(ns:List Str)(M:List (Addr×Str))(fs c:List Addr)(ds:List (Addr×Str))(b:List Addr)(a:List (Addr×Value))(s:Shared):Ob:=obK ns M fs c ds b a (MW n s.heap)
theorem two{X W O:Type}{o:Option X}{f:X->W}{g:X->O}{a:W}{b:O}(c:o.map f=some a)(d:o.map g=some b):o.map (λs=>(f s,g s))=some (a,b):=by
 cases o with
 |none=>cases c
 |some s=>cases c;cases d;rfl
theorem nth{X:Type}{l m:List X}(h:l=m)(i:Nat){a b:X}(d:l[i]?=some a)(c:m[i]?=some b):a=b:=by
 subst h;rw[d]at c;exact XQ c
theorem cls_of{K:Frag}{C:Addr}(h:cls K C=true):plainGet K C Str.empty=true/\hasDictIn K C=true/\plainOver K C=true/\makesIn K C=true/\keepIn K (.ref C)=true:=by
 unfold cls at h;simpa only[Bool.and_eq_true] using h
theorem walkX{q:Program}{loose:List Str}{XP:(Str->Option Value)->Heap->Prop}{n:List Addr}{ns:List Str}{M:List (Addr×Str)}{fs j:List Addr}{ds:List (Addr×Str)}{i:List Addr}{g:List (Addr×Value)}{E:Ob}{r:RowW}{d:DefRec}{c:List (Str×Expr)}{run:Value->List Value->Sem Value}
 (W:∀K:Frag,obK ns M fs j ds i g K=E->WalkO q loose XP (λ_ h=>K.In h) r d c run):WalkX q loose XP (ob n ns M fs j ds i g) (λ_=>E) r d c run:=
 λw s0 k mg l G y a o pm z e x kV v u t s p m args b f L F D C B A=>W _ y w s0 k mg l G ((MV _ _).keeps L.keeps) a o pm z e x kV v u t s p m args b f F D C B A
end HD
namespace HS
open PySem PySem.W PyProof.Rows
noncomputable def s0(w:World)(os:OsState):Shared:=⟨boot_heap w.params,Array.mk [],boot_drawn,boot_toks,os⟩
def mid(x:Shared):Option (Shared×Thread)->Shared
 |some (s,_)=>s
 |none=>x
def lz(x:SharedT):Option (Flow×SharedT×Code×Pos)->SharedT
 |some (_,s,_)=>s
 |none=>x
noncomputable def look{X:Type}(p:Program)(w:World)(f:Shared->X)(o:Option Shared):Option X:=o.bind λa=>match staticsOk (importedModules p.main.body) (boot_heap w.params) a.heap&&namesBound p a.heap&&gensDone a&&laidKept (boot_heap w.params) a.heap with
 |true=>some (f a)
 |false=>none
section
variable{p:Program}{w:World}{os:OsState}{m0:Nat}{ann:Option Value}{env:PySem.Env}{q posA posB pos1 pos2:Pos}{b l1 l2:List Stmt}{sA:Shared}{sB s1 s2:SharedT}{k0 kb k1 k2:Nat}
theorem first(pre:topGo treeTable p w m0 ann k0 (s0 w os) (topStub p)=some (sA,⟨denote treeTable (.body b env),.body b env,posA,[topFrame q]⟩))
 (OU:segRun treeTable p w m0 ann 1 kb sA (blockOf b env (.body b env) posA [topFrame q])=some (.next,sB.abs,.body b env,posB)) {N:Nat} {r:Shared} (h:topRun treeTable p w m0 ann N sB.abs (restOf b env (.body b env) posB [topFrame q])=some r):
 topRun treeTable p w m0 ann (k0+(kb+N)) (s0 w os) (topStub p)=some r:=go_top pre (piece_block OU h)
theorem TX{c:Code}(g:segRunT treeTable p w m0 ann 1 k1 s1 (piecesOf l1 env c pos1 [topFrame q])=some (.next,s2,c,pos2)){N:Nat}{r:Shared}(h:topRun treeTable p w m0 ann N s2.abs (restOf l2 env c pos2 [topFrame q])=some r):
 topRun treeTable p w m0 ann (k1+N) s1.abs (restOf (l1++l2) env c pos1 [topFrame q])=some r:=piece_app (segRun_of g) h
end
theorem ends{p:Program}{N M i:Nat}{g:Option Value}{X:Type}{f:Shared->X}{good:World->X}
 (b:∀w:World,(fencedOpening treeTable p w N).map (λs=>(s.heap,s.gens,s.drawn,s.toks))=some (boot_heap w.params,Array.mk [],boot_drawn,boot_toks))
 (size:∀w:World,((boot_heap w.params).isNs mainGlobals && (Array.mk []:Array GenState).size == 0,(boot_heap w.params).objs.size,(boot_heap w.params).nsMap mainGlobals "__annotations__")=(true,i,g))
 (run:∀(w:World) (os:OsState),∃a,topRun treeTable p w i g M (s0 w os) (topStub p)=some a/\look p w f (some a)=some (good w)) (q:M<=N):∀w:World,(openEnds treeTable p w N).map f=some (good w):=λw=>by
 obtain⟨⟨h,n,d,k,os⟩,e,o⟩:=XR.mp (b w);obtain⟨rfl,rfl,rfl,rfl⟩:h=boot_heap w.params/\n=Array.mk []/\d=boot_drawn/\k=boot_toks:=by simpa using o
 obtain⟨m,l,j⟩:_/\_/\_:=by simpa only[Ab1] using size w
 obtain⟨a,r,lk⟩:=run w os;have r:=topRun_mono (N-M) _ _ _ _ r;rw[show M+(N-M)=N by omega]at r;unfold openEnds;rw[e];show(topFrom treeTable p w N _).map f=_;unfold topFrom;dsimp only;rw[m,l,j];show((topRun treeTable p w i g N (s0 w os) (topStub p)).bind _).map f=_;rw[r];unfold look at lk;dsimp only[Option.bind]at lk ⊢;cases c:staticsOk (importedModules p.main.body) (boot_heap w.params) a.heap&&namesBound p a.heap&&gensDone a&&laidKept (boot_heap w.params) a.heap with
 |true=>rw[c]at lk;exact lk
 |false=>rw[c]at lk;cases lk
theorem run{X W:Type}{p:Program}{d k0 s o m M:Nat}{a:Option Value}{env:PySem.Env}{q j i h c:Pos}{b cj:List Stmt}{Ls:World->OsState->Shared}{NN Lr fz:World->OsState->SharedT}{f:Shared->X}{g:Shared->W}{good:World->X}{k:World->W}
 (pre:∀w:World,(λos=>topGo treeTable p w d a k0 (s0 w os) (topStub p))=λos=>some (Ls w os,⟨denote treeTable (.body b env),.body b env,j,[topFrame q]⟩))
 (OU:∀w:World,(λos=>segRun treeTable p w d a 1 s (Ls w os) (blockOf b env (.body b env) j [topFrame q]))=λos=>some (.next,(NN w os).abs,.body b env,i))
 (ch:∀(w:World) (os:OsState) (r:Shared),topRun treeTable p w d a (o+m) (Lr w os).abs (restOf cj env (.body b env) h [topFrame q])=some r->topRun treeTable p w d a M (NN w os).abs (restOf b env (.body b env) i [topFrame q])=some r)
 (v:∀w:World,(λos=>(segRunT treeTable p w d a 1 o (Lr w os) (piecesOf cj env (.body b env) h [topFrame q]),look p w f (topRun treeTable p w d a m (fz w os).abs ⟨doneF .next,.body b env,c,[topFrame q]⟩),look p w g (topRun treeTable p w d a m (fz w os).abs ⟨doneF .next,.body b env,c,[topFrame q]⟩)))=λos=>(some (.next,fz w os,.body b env,c),some (good w),some (k w))) (w:World) (os:OsState):
 ∃l,topRun treeTable p w d a (k0+(s+M)) (s0 w os) (topStub p)=some l/\look p w f (some l)=some (good w)/\look p w g (some l)=some (k w):=by
 obtain⟨u,n,t⟩:_/\_/\_:=by simpa only[Ab1] using Z9 (v w) os
 cases e:topRun treeTable p w d a m (fz w os).abs ⟨doneF .next,.body b env,c,[topFrame q]⟩ with
 |none=>rw[e]at n;cases n
 |some l=>
   rw[e]at n t;refine⟨l,first (Z9 (pre w) os) (Z9 (OU w) os) (ch w os l ?_),n,t⟩
   have:=TX (l2:=[]) u (piece_nil e)
   rw[XZ]at this;exact this
theorem run1{X:Type}{p:Program}{i k0 n m l M:Nat}{a:Option Value}{env:PySem.Env}{q h g d c:Pos}{b cj:List Stmt}{Ls:World->OsState->Shared}{NN Lr fz:World->OsState->SharedT}{f:Shared->X}{good:World->X}
 (pre:∀w:World,(λos=>topGo treeTable p w i a k0 (s0 w os) (topStub p))=λos=>some (Ls w os,⟨denote treeTable (.body b env),.body b env,h,[topFrame q]⟩))
 (OU:∀w:World,(λos=>segRun treeTable p w i a 1 n (Ls w os) (blockOf b env (.body b env) h [topFrame q]))=λos=>some (.next,(NN w os).abs,.body b env,g))
 (ch:∀(w:World) (os:OsState) (r:Shared),topRun treeTable p w i a (m+l) (Lr w os).abs (restOf cj env (.body b env) d [topFrame q])=some r->topRun treeTable p w i a M (NN w os).abs (restOf b env (.body b env) g [topFrame q])=some r)
 (s:∀w:World,(λos=>(segRunT treeTable p w i a 1 m (Lr w os) (piecesOf cj env (.body b env) d [topFrame q]),look p w f (topRun treeTable p w i a l (fz w os).abs ⟨doneF .next,.body b env,c,[topFrame q]⟩)))=λos=>(some (.next,fz w os,.body b env,c),some (good w))) (w:World) (os:OsState):
 ∃j,topRun treeTable p w i a (k0+(n+M)) (s0 w os) (topStub p)=some j/\look p w f (some j)=some (good w):=by
 obtain⟨o,k⟩:_/\_:=by simpa only[Ab1] using Z9 (s w) os
 cases e:topRun treeTable p w i a l (fz w os).abs ⟨doneF .next,.body b env,c,[topFrame q]⟩ with
 |none=>rw[e]at k;cases k
 |some j=>
   rw[e]at k;refine⟨j,first (Z9 (pre w) os) (Z9 (OU w) os) (ch w os j ?_),k⟩
   have:=TX (l2:=[]) o (piece_nil e)
   rw[XZ]at this;exact this
end HS
set_option maxHeartbeats 4000000
namespace K22
open PySem PySem.W PyProof.Rows
theorem hd0(h:PySem.Challenge.rw_heraldways_k22_whole_all_settled_tables.row.wellSaid=true->PySem.Challenge.rw_heraldways_k22_whole_all_settled_tables.row.Holds):PySem.Challenge.rw_heraldways_k22_whole_all_settled_tables.Holds:=by
 w_on;o_law;exact h (by assumption)
abbrev qP(p:Program):Program:=view p [0,2,3,4,5,6,8,9,10,11,13,14,15,16,17,18,20,21,22,23,24,25,26,28,29,30,31,32,33,34,35,36,37,38,39,40,41,42,43,44,45,46,47,48,49,50,51]
def W8:List Addr:=List.range 463
def Uy:List Str := "Guild"::"_law_cell_at"::"_law_followed"::"_law_fond_by"::"_law_key"::"_law_nexts"::"_law_road_by"::"_law_shy_by"::"_law_ties"::"_law_ways_by"::"_law_whole"::"best_road"::"next_houses_of"::"require_within"::"road_by"::"rows_with_ends"::"_law_best"::"_law_dear_by"::"_law_rows"::"_law_same_road"::"may_take"::"require_told_houses"::"table_by"::"_law_got"::"_law_same_table"::"_law_settled"::"_law_table_kind"::"_law_all"::"_law_five"::"rows_of_next_houses"::"_law_guild_by"::"standing"::"choice_among"::"first_unsettled"::"settled_tables"::"_law_told"::"_law_too_many"::"law"::"SEAT"::"MOST_HOUSES"::"MOST_FOR_TABLES"::"len"::"range"::"min"::"max"::"set"::"list"::"tuple"::"isinstance"::"any"::"bool"::"int"::"ValueError"::"GuildError"::"NoHouse"::"WayThere"::"NoRoad"::"TooMany" :: []
def UB:List (Addr×Str):=(228,"__init__")::(228,"houses_paired")::(228,"shuns_one_of")::(228,"size")::(228,"require_houses")::(228,"like")::(228,"liking")::(228,"neighbours")::(228,"require_long_road")::(228,"require_two_houses")::(228,"lay_way")::(228,"rank_of")::(228,"shun")::(228,"wish")::(228,"__setattr__")::(228,"house_count")::(228,"ways")::(228,"likings")::(228,"shuns")::(228,"wish_ranks")::[]
def Vl:List Addr:=[103,192,204,110,211,145,152,117,225,218,131,187,159,173]
def VY:List Addr:=[228]
def Vu:List (Addr×Str):=(103,"Guild.__init__")::(192,"Guild.houses_paired")::(204,"Guild.shuns_one_of")::(110,"Guild.size")::(313,"_law_cell_at")::(417,"_law_followed")::(365,"_law_fond_by")::(346,"_law_key")::(403,"_law_nexts")::(339,"_law_road_by")::(379,"_law_shy_by")::(391,"_law_ties")::(358,"_law_ways_by")::(320,"_law_whole")::(270,"best_road")::(306,"next_houses_of")::(89,"require_within")::(301,"road_by")::(289,"rows_with_ends")::(211,"Guild.require_houses")::(351,"_law_best")::(372,"_law_dear_by")::(410,"_law_rows")::(327,"_law_same_road")::(263,"may_take")::(251,"require_told_houses")::(294,"table_by")::(145,"Guild.like")::(152,"Guild.liking")::(117,"Guild.neighbours")::(225,"Guild.require_long_road")::(218,"Guild.require_two_houses")::(427,"_law_got")::(334,"_law_same_table")::(396,"_law_settled")::(434,"_law_table_kind")::(131,"Guild.lay_way")::(187,"Guild.rank_of")::(159,"Guild.shun")::(173,"Guild.wish")::(422,"_law_all")::(441,"_law_five")::(284,"rows_of_next_houses")::(386,"_law_guild_by")::(244,"standing")::(256,"choice_among")::(237,"first_unsettled")::(277,"settled_tables")::(455,"_law_told")::(448,"_law_too_many")::(462,"law")::[]
def Vr:List Addr:=[31,44,56,68,80]
def Vf:List (Addr×Value):=(80,.ref 31)::[]
abbrev rf(n:Nat):Option (Option Value):=some (some (.ref n))
def S7(p:Program):HD.Ob:=(rf 228::rf 313::rf 417::rf 365::rf 346::rf 403::rf 339::rf 379::rf 391::rf 358::rf 320::rf 270::rf 306::rf 89::rf 301::rf 289::rf 351::rf 372::rf 410::rf 327::rf 263::rf 251::rf 294::rf 427::rf 334::rf 396::rf 434::rf 422::rf 441::rf 284::rf 386::rf 244::rf 256::rf 237::rf 277::rf 455::rf 448::rf 462::some (some (.int 0 280))::some (some (.int 60 282))::some (some (.int 5 523))::some none::some none::some none::some none::some none::some none::some none::some none::some none::some none::some none::some none::rf 31::rf 44::rf 56::rf 68::rf 80::[],rf 103::rf 192::rf 204::rf 110::rf 211::rf 145::rf 152::rf 117::rf 225::rf 218::rf 131::rf 187::rf 159::rf 173::some (some (.builtin "object.__setattr__"))::some none::some none::some none::some none::some none::[],true::true::true::true::true::true::true::true::true::true::true::true::true::true::true::[],HD.fnE "__init__" "Guild.__init__" (HD.iC (HD.top p 11) 0)::HD.fnE "houses_paired" "Guild.houses_paired" (HD.iC (HD.top p 11) 13)::HD.fnE "shuns_one_of" "Guild.shuns_one_of" (HD.iC (HD.top p 11) 15)::HD.fnE "size" "Guild.size" (HD.iC (HD.top p 11) 1)::HD.fnE "_law_cell_at" "_law_cell_at" (HD.top p 28)::HD.fnE "_law_followed" "_law_followed" (HD.top p 44)::HD.fnE "_law_fond_by" "_law_fond_by" (HD.top p 36)::HD.fnE "_law_key" "_law_key" (HD.top p 33)::HD.fnE "_law_nexts" "_law_nexts" (HD.top p 42)::HD.fnE "_law_road_by" "_law_road_by" (HD.top p 32)::HD.fnE "_law_shy_by" "_law_shy_by" (HD.top p 38)::HD.fnE "_law_ties" "_law_ties" (HD.top p 40)::HD.fnE "_law_ways_by" "_law_ways_by" (HD.top p 35)::HD.fnE "_law_whole" "_law_whole" (HD.top p 29)::HD.fnE "best_road" "best_road" (HD.top p 18)::HD.fnE "next_houses_of" "next_houses_of" (HD.top p 26)::HD.fnE "require_within" "require_within" (HD.top p 10)::HD.fnE "road_by" "road_by" (HD.top p 25)::HD.fnE "rows_with_ends" "rows_with_ends" (HD.top p 23)::HD.fnE "require_houses" "Guild.require_houses" (HD.iC (HD.top p 11) 16)::HD.fnE "_law_best" "_law_best" (HD.top p 34)::HD.fnE "_law_dear_by" "_law_dear_by" (HD.top p 37)::HD.fnE "_law_rows" "_law_rows" (HD.top p 43)::HD.fnE "_law_same_road" "_law_same_road" (HD.top p 30)::HD.fnE "may_take" "may_take" (HD.top p 17)::HD.fnE "require_told_houses" "require_told_houses" (HD.top p 15)::HD.fnE "table_by" "table_by" (HD.top p 24)::HD.fnE "like" "Guild.like" (HD.iC (HD.top p 11) 6)::HD.fnE "liking" "Guild.liking" (HD.iC (HD.top p 11) 7)::HD.fnE "neighbours" "Guild.neighbours" (HD.iC (HD.top p 11) 2)::HD.fnE "require_long_road" "Guild.require_long_road" (HD.iC (HD.top p 11) 18)::HD.fnE "require_two_houses" "Guild.require_two_houses" (HD.iC (HD.top p 11) 17)::HD.fnE "_law_got" "_law_got" (HD.top p 46)::HD.fnE "_law_same_table" "_law_same_table" (HD.top p 31)::HD.fnE "_law_settled" "_law_settled" (HD.top p 41)::HD.fnE "_law_table_kind" "_law_table_kind" (HD.top p 47)::HD.fnE "lay_way" "Guild.lay_way" (HD.iC (HD.top p 11) 4)::HD.fnE "rank_of" "Guild.rank_of" (HD.iC (HD.top p 11) 12)::HD.fnE "shun" "Guild.shun" (HD.iC (HD.top p 11) 8)::HD.fnE "wish" "Guild.wish" (HD.iC (HD.top p 11) 10)::HD.fnE "_law_all" "_law_all" (HD.top p 45)::HD.fnE "_law_five" "_law_five" (HD.top p 48)::HD.fnE "rows_of_next_houses" "rows_of_next_houses" (HD.top p 22)::HD.fnE "_law_guild_by" "_law_guild_by" (HD.top p 39)::HD.fnE "standing" "standing" (HD.top p 14)::HD.fnE "choice_among" "choice_among" (HD.top p 16)::HD.fnE "first_unsettled" "first_unsettled" (HD.top p 13)::HD.fnE "settled_tables" "settled_tables" (HD.top p 21)::HD.fnE "_law_told" "_law_told" (HD.top p 50)::HD.fnE "_law_too_many" "_law_too_many" (HD.top p 49)::HD.fnE "law" "law" (HD.top p 51)::[],(true,[.ref 31,.type "ValueError",.type "Exception",.type "BaseException",.type "object"])::(true,[.ref 44,.ref 31,.type "ValueError",.type "Exception",.type "BaseException",.type "object"])::(true,[.ref 56,.ref 31,.type "ValueError",.type "Exception",.type "BaseException",.type "object"])::(true,[.ref 68,.ref 31,.type "ValueError",.type "Exception",.type "BaseException",.type "object"])::(true,[.ref 80,.ref 31,.type "ValueError",.type "Exception",.type "BaseException",.type "object"])::[],some true::[])
open_shared sh for PySem.Challenge.pw_heraldways_k22_whole_all_settled_tables leaving 44
noncomputable section
noncomputable abbrev pg:Program:=PySem.Challenge.pw_heraldways_k22_whole_all_settled_tables
noncomputable abbrev bd:List Stmt:=behindTheImports pg
noncomputable abbrev cE:Code:=.body bd sh.env_1
noncomputable abbrev BB:List Frame:=[topFrame ⟨0,0,0,0⟩]
abbrev nK:Nat:=1986+2
noncomputable def Ls(w:World)(os:OsState):Shared:=HS.mid (HS.s0 w os) (topGo treeTable pg w 11 (some (.ref 6)) 12 (HS.s0 w os) (topStub pg))
noncomputable abbrev NN(w:World)(os:OsState):SharedT:=({tree:=sh.tree_4 w.params,n:=15,life:={},gens:={toList:=[]},drawn:={},toks:=187,os:=os}:SharedT)
noncomputable abbrev Lr(w:World)(os:OsState):SharedT:=({tree:=sh.tree_90 w.params,n:=83,life:={},gens:={toList:=[]},drawn:={},toks:=280,os:=os}:SharedT)
theorem pre(w:World):(λos=>topGo treeTable pg w 11 (some (.ref 6)) 12 (HS.s0 w os) (topStub pg))=λos=>some (Ls w os,⟨denote treeTable cE,cE,⟨0,0,0,0⟩,BB⟩):=by
 unfold Ls cE bd pg;rw[Fast.te14364793385576792824,Fast.te12888648120655551292]
 kernel_rfl
theorem OU(w:World):(λos=>segRun treeTable pg w 11 (some (.ref 6)) 1 1 (Ls w os) (blockOf bd sh.env_1 cE ⟨0,0,0,0⟩ BB))=λos=>some (.next,(NN w os).abs,cE,⟨0,0,0,0⟩):=by
 unfold Ls cE bd pg;rw[Fast.te14364793385576792824,Fast.te12888648120655551292]
 kernel_rfl
theorem bdE:sh.sts_4++(sh.sts_28++(sh.sts_44++(sh.sts_60++(sh.sts_76++bd.drop 8))))=bd:=by
 unfold bd pg;rw[Fast.te12888648120655551292]
 kernel_rfl
theorem chn(w:World)(os:OsState)(r:Shared)(h:topRun treeTable pg w 11 (some (.ref 6)) nK (Lr w os).abs (restOf (bd.drop 8) sh.env_1 cE ⟨15,0,15,8⟩ BB)=some r):topRun treeTable pg w 11 (some (.ref 6)) (Nat.add 225 (Nat.add 214 (Nat.add 214 (Nat.add 214 (Nat.add 223 nK))))) (NN w os).abs (restOf bd sh.env_1 cE ⟨0,0,0,0⟩ BB)=some r:=by
 have h:=sh.chain pg bd w os (bd.drop 8) nK r h;rw[bdE]at h;exact h
noncomputable def fz(w:World)(os:OsState):SharedT:=HS.lz (Lr w os) (segRunT treeTable pg w 11 (some (.ref 6)) 1 1986 (Lr w os) (piecesOf (bd.drop 8) sh.env_1 cE ⟨15,0,15,8⟩ BB))
noncomputable abbrev gQ{X:Type}(f:Shared->X)(g:X):Prop:=∀w:World,(λos=>(segRunT treeTable pg w 11 (some (.ref 6)) 1 1986 (Lr w os) (piecesOf (bd.drop 8) sh.env_1 cE ⟨15,0,15,8⟩ BB),HS.look pg w f (topRun treeTable pg w 11 (some (.ref 6)) 2 (fz w os).abs ⟨doneF .next,cE,⟨357,0,382,45⟩,BB⟩)))=λos=>(some (.next,fz w os,cE,⟨357,0,382,45⟩),some g)
theorem gZ1:gQ (openSeen (qP pg) [] (importedModules pg.main.body) (λs=>xlAt (qP pg) [] s&&recOk (RowW.records PySem.Challenge.rw_heraldways_k22_whole_all_settled_tables.row.toRowW) s) true) (openGood (qP pg) []):=by
 intro w;unfold fz cE bd pg;rw[Fast.te10110043849684766642,Fast.te14082659384304107361,Fast.te14364793385576792824,Fast.te4187177175401517315,Fast.te5923862056798008813,Fast.te12888648120655551292]
 kernel_rfl
theorem gZ2:gQ (HD.ob W8 Uy UB Vl VY Vu Vr Vf) (S7 pg):=by
 intro w;unfold fz cE bd pg;rw[Fast.te10110043849684766642,Fast.te14082659384304107361,Fast.te14364793385576792824]
 kernel_rfl
theorem opn(w:World):(fencedOpening treeTable pg w 6266).map (λs=>(s.heap,s.gens,s.drawn,s.toks))=some (boot_heap w.params,Array.mk [],boot_drawn,boot_toks):=by
 unfold pg;rw[Fast.te14364793385576792824,Fast.te12888648120655551292]
 kernel_rfl
theorem siz(w:World):((boot_heap w.params).isNs mainGlobals && (Array.mk []:Array GenState).size == 0,(boot_heap w.params).objs.size,(boot_heap w.params).nsMap mainGlobals "__annotations__")=(true,11,(some (.ref 6))):=by
 kernel_rfl
theorem Ve(w:World):(openEnds treeTable PySem.Challenge.pw_heraldways_k22_whole_all_settled_tables w 6266).map (openSeen (qP PySem.Challenge.pw_heraldways_k22_whole_all_settled_tables) [] (importedModules PySem.Challenge.pw_heraldways_k22_whole_all_settled_tables.main.body) (λs=>xlAt (qP PySem.Challenge.pw_heraldways_k22_whole_all_settled_tables) [] s&&recOk (RowW.records PySem.Challenge.rw_heraldways_k22_whole_all_settled_tables.row.toRowW) s) true)=some (openGood (qP PySem.Challenge.pw_heraldways_k22_whole_all_settled_tables) []):=HS.ends (good:=λ_=>_) opn siz (HS.run1 pre OU chn gZ1) (by decide +kernel) w
theorem Vd(w:World):(openEnds treeTable PySem.Challenge.pw_heraldways_k22_whole_all_settled_tables w 6266).map (HD.ob W8 Uy UB Vl VY Vu Vr Vf)=some (S7 PySem.Challenge.pw_heraldways_k22_whole_all_settled_tables):=HS.ends (good:=λ_=>_) opn siz (HS.run1 pre OU chn gZ2) (by decide +kernel) w
end
end K22
namespace L2
open PySem PySem.Spec PyProof.Rows
abbrev c9:=Sum Int Str
def ub:c9->Value->Bool
 |.inl k,v=>Value.isInt k v
 |.inr x,v=>Value.isStrOf x v
def W1(w:World):c9->Int
 |.inl k=>hashInt k
 |.inr x=>hashStr w x
theorem c8:∀{k:c9} {v:Value},ub k v=true->(∃i t,k=Sum.inl i/\v=Value.int i t)\/(∃x t,k=Sum.inr x/\v=Value.str x t)
 | .inl i,v,h=>by
   obtain⟨t,e⟩:=Value.isInt_shape (k:=i) (v:=v) h;exact .inl ⟨i,t,rfl,e⟩
 | .inr x,v,h=>by
   obtain⟨t,e⟩:=Value.isStrOf_shape (x:=x) (v:=v) h;exact .inr ⟨x,t,rfl,e⟩
theorem ES(i:Int)(t:Tok):ub (.inl i) (.int i t)=true:=by simp[ub,Value.isInt]
theorem EQ(x:Str)(t:Tok):ub (.inr x) (.str x t)=true:=by simp[ub,Value.isStrOf]
theorem Rv(a b:Int):decide ((Sum.inl a:c9)=Sum.inl b)=(a==b):=by
 by_cases e:a=b
 ·subst e;simp
 ·have h:¬ (Sum.inl a:c9)=Sum.inl b:=λq=>e (Sum.inl.inj q);rw[X0 h];exact(Yd.mpr e).symm
theorem Rs(a b:Str):decide ((Sum.inr a:c9)=Sum.inr b)=decide (a=b):=by
 by_cases e:a=b
 ·subst e;simp
 ·have h:¬ (Sum.inr a:c9)=Sum.inr b:=λq=>e (Sum.inr.inj q);rw[X0 h,X0 e]
theorem Ru(a:Int)(b:Str):decide ((Sum.inl a:c9)=Sum.inr b)=false:=X0 (λq=>nomatch q)
theorem Rt(a:Str)(b:Int):decide ((Sum.inr a:c9)=Sum.inl b)=false:=X0 (λq=>nomatch q)
def cL(prog:Program)(w:World):PySem.KeyKind prog w c9 where
 is:=ub
 hash:=W1 w
 inj:=λv a b l f=>by
  rcases c8 l with ⟨i,t,rfl,rfl⟩|⟨x,t,rfl,rfl⟩
  · rcases c8 f with ⟨j,u,rfl,e⟩|⟨y,u,rfl,e⟩
    ·injection e with c _;rw[c]
    ·exact nomatch e
  · rcases c8 f with ⟨j,u,rfl,e⟩|⟨y,u,rfl,e⟩
    ·exact nomatch e
    ·injection e with c _;rw[c]
 byValue:=λk v h=>by
  rcases c8 h with ⟨i,t,rfl,rfl⟩|⟨x,t,rfl,rfl⟩<;>rfl
 pyHash:=λd h=>by
  rcases c8 d with ⟨i,t,rfl,rfl⟩|⟨x,t,rfl,rfl⟩
  ·exact wpAny_pyHash_int h
  ·exact wpAny_pyHash_str h
 eqBool:=λg d h=>by
  rcases c8 g with ⟨i,t,rfl,rfl⟩|⟨x,t,rfl,rfl⟩
  · rcases c8 d with ⟨j,u,rfl,rfl⟩|⟨y,u,rfl,rfl⟩
    ·rw[Rv]at h;exact wpAny_eqBool_int h
    ·rw[Ru]at h;exact SeqAt.EqAt.int_str i t y u _ _ _ _ h
  · rcases c8 d with ⟨j,u,rfl,rfl⟩|⟨y,u,rfl,rfl⟩
    ·rw[Rt]at h;exact SeqAt.EqAt.str_int x t j u _ _ _ _ h
    ·rw[Rs]at h;exact wpAny_eqBool_str h
 «strs»:=λk x t v h=>by
  rcases c8 h with ⟨i,u,rfl,e⟩|⟨y,u,rfl,e⟩
  ·exact nomatch e
  · injection e with c _
    subst c;cases v<;>rfl
theorem xK(prog:Program)(w:World)(i:Int)(t:Tok):(cL prog w).is (.inl i) (.int i t)=true:=ES i t
theorem xJ(prog:Program)(w:World)(x:Str)(t:Tok):(cL prog w).is (.inr x) (.str x t)=true:=EQ x t
inductive V where
 |non|bl (b:Bool)|int (i:Int)|str (x:Str)|byt (b:Array UInt8)|flt (b:UInt64)|ref (a:Addr)|ty (n:String)
 deriving DecidableEq
def RelV:V->Value->Prop
 |.non,u=>u=Value.none
 |.bl b,u=>u=Value.bool b
 |.int i,u=>∃t,u=Value.int i t
 |.str x,u=>∃t,u=Value.str x t
 |.byt b,u=>∃t,u=Value.bytes b t
 |.flt b,u=>∃t,u=Value.float b t
 |.ref a,u=>u=Value.ref a
 |.ty n,u=>u=Value.type n
abbrev Vals:List V->List Value->Prop:=Paired RelV
theorem Vals.length{xs:List V}{us:List Value}(r:Vals xs us):xs.length=us.length:=ZD r
theorem Vals.get:∀{xs:List V} {us:List Value} {i:Nat} {x:V},Vals xs us->xs[i]?=some x->∃u,us[i]?=some u/\RelV x u
 |_,_,_,_,.nil,e=>by simp at e
 |_,_,0,_,.cons r _,e=>by simp at e;subst e;exact⟨_,rfl,r⟩
 | _,_,i+1,x,.cons _ t,e=>by
   obtain⟨u,b,a⟩:=Vals.get (i:=i) (x:=x) t (by simpa using e);exact⟨u,by simpa using b,a⟩
theorem Vals.append:∀{xs a:List V} {us b:List Value},Vals xs us->Vals a b->Vals (xs++a) (us++b)
 |_,_,_,_,.nil,s=>s
 |_,_,_,_,.cons r t,s=>.cons r (Vals.append t s)
theorem Vals.take:∀{xs:List V} {us:List Value} (n:Nat),Vals xs us->Vals (xs.take n) (us.take n)
 |_,_,0,_=>.nil
 |_,_,_+1,.nil=>.nil
 |_,_,n+1,.cons r t=>.cons r (Vals.take n t)
theorem Vals.drop:∀{xs:List V} {us:List Value} (n:Nat),Vals xs us->Vals (xs.drop n) (us.drop n)
 |_,_,0,r=>r
 |_,_,_+1,.nil=>.nil
 |_,_,n+1,.cons _ t=>Vals.drop n t
def RelO:Option V->Option Value->Prop
 |some v,some u=>RelV v u
 |none,none=>True
 |_,_=>False
def KV{X:Type}:List (X×V)->List (X×Value)->Prop:=Paired λ(p:X×V) (q:X×Value)=>p.1=q.1/\RelV p.2 q.2
def kV:c9->V
 |.inl i=>.int i
 |.inr x=>.str x
inductive HO where
 /-- a list -/
 |lst (xs:List V)
 /-- a tuple (never changes) -/
 |tup (xs:List V)
 /-- a dict whose keys are ints and texts;one whose keys are tuples of ints and texts (the empty one is both) -/
 |dK (kvs:List (c9×V))|dT (kvs:List (List c9×V))
 /-- a set of ints: its members,its size -/
 |set (S:Int->Bool) (n:Nat)
 /-- an instance of the class at C,its dict at dx,its attributes -/
 |ins (C dx:Addr) (fs:List (Str×V))
 /-- the dict of the instance at x -/
 |own (x:Addr)
 /-- the dict of an exception -/
 |xd (fs:List (Str×V))
 /-- a bound method,f of x -/
 |met (f x:Addr)
 /-- a range object lo,lo+1,.. below hi -/
 |rng (lo hi:Int)
 /-- a thing that is known to the object (the script;a dict while a loop walks it): read,never written while it is so -/
 |frz (o:Obj) (u:HO)
 /-- a code object's table: at each of these places nothing,or a code of that name -/
 |tbl (l:List (Pos×Str))
 /-- any other thing,by what is true of its one object (a def of one's own: SetO a S n:=HO.ext λh=> ..) -/
 |ext (φ:Heap->Prop)
abbrev Hp:=Addr->Option HO
def upd(H:Hp)(a:Addr)(o:HO):Hp:=λb=>if b=a then some o else H b
theorem bj{H:Hp}{a:Addr}{o:HO}:upd H a o a=some o:=by unfold upd;rw[if_pos rfl]
theorem a7{H:Hp}{a b:Addr}{o:HO}(h:b≠a):upd H a o b=H b:=by unfold upd;rw[if_neg h]
theorem UA{H:Hp}{a b:Addr}{o u:HO}(h:H a=some o)(h':H b=some u)(d:o≠u):a≠b:=by
 intro e;subst e;rw[h]at h';exact d (XQ h')
theorem bE{H:Hp}{a b:Addr}{o:HO}(h:H a=some o)(h':H b=none):a≠b:=by
 intro e;subst e;rw[h]at h';cases h'
section
variable(P:Program)(w:World)
def ObjOk(H:Hp)(h:Heap)(a:Addr):HO->Prop
 |.lst xs=>xs.length<=sizeLine/\∃(its:List Value) (n:Nat),Vals xs its/\h.get? a=some {cls:=.type "list",data:=.seq its.toArray n}
 |.tup xs=>xs.length<=sizeLine/\∃its:List Value,Vals xs its/\IsTup h a its.toArray
 |.dK b=>b.length<=sizeLine/\(a==sysModules)=false/\∃vs,KV b vs/\h.DictOf (cL P w) a vs
 | .dT b=>b.length<=sizeLine/\(a==sysModules)=false/\∃xs:List (List c9×Addr×Value),
    Paired (λ(p:List c9×V) (q:List c9×Addr×Value)=>p.1=q.1/\H q.2.1=some (.tup (p.1.map kV))/\RelV p.2 q.2.2) b xs/\
    ∃o j k,h.get? a=some o/\o.ExactDict/\o.data=.dict j k/\j.toList=xs.map (entryOfKey (tupleKind (cL P w)))/\(xs.map (·.1)).Nodup
 |.set S n=>h.SetOf (intKind P w) a S n
 | .ins C dx fs=>H dx=some (.own a)/\fs.length<=1000/\dx≠a/\h.get? a=some (PySem.W.instObj C dx)/\
    ∃d,h.Ns1 dx d/\(∀f,RelO (fs.lookup f) (d f))/\PySem.Within d (fs.map (·.1))
 |.own _=>∃o,h.get? a=some o
 |.xd fs=>∃d,h.Ns1 a d/\∀f,RelO (fs.lookup f) (d f)
 |.rng lo hi=>∃t u v,h.get? a=some {cls:=.type "range",data:=.fields #[.int lo t,.int hi u,.int 1 v]}
 |.frz o u=>h.get? a=some o/\ObjOk H h a u
 |.tbl l=>(∀y∈l,∀z∈l,y.1.line=z.1.line->y.1.col=z.1.col->y.2=z.2)/\∃ps:Array Value,h.get? a=some {cls:=.none,data:=.fields ps}/\TriplesOk ps.toList/\∀x∈l,codeAmong x.1 ps.toList=none\/∃c,codeAmong x.1 ps.toList=some (.ref c)/\H c=some (.own a)/\h.CodeRec (.ref c) x.2
 |.met f x=>h.get? a=some (PySem.W.methodObj (.ref f) (.ref x))
 |.ext e=>e h/\(∃o,h.get? a=some o)/\∀i g:Heap,e i->(∀o,i.get? a=some o->g.get? a=some o)->e g
def HOk(H:Hp)(h:Heap):Prop:=∀a o,H a=some o->ObjOk P w H h a o
end
section
variable{P:Program}{w:World}{H H':Hp}{h h':Heap}{a:Addr}{o:HO}
theorem ObjOk.lt(x:ObjOk P w H h a o):a<h.objs.size:=by
 cases o with
 |lst xs=>obtain⟨_,_,_,_,e⟩:=x;exact Xu e
 |tup xs=>obtain⟨_,_,_,p⟩:=x;exact p.lt
 |dK b=>obtain⟨_,_,_,_,o,_,_,e,_⟩:=x;exact Xu e
 |dT b=>obtain⟨_,_,_,_,o,_,_,e,_⟩:=x;exact Xu e
 |set S n=>obtain⟨o,_,_,_,e,_⟩:=x;exact Xu e
 |ins C dx fs=>obtain⟨_,_,_,e,_⟩:=x;exact Xu e
 |own y=>obtain⟨_,e⟩:=x;exact Xu e
 |xd fs=>obtain⟨_,⟨_,_,_,e,_⟩,_⟩:=x;exact Xu e
 |rng lo hi=>obtain⟨_,_,_,e⟩:=x;exact Xu e
 |frz ob u=>obtain⟨e,_⟩:=x;exact Xu e
 |tbl l=>obtain⟨_,_,e,_⟩:=x;exact Xu e
 |met f y=>exact Xu (show h.get? a=some _ from x)
 |ext c=>obtain⟨_,⟨_,e⟩,_⟩:=x;exact Xu e
theorem Paired.mapP{X W:Type}{F G:X->W->Prop}:∀{d:List X} {c:List W},Paired F d c->(∀a b,F a b->G a b)->Paired G d c
 |_,_,.nil,_=>.nil
 |_,_,.cons r t,f=>.cons (f _ _ r) (Paired.mapP t f)
theorem ObjOk.stay(x:ObjOk P w H h a o)(k:∀b u,(b=a\/H b=some (.own a))->h.get? b=some u->h'.get? b=some u)
 (B:∀b,H b=some (.own a)->H' b=some (.own a)) (I:∀b xs,H b=some (.tup xs)->H' b=some (.tup xs)):ObjOk P w H' h' a o:=by
 induction o with
 |lst xs=>obtain⟨z,its,n,r,e⟩:=x;exact⟨z,its,n,r,k _ _ (.inl rfl) e⟩
 |tup xs=>obtain⟨z,its,r,ob,e,c⟩:=x;exact⟨z,its,r,ob,k _ _ (.inl rfl) e,c⟩
 |dK A=>obtain⟨z,y,vs,r,ob,i,j,e,c⟩:=x;exact⟨z,y,vs,r,ob,i,j,k _ _ (.inl rfl) e,c⟩
 |dT A=>
   obtain⟨z,y,xs,r,ob,i,j,e,c⟩:=x;exact⟨z,y,xs,Paired.mapP r λp q z=>⟨z.1,I _ _ z.2.1,z.2.2⟩,ob,i,j,k _ _ (.inl rfl) e,c⟩
 |set S n=>obtain⟨ob,i,j,t,e,c⟩:=x;exact⟨ob,i,j,t,k _ _ (.inl rfl) e,c⟩
 |ins C dx fs=>
   obtain⟨d,z,ne,e,s,⟨m,i,j,K,c⟩,r⟩:=x;exact⟨B _ d,z,ne,k _ _ (.inl rfl) e,s,⟨m,i,j,k _ _ (.inr d) K,c⟩,r⟩
 |own y=>obtain⟨ob,e⟩:=x;exact⟨ob,k _ _ (.inl rfl) e⟩
 |xd fs=>obtain⟨s,⟨m,i,j,e,c⟩,r⟩:=x;exact⟨s,⟨m,i,j,k _ _ (.inl rfl) e,c⟩,r⟩
 |rng lo hi=>obtain⟨t,u,v,e⟩:=x;exact⟨t,u,v,k _ _ (.inl rfl) e⟩
 |frz ob u F=>obtain⟨e,q⟩:=x;exact⟨k _ _ (.inl rfl) e,F q⟩
 |tbl l=>
   obtain⟨L,ps,e,t,q⟩:=x;refine⟨L,ps,k _ _ (.inl rfl) e,t,λy G=>?_⟩;rcases q y G with z|⟨c,z,D,⟨N,o,vs,E,J,g,r⟩⟩
   ·exact .inl z
   ·cases J;exact .inr ⟨c,z,B _ D,⟨c,o,vs,E,rfl,k _ _ (.inr D) g,r⟩⟩
 |met f y=>
   have e:h.get? a=some (PySem.W.methodObj (.ref f) (.ref y)):=x;show h'.get? a=some (PySem.W.methodObj (.ref f) (.ref y));exact k a _ (.inl rfl) e
 |ext M=>obtain⟨p,⟨o,e⟩,st⟩:=x;exact⟨st _ _ p λo q=>k _ _ (.inl rfl) q,⟨o,k _ _ (.inl rfl) e⟩,st⟩
theorem HOk.lt(x:HOk P w H h)(e:H a=some o):a<h.objs.size:=(x a o e).lt
theorem HOk.fresh(x:HOk P w H h)(e:h.objs.size<=a):H a=none:=by
 cases q:H a with
 |none=>rfl
 |some u=>exact absurd (XG (x.lt q) e) (Yj _)
theorem HOk.kept(x:HOk P w H h)(k:∀b u,h.get? b=some u->h'.get? b=some u):HOk P w H h':=λa o e=>
 (x a o e).stay (λb u _ q=>k b u q) (λ_ q=>q) λ_ _ q=>q
theorem HOk.laid(x:HOk P w H h)(k:∀b u,h.get? b=some u->h'.get? b=some u)(hp:h.objs.size<=a)(new:ObjOk P w (upd H a o) h' a o):HOk P w (upd H a o) h':=λb u e=>by
 have d:=x.fresh hp;by_cases f:b=a
 ·subst f;rw[bj]at e;cases e;exact new
 ·rw[a7 f]at e;exact(x b u e).stay (λc v _ q=>k c v q) (λc q=>by rw[a7 (bE q d)];exact q) λc xs q=>by rw[a7 (bE q d)];exact q
end
def Rd(H:Hp)(a:Addr)(u:HO):Prop:=H a=some u\/∃o,H a=some (.frz o u)
theorem Rd.ok{P:Program}{w:World}{H:Hp}{h:Heap}{a:Addr}{u:HO}(r:Rd H a u)(x:HOk P w H h):ObjOk P w H h a u:=by
 rcases r with r|⟨o,r⟩
 ·exact x a u r
 ·obtain⟨_,q⟩:=x a _ r;exact q
def Wq:Option HO->Prop
 |some (.lst _)=>True
 |some (.dK _)=>True
 |some (.dT _)=>True
 |some (.set _ _)=>True
 |some (.ins _ _ _)=>True
 |some (.ext _)=>True
 |_=>False
section
variable{P:Program}{w:World}{H:Hp}{h h':Heap}{x e:Addr}{o':HO}
theorem HOk.write(ok:HOk P w H h)(g:Wq (H x))(n:e=x\/H e=some (.own x))(k:∀b u,b≠e->h.get? b=some u->h'.get? b=some u)(l:∃u,h'.get? e=some u)
 (new:ObjOk P w (upd H x o') h' x o'):HOk P w (upd H x o') h':=λb u q=>by
 have d:∀c y,H c=some (.own y)->c≠x:=λc y r z=>by subst z;rw[r]at g;exact g
 have f:∀c xs,H c=some (.tup xs)->c≠x:=λc xs r z=>by subst z;rw[r]at g;exact g
 by_cases j:b=x
 ·subst j;rw[bj]at q;cases q;exact new
 · rw[a7 j]at q;by_cases a:b=e
   · have m:H b=some (.own x):=by
      rcases n with z|z
      ·exact absurd (a.trans z) j
      ·rw[a];exact z
     rw[q]at m;cases m;obtain⟨v,o⟩:=l;exact⟨v,by rw[a];exact o⟩
   · refine(ok b u q).stay (λc v i r=>k c v ?_ r) (λc r=>by rw[a7 (d c b r)];exact r) λc xs r=>by rw[a7 (f c xs r)];exact r
     rcases i with rfl|i
     ·exact a
     · rintro rfl;rcases n with z|z
       ·exact d c b i z
       ·rw[i]at z;cases z;exact j rfl
end
structure Un (fs ex:List Addr) (H H':Hp) (h h':Heap):Prop where
 keep:∀b o,h.get? b=some o->H b=none->b∉fs->b∉ex->h'.get? b=some o
 slot:∀b o,h.get? b=some o->H b=none->b∈fs->b∉ex->∃sl,h'.get? b=some {o with slots:=sl}
 free:∀b o,h.get? b=some o->H b=none->b∉ex->H' b=none
 there:∀b o,h.get? b=some o->b∉ex->∃o',h'.get? b=some o'
 tups:∀b xs,H b=some (.tup xs)->H' b=some (.tup xs)
 frzs:∀b o u,H b=some (.frz o u)->H' b=some (.frz o u)
 tbls:∀b l,H b=some (.tbl l)->H' b=some (.tbl l)/\∀c o,H c=some (.own b)->h.get? c=some o->H' c=some (.own b)/\h'.get? c=some o
section
variable{fs fs' ex ex':List Addr}{H H1 H2:Hp}{h h1 h2 h':Heap}{a x e:Addr}{o:HO}
theorem Un.any(u:Un fs ex H H1 h h1){b:Addr}{ob:Obj}(q:h.get? b=some ob)(n:H b=none)(a:b∉ex):∃d,h1.get? b=some {ob with slots:=d}:=by
 by_cases c:b∈fs
 ·exact u.slot b ob q n c a
 ·exact⟨ob.slots,u.keep b ob q n c a⟩
theorem Un.kept(k:∀b u,h.get? b=some u->h'.get? b=some u):Un fs ex H H h h':=
 ⟨λb ob q _ _ _=>k b ob q,λb ob q _ _ _=>⟨ob.slots,k b ob q⟩,λ_ _ _ n _=>n,λb ob q _=>⟨ob,k b ob q⟩,λ_ _ q=>q,λ_ _ _ q=>q,λ_ _ q=>⟨q,λc o d a=>⟨d,k c o a⟩⟩⟩
theorem Un.refl:Un fs ex H H h h:=Un.kept λ_ _ q=>q
theorem Un.laid(k:∀b u,h.get? b=some u->h'.get? b=some u)(hp:h.objs.size<=a)(d:H a=none):Un fs ex H (upd H a o) h h' where
 keep:=λb u q _ _ _=>k b u q
 slot:=λb u q _ _ _=>⟨u.slots,k b u q⟩
 free:=λb u q n _=>by rw[a7 (XN (XG (Xu q) hp))];exact n
 there:=λb u q _=>⟨u,k b u q⟩
 tups:=λb xs q=>by rw[a7 (bE q d)];exact q
 frzs:=λb u xs q=>by rw[a7 (bE q d)];exact q
 tbls:=λb xs q=>⟨by rw[a7 (bE q d)];exact q,λc o e f=>⟨by rw[a7 (bE e d)];exact e,k c o f⟩⟩
theorem Un.write(a:Wq (H x))(l:e=x\/H e=some (.own x))(k:∀b u,b≠e->h.get? b=some u->h'.get? b=some u)(i:∃u,h'.get? e=some u):Un fs ex H (upd H x o) h h':=by
 have j:∀b,H b=none->b≠x:=λb n z=>by subst z;rw[n]at a;exact a
 have m:∀b,H b=none->b≠e:=λb n z=>by
  subst z;rcases l with r|r
  ·exact j b n r
  ·rw[n]at r;cases r
 have d:∀b u,H b=some u->¬ Wq (some u)->b≠x:=λb u q nm z=>by subst z;rw[q]at a;exact nm a
 refine⟨λb u q n _ _=>k b u (m b n) q,λb u q n _ _=>⟨u.slots,k b u (m b n) q⟩,λb u q n _=>by rw[a7 (j b n)];exact n,λb u q _=>?_,
  λb xs q=>by rw[a7 (d b _ q λz=>z)];exact q,λb u xs q=>by rw[a7 (d b _ q λz=>z)];exact q,λb ps q=>⟨by rw[a7 (d b _ q λz=>z)];exact q,λc o g p=>⟨by rw[a7 (d c _ g λz=>z)];exact g,k c o (λz=>by
   rcases l with r|r
   ·exact d c _ g (λz=>z) (z.trans r)
   ·rw[<-z,g]at r;cases r;rw[q]at a;exact a) p⟩⟩⟩
 by_cases f:b=e
 ·subst f;exact i
 ·exact⟨u,k b u f q⟩
end
def Wu(h:Heap)(H:Hp):List Addr:=(List.range h.objs.size).filter λa=>(H a).isSome
def qR(h:Heap)(H:Hp):Heap:=PySem.W.hideAll h (Wu h H)
theorem EZ(h:Heap)(H:Hp):(qR h H).objs.size=h.objs.size:=PySem.W.hideAll_size _ _
theorem JM{h:Heap}{H:Hp}{b:Addr}{o:Obj}(e:h.get? b=some o)(n:H b=none):(qR h H).get? b=some o:=
 YO _ e λa=>by
  have q:(H b).isSome=true:=(YV.mp a).2;rw[n]at q;simp at q
theorem Ms{h:Heap}{H:Hp}{b:Addr}{o:Obj}(e:(qR h H).get? b=some o):h.get? b=some o/\H b=none:=by
 have a:h.get? b=some o:=PySem.W.of_hideAll (Wu h H) e;refine⟨a,?_⟩;cases q:H b with
 |none=>rfl
 |some x=>
   have c:b∈Wu h H:=YV.mpr ⟨Aa0.mpr (Xu a),by simp[q]⟩;have z:(qR h H).get? b=none:=PySem.W.hideAll_none (Wu h H) c;rw[z]at e;cases e
def Nm(g h:Heap)(L:Addr):L1:=(List.range h.objs.size).filterMap λa=>if a=L\/(g.get? a).isSome=true then none else (h.get? a).map λo=>(a,o)
def cj(g h:Heap)(L d:Addr):L1:=(Nm g h L).filter λp=>decide (p.1≠d)
structure Mod (K:L0) (mg:Str->Option Value) (base:Heap):Prop where
 kin:K.In base
 glob:base.Ns mainGlobals mg
 blt:∃mb,base.Ns builtinsNs mb/\∀x:Str,x ≠ "__name__" -> mb x=bootBuiltins x
 nolimit:base.NoLimit
 bmod:∃bm o,mg "__builtins__" = some (.ref bm)/\bm≠builtinsNs/\base.get? bm=some o/\o.cls=.type "module" /\ o.dict=some builtinsNs/\o.data=.plain
structure Cx where
 prog:Program
 w:World
 K:L0
 mg:Str->Option Value
 base:Heap
 A:Around
 N:List Str
 s₀:Shared
 H₀:Hp
 env:Env
 outer:List Env
 stack:List Env
 ex:List Addr
 fn:Str->Bool
 calm:Bool
 pn:L1
 xe:Value->Shared->Prop
def lc(l:List Env):List Addr:=l.filterMap (·.frame)
abbrev Cx.fs(X:Cx):List Addr:=lc X.outer
def Xb(sc:Scope)(x:Str):Prop:=sc.names.lookup x=some .local\/sc.names.lookup x=some .cell\/sc.names.lookup x=some .free
def S6(sc:Scope)(x:Str):Prop:=sc.names.lookup x=some .local\/sc.names.lookup x=some .cell
def Xf(env:Env)(h:Heap)(m:Str->Option Value)(x:Str)(u:Value):Prop:=
 (env.kindOf x=some .local/\m x=some u)\/((env.kindOf x=some .cell\/env.kindOf x=some .free)/\∃c,env.cells.lookup x=some c/\h.IsCell c (some u))
structure Cx.Ok (X:Cx):Prop where
 mod:Mod X.K X.mg X.base
 kind:X.env.scope.kind=.function
 glob:X.env.globals=mainGlobals
 blt:X.env.builtins=builtinsNs
 above:X.s₀.heap.objs.size<=X.env.locals
 inj:∀x y c,X.env.cells.lookup x=some c->X.env.cells.lookup y=some c->x=y
 has:∀x,(X.env.kindOf x=some .cell\/X.env.kindOf x=some .free)->∃c,X.env.cells.lookup x=some c
 cab:∀x c,X.fn x=true->X.env.cells.lookup x=some c->X.s₀.heap.objs.size<=c
 hd:X.calm=true->X.A.handled=none
 frames:X.A.frames=some X.stack
 stk:X.stack=X.outer\/(X.stack=X.env::X.outer/\X.env.frame=some X.env.locals)
 exf:∀b∈X.ex,b≠X.env.locals/\∀x c,X.env.cells.lookup x=some c->c≠b
 bs:∀b o,X.base.get? b=some o->X.s₀.heap.get? b=some o/\X.H₀ b=none
 bsz:X.base.objs.size<=X.s₀.heap.objs.size
 noex:∀b o,X.base.get? b=some o->b∉X.ex
 exfs:∀b∈X.ex,b∉X.fs
 funs:X.s₀.heap.FunFrames X.base X.outer
 frf:∀b∈X.fs,X.H₀ b=none
structure Inv (X:Cx) (pins:L1) (Z:List (Option V)) (H:Hp) (s:Shared):Prop where
 ok:X.Ok
 os:s.os=X.s₀.os
 bare:AllBare s.gens
 base:Un X.fs X.ex X.H₀ H X.s₀.heap s.heap
 loc:∃m,s.heap.Ns X.env.locals m/\∀(i:Nat) (x:Str) (v:V),X.N[i]?=some x->Z[i]?=some (some v)->Xb X.env.scope x->∃u,RelV v u/\Xf X.env s.heap m x u
 cell:∀x c,X.env.cells.lookup x=some c->∃v,s.heap.IsCell c v
 free:H X.env.locals=none
 freeC:∀x c,X.env.cells.lookup x=some c->H c=none
 pin:∀p∈X.pn++pins,s.heap.get? p.1=some p.2/\H p.1=none/\p.1≠X.env.locals/\p.1∉X.fs/\∀v,p.2.data≠ .cell v
 hok:HOk X.prog X.w H s.heap
 len:Z.length=X.N.length
section
variable{X:Cx}{pins:L1}{Z:List (Option V)}{H H':Hp}{s:Shared}{h':Heap}
theorem Cx.Ok.nofr(ok:X.Ok){b:Addr}{o:Obj}(e:X.base.get? b=some o):b∉X.fs:=λa=>by
 have:=(ok.funs.mem a).1
 rw[e]at this;cases this
theorem Inv.bs(I:Inv X pins Z H s):∀b o,X.base.get? b=some o->s.heap.get? b=some o/\H b=none:=λb o e=>
 ⟨I.base.keep b o (I.ok.bs b o e).1 (I.ok.bs b o e).2 (I.ok.nofr e) (I.ok.noex b o e),I.base.free b o (I.ok.bs b o e).1 (I.ok.bs b o e).2 (I.ok.noex b o e)⟩
theorem Inv.bk(I:Inv X pins Z H s):∀b o,X.base.get? b=some o->s.heap.get? b=some o:=λb o e=>(I.bs b o e).1
theorem Inv.mod(I:Inv X pins Z H s):Mod X.K X.mg X.base:=I.ok.mod
theorem Inv.kIn(I:Inv X pins Z H s):X.K.In s.heap:=I.ok.mod.kin.keeps I.bk
theorem Inv.lt(I:Inv X pins Z H s):X.env.locals<s.heap.objs.size:=let ⟨_,a,_⟩:=I.loc;a.lt
theorem Inv.sz(I:Inv X pins Z H s):X.s₀.heap.objs.size<=s.heap.objs.size:=XY I.ok.above (X4 I.lt)
theorem Inv.nofs(I:Inv X pins Z H s){a:Addr}(h:s.heap.objs.size<=a):a∉X.fs:=λc=>by
 obtain⟨_,o,b,_⟩:=I.ok.funs.mem c;exact absurd (XG (Xu b) (XY I.sz h)) (Yj _)
theorem Inv.cne(I:Inv X pins Z H s):∀x c,X.env.cells.lookup x=some c->c≠X.env.locals:=λx c e z=>by
 obtain⟨v,o,d,hd⟩:=I.cell x c e;obtain⟨m,⟨o',f,g,a,b,_⟩,_⟩:=I.loc;rw[z,a]at d;cases d;rw[b]at hd;cases hd
theorem Inv.funs(I:Inv X pins Z H s):s.heap.FunFrames X.base X.outer:=by
 have all:∀(l:List Env),(∀b∈lc l,b∈X.fs)->X.s₀.heap.FunFrames X.base l->s.heap.FunFrames X.base l:=by
  intro l
  induction l with
  |nil=>intro _ _;trivial
  |cons env r g=>
    intro f k;obtain⟨m,⟨L,o,a,j,i,hd⟩,h⟩:=k;have d:L∈X.fs:=f L (by unfold lc;rw[List.filterMap_cons,a];exact List.mem_cons_self);obtain⟨n,e⟩:=I.base.slot L o i (I.ok.frf L d) d λz=>I.ok.exfs L z d;exact⟨m,⟨L,_,a,j,e,hd⟩,g (λb c=>f b (by unfold lc;rw[List.filterMap_cons,a];exact List.mem_cons_of_mem _ c)) h⟩
 exact all X.outer (λ_ c=>c) I.ok.funs
theorem Inv.stack(I:Inv X pins Z H s):s.heap.FunFrames X.base X.stack:=by
 rcases I.ok.stk with e|⟨e,b⟩
 ·rw[e];exact I.funs
 ·rw[e];obtain⟨m,a,_⟩:=I.loc;refine .cons (by rw[I.ok.kind];decide) b a ?_ I.funs;exact Heap.get?_none_of_le (XY I.ok.bsz I.ok.above)
theorem Inv.stkSub(I:Inv X pins Z H s):∀b∈lc X.stack,b∈X.env.locals::X.fs:=λb a=>by
 rcases I.ok.stk with e|⟨e,c⟩
 ·rw[e]at a;exact no _ a
 ·rw[e]at a;unfold lc at a;rw[List.filterMap_cons,c]at a;exact a
theorem Inv.stkFree(I:Inv X pins Z H s):∀b∈lc X.stack,H b=none:=λb a=>by
 rcases Xv.mp (I.stkSub b a) with e|a
 ·rw[e];exact I.free
 ·obtain⟨_,o,c,_⟩:=I.ok.funs.mem a;exact I.base.free b o c (I.ok.frf b a) λz=>I.ok.exfs b z a
theorem Inv.step{g':Array GenState}{t':Nat}{d':Drawn}{ch:List Addr}(I:Inv X pins Z H s)
 (g:∀b∈ch,(b∈X.ex\/X.s₀.heap.objs.size<=b)/\b≠X.env.locals/\(∀x c,X.env.cells.lookup x=some c->c≠b)/\∀p∈X.pn++pins,p.1≠b)
 (keep:∀b o,b≠X.env.locals->b∉X.fs->b∉ch->s.heap.get? b=some o->H b=none->h'.get? b=some o)
 (slot:∀b o,b≠X.env.locals->b∈X.fs->b∉ch->s.heap.get? b=some o->H b=none->∃E,h'.get? b=some {o with slots:=E}) (free:∀b o,b∉ch->s.heap.get? b=some o->H b=none->H' b=none)
 (there:∀b o,b∉ch->s.heap.get? b=some o->∃o',h'.get? b=some o')
 (tups:∀b xs,H b=some (.tup xs)->H' b=some (.tup xs)) (frzs:∀b o u,H b=some (.frz o u)->H' b=some (.frz o u)) (tbls:∀b l,H b=some (.tbl l)->H' b=some (.tbl l)/\∀c o,H c=some (.own b)->s.heap.get? c=some o->H' c=some (.own b)/\h'.get? c=some o)
 (ns:∀m,s.heap.Ns X.env.locals m->h'.Ns X.env.locals m) (hok:HOk X.prog X.w H' h') (L:AllBare g'):
 Inv X pins Z H' {s with heap:=h',gens:=g',drawn:=d',toks:=t'}:=by
 have B:∀b o,X.s₀.heap.get? b=some o->b≠X.env.locals:=λb o e=>XN (XG (Xu e) I.ok.above)
 have j:∀b o,X.s₀.heap.get? b=some o->b∉X.ex->b∉ch:=λb o e a y=>by
  rcases(g b y).1 with z|z
  ·exact a z
  ·exact absurd (XG (Xu e) z) (Yj _)
 have h:∀x c,X.env.cells.lookup x=some c->∀v,s.heap.IsCell c v->h'.IsCell c v:=λx c e v ⟨o,A,hd⟩=>by
  have f:c∉ch:=λz=>(g c z).2.2.1 x c e rfl;by_cases G:c∈X.fs
  ·obtain⟨E,q⟩:=slot c o (I.cne x c e) G f A (I.freeC x c e);exact⟨_,q,hd⟩
  ·exact⟨o,keep c o (I.cne x c e) G f A (I.freeC x c e),hd⟩
 refine⟨I.ok,I.os,L,⟨λb o e n y a=>?_,λb o e n y a=>?_,λb o e n a=>?_,λb o e a=>?_,λb xs e=>tups b xs (I.base.tups b xs e),λb o xs e=>frzs b o xs (I.base.frzs b o xs e),λb ps e=>⟨(tbls b ps (I.base.tbls b ps e).1).1,λc o t C=>let ⟨N,M⟩:=(I.base.tbls b ps e).2 c o t C;(tbls b ps (I.base.tbls b ps e).1).2 c o N M⟩⟩,?_,λx c e=>?_,?_,λx c e=>?_,λp hp=>?_,hok,I.len⟩
 ·exact keep b o (B b o e) y (j b o e a) (I.base.keep b o e n y a) (I.base.free b o e n a)
 ·obtain⟨E,t⟩:=I.base.slot b o e n y a;obtain⟨D,C⟩:=slot b _ (B b o e) y (j b o e a) t (I.base.free b o e n a);exact⟨D,C⟩
 ·obtain⟨o',t⟩:=I.base.there b o e a;exact free b o' (j b o e a) t (I.base.free b o e n a)
 ·obtain⟨o',t⟩:=I.base.there b o e a;exact there b o' (j b o e a) t
 · obtain⟨m,J,K⟩:=I.loc;refine⟨m,ns m J,λi x v t C O=>?_⟩;obtain⟨u,r,l⟩:=K i x v t C O;refine⟨u,r,?_⟩;rcases l with l|⟨k,c,e,z⟩
   ·exact .inl l
   ·exact .inr ⟨k,c,e,h x c e _ z⟩
 ·obtain⟨v,z⟩:=I.cell x c e;exact⟨v,h x c e v z⟩
 ·obtain⟨m,⟨o,_,_,A,_⟩,_⟩:=I.loc;exact free _ o (λz=>(g _ z).2.1 rfl) A I.free
 ·obtain⟨v,o,A,hd⟩:=I.cell x c e;exact free c o (λz=>(g c z).2.2.1 x c e rfl) A (I.freeC x c e)
 ·obtain⟨e,n,ne,F,d⟩:=I.pin p hp;have f:p.1∉ch:=λz=>(g p.1 z).2.2.2 p hp rfl;exact⟨keep p.1 p.2 ne F f e n,free p.1 p.2 f e n,ne,F,d⟩
theorem Inv.un{t':Nat}(I:Inv X pins Z H s)(u:Un X.fs [] H H' s.heap h')(hok:HOk X.prog X.w H' h'):Inv X pins Z H' {s with heap:=h',toks:=t'}:=by
 obtain⟨m,⟨o,p,q,g,r⟩,_⟩:=id I.loc;obtain⟨k,j⟩:=u.any g I.free (by simp)
 exact I.step (g':=s.gens) (d':=s.drawn) (ch:=[]) (λ_ z=>nomatch z) (λb o _ c _ e n=>u.keep b o e n c (by simp)) (λb o _ c _ e n=>u.slot b o e n c (by simp)) (λb o _ e n=>u.free b o e n (by simp)) (λb o _ e=>u.there b o e (by simp)) u.tups u.frzs u.tbls (λl i=>by
  obtain⟨o',d,f,a,h⟩:=i;rw[g]at a;cases a
  exact⟨_,d,f,j,h⟩) hok I.bare
theorem Inv.call{g':Array GenState}{t':Nat}{d':Drawn}{ch:List Addr}(I:Inv X pins Z H s)(u:Un (lc X.stack) ch H H' s.heap h')(hok:HOk X.prog X.w H' h')(q:AllBare g')
 (f:∀b∈ch,(b∈X.ex\/X.s₀.heap.objs.size<=b)/\b≠X.env.locals/\(∀x c,X.env.cells.lookup x=some c->c≠b)/\∀p∈X.pn++pins,p.1≠b):
 Inv X pins Z H' {s with heap:=h',gens:=g',drawn:=d',toks:=t'}:=by
 obtain⟨m,⟨o,A,B,j,r⟩,_⟩:=id I.loc;obtain⟨v,g⟩:=u.any j I.free λz=>(f _ z).2.1 rfl
 exact I.step (ch:=ch) f (λb o g t a e n=>u.keep b o e n (λz=>(Xv.mp (I.stkSub b z)).elim g t) a) (λb o _ _ a e n=>u.any e n a) (λb o a e n=>u.free b o e n a) (λb o a e=>u.there b o e a) u.tups u.frzs u.tbls (λy l=>by
  obtain⟨o',h,i,d,k⟩:=l;rw[j]at d;cases d
  exact⟨_,h,i,g,k⟩) hok q
theorem Inv.turned{t':Nat}{a:Addr}(I:Inv X pins Z H s)(k:∀b o,b≠a->s.heap.get? b=some o->h'.get? b=some o)(g:H a=none)(h:a≠X.env.locals)
 (A:a∈X.ex\/X.s₀.heap.objs.size<=a) (y:∀x c,X.env.cells.lookup x=some c->c≠a) (w:∀p∈X.pn++pins,p.1≠a):Inv X pins Z H {s with heap:=h',toks:=t'}:=by
 have f:∀b u,H b=some u->b≠a:=λb u e z=>by rw[z,g]at e;cases e
 refine I.step (g':=s.gens) (d':=s.drawn) (ch:=[a]) (λb t=>?_) (λb o _ _ d e _=>k b o (λz=>d (by simp[z])) e) (λb o _ _ d e _=>⟨o.slots,k b o (λz=>d (by simp[z])) e⟩) (λ_ _ _ _ n=>n)
  (λb o d e=>⟨o,k b o (λz=>d (by simp[z])) e⟩) (λ_ _ e=>e) (λ_ _ _ e=>e) (λ_ _ e=>⟨e,λc o i D=>⟨i,k c o (bE i g) D⟩⟩) (λm l=>?_) (λb u e=>?_) I.bare
 · have e:b=a:=by simpa using t
   subst e;exact⟨A,h,y,w⟩
 ·obtain⟨o,B,C,j,r⟩:=l;exact⟨o,B,C,k _ o (Y2 h) j,r⟩
 · refine(I.hok b u e).stay (λc v d q=>k c v ?_ q) (λ_ q=>q) λ_ _ q=>q;rcases d with z|z
   ·rw[z];exact f b u e
   ·exact f c _ z
theorem Inv.tok(I:Inv X pins Z H s)(t:Nat):Inv X pins Z H {s with toks:=t}:=I.un (h':=s.heap) (t':=t) Un.refl I.hok
theorem Inv.kept{t':Nat}(I:Inv X pins Z H s)(k:∀b u,s.heap.get? b=some u->h'.get? b=some u):Inv X pins Z H {s with heap:=h',toks:=t'}:=I.un (Un.kept k) (I.hok.kept k)
theorem Inv.laid{a:Addr}{o:HO}{t':Nat}(I:Inv X pins Z H s)(k:∀b u,s.heap.get? b=some u->h'.get? b=some u)(hp:s.heap.objs.size<=a)(new:ObjOk X.prog X.w (upd H a o) h' a o):
 Inv X pins Z (upd H a o) {s with heap:=h',toks:=t'}:=I.un (Un.laid k hp (I.hok.fresh hp)) (I.hok.laid k hp new)
theorem Inv.write{x e:Addr}{o:HO}{t':Nat}(I:Inv X pins Z H s)(c:Wq (H x))(d:e=x\/H e=some (.own x))(k:∀b u,b≠e->s.heap.get? b=some u->h'.get? b=some u)(a:∃u,h'.get? e=some u)
 (new:ObjOk X.prog X.w (upd H x o) h' x o):Inv X pins Z (upd H x o) {s with heap:=h',toks:=t'}:=I.un (Un.write c d k a) (I.hok.write c d k a new)
theorem Inv.pins_of{a:L1}(I:Inv X pins Z H s)(h:∀p∈a,s.heap.get? p.1=some p.2/\H p.1=none/\p.1≠X.env.locals/\p.1∉X.fs/\∀v,p.2.data≠ .cell v):Inv X a Z H s:=
 ⟨I.ok,I.os,I.bare,I.base,I.loc,I.cell,I.free,I.freeC,λp hp=>(XE.mp hp).elim (λz=>I.pin p (XA _ z)) (h p),I.hok,I.len⟩
theorem qE{N:List Str}(c:N.Nodup){i j:Nat}{x:Str}(a:N[i]?=some x)(b:N[j]?=some x):i=j:=by
 obtain⟨g,e⟩:=XF.mp a;obtain⟨f,d⟩:=XF.mp b;exact(List.getElem_inj c).mp (e.trans d.symm)
theorem El{M:Model}{A:Around}{E:L4}{i:Nat}{x:Str}{v:V}{u:Value}{Q:Unit->Shared->Prop}(I:Inv X pins Z H s)(hN:X.N.Nodup)(hi:X.N[i]?=some x)(C:S6 X.env.scope x)(r:RelV v u)
 (h:∀s',Inv X pins (Z.set i (some v)) H s'->(∃a,Heap.SameBut a s.heap s'.heap/\(a=X.env.locals\/X.env.cells.lookup x=some a))->Q () s') (hf:X.fn x=true\/X.env.scope.names.lookup x=some .local:=by first | exact .inl rfl | exact .inr rfl | assumption):wpAny M A (storeName X.env x u) Q E s:=by
 obtain⟨m,hn,hl⟩:=id I.loc;have T:(X.env.scope.kind == .class||(X.env.scope.kind == .module&&X.env.locals != X.env.globals))=false:=by rw[I.ok.kind];rfl
 have J:i<Z.length:=by rw[I.len];exact(XF.mp hi).1
 have cne:=I.cne
 have t:∀{a:Addr} {h':Heap},(∃o,s.heap.get? a=some o/\H a=none)->Heap.SameBut a s.heap h'->HOk X.prog X.w H h':=λ{a h'} ha f b ob e=>by
  obtain⟨_,_,F⟩:=ha;refine(I.hok b ob e).stay (λc w' B q=>(f.2 c ?_).trans q) (λ_ q=>q) λ_ _ q=>q;rintro rfl;rcases B with rfl|B
  ·rw[F]at e;cases e
  ·rw[F]at B;cases B
 rcases C with G|G
 · refine wpAny_storeName_local G hn (λh' hn' f=>?_) T;obtain⟨oL,_,_,hoL,_⟩:=id hn;refine h _ ⟨I.ok,I.os,I.bare,⟨λb o e n O C=>?_,λb o e n O C=>?_,I.base.free,λb o e C=>?_,I.base.tups,I.base.frzs,λb l q=>⟨(I.base.tbls b l q).1,λc o g D=>let ⟨Y,f2⟩:=(I.base.tbls b l q).2 c o g D;⟨Y,(f.2 c (bE Y I.free)).trans f2⟩⟩⟩,⟨_,hn',λj y v' g D e3=>?_⟩,λy c e=>?_,I.free,I.freeC,λp hp=>?_,t ⟨oL,hoL,I.free⟩ f,by simpa using I.len⟩ ⟨_,f,.inl rfl⟩
   ·exact(f.2 b (XN (XG (Xu e) I.ok.above))).trans (I.base.keep b o e n O C)
   ·obtain⟨sl,g⟩:=I.base.slot b o e n O C;exact⟨sl,(f.2 b (XN (XG (Xu e) I.ok.above))).trans g⟩
   ·obtain⟨o',g⟩:=I.base.there b o e C;exact⟨o',(f.2 b (XN (XG (Xu e) I.ok.above))).trans g⟩
   · by_cases K:j=i
     ·subst K;rw[hi]at g;cases g;rw[Yp J]at D;cases D;exact⟨u,r,.inl ⟨G,by simp⟩⟩
     · rw[Yu (Y2 K)]at D;obtain⟨u',r',q⟩:=hl j y v' g D e3;refine⟨u',r',?_⟩;rcases q with ⟨k,e⟩|⟨k,c,e,z⟩
       · refine .inl ⟨k,?_⟩
         have:y≠x:=λe=>K (qE hN g (e▸hi))
         simp[this,e]
       ·exact .inr ⟨k,c,e,z.sameBut f (cne y c e)⟩
   ·obtain⟨w',z⟩:=I.cell y c e;exact⟨w',z.sameBut f (cne y c e)⟩
   ·obtain⟨e,n,ne,nf,d⟩:=I.pin p hp;exact⟨(f.2 p.1 ne).trans e,n,ne,nf,d⟩
 · have L:X.fn x=true:=by
    rcases hf with z|z
    ·exact z
    ·rw[z]at G;cases G
   obtain⟨c,B⟩:=I.ok.has x (.inl G);obtain⟨w',z⟩:=I.cell x c B;refine wpAny_storeName_cell I.ok.kind G B z (λh' W f=>?_);obtain⟨oc,S,R⟩:=id z;refine h {s with heap:=h'} ⟨I.ok,I.os,I.bare,⟨λb o e n O C=>?_,λb o e n O C=>?_,I.base.free,λb o e C=>?_,I.base.tups,I.base.frzs,λb l q=>⟨(I.base.tbls b l q).1,λP o g D=>let ⟨Y,f2⟩:=(I.base.tbls b l q).2 P o g D;⟨Y,(f.2 P (bE Y (I.freeC x c B))).trans f2⟩⟩⟩,⟨m,hn.sameBut f (Y2 (cne x c B)),λj y v' g D e3=>?_⟩,λy P e=>?_,I.free,I.freeC,λp hp=>?_,t ⟨oc,S,I.freeC x c B⟩ f,by simpa using I.len⟩ ⟨c,f,.inr B⟩
   ·exact(f.2 b (XN (XG (Xu e) (I.ok.cab x c L B)))).trans (I.base.keep b o e n O C)
   ·obtain⟨sl,g⟩:=I.base.slot b o e n O C;exact⟨sl,(f.2 b (XN (XG (Xu e) (I.ok.cab x c L B)))).trans g⟩
   ·obtain⟨o',g⟩:=I.base.there b o e C;exact⟨o',(f.2 b (XN (XG (Xu e) (I.ok.cab x c L B)))).trans g⟩
   · by_cases K:j=i
     ·subst K;rw[hi]at g;cases g;rw[Yp J]at D;cases D;exact⟨u,r,.inr ⟨.inl G,c,B,W⟩⟩
     · rw[Yu (Y2 K)]at D;obtain⟨u',r',q⟩:=hl j y v' g D e3;refine⟨u',r',?_⟩;rcases q with q|⟨k,P,e,z'⟩
       ·exact .inl q
       ·refine .inr ⟨k,P,e,z'.sameBut f ?_⟩;rintro rfl;exact K (qE hN g (I.ok.inj _ _ _ e B▸hi))
   · by_cases U:P=c
     ·subst U;exact⟨_,W⟩
     ·obtain⟨w2,z2⟩:=I.cell y P e;exact⟨w2,z2.sameBut f U⟩
   ·obtain⟨e,n,ne,nf,d⟩:=I.pin p hp;refine⟨(f.2 p.1 ?_).trans e,n,ne,nf,d⟩;intro q;rw[q,S]at e;have q':oc=p.2:=XQ e;exact d w' (by rw[<-q'];exact R)
theorem qd{M:Model}{A:Around}{E:L4}{i:Nat}{x:Str}{v:V}{u:Value}{Q:Unit->Shared->Prop}(I:Inv X pins Z H s)(c:X.N.Nodup)(hi:X.N[i]?=some x)(a:S6 X.env.scope x)(r:RelV v u)
 (h:∀s',Inv X pins (Z.set i (some v)) H s'->Q () s') (b:X.fn x=true\/X.env.scope.names.lookup x=some .local:=by first | exact .inl rfl | exact .inr rfl | assumption):wpAny M A (storeName X.env x u) Q E s:=
 El I c hi a r (λs' d _=>h s' d) b
theorem Inv.call'{s':Shared}{ch:List Addr}(I:Inv X pins Z H s)(d:s'.os=s.os)(u:Un (lc X.stack) ch H H' s.heap s'.heap)(hok:HOk X.prog X.w H' s'.heap)(f:AllBare s'.gens)
 (a:∀b∈ch,(b∈X.ex\/X.s₀.heap.objs.size<=b)/\b≠X.env.locals/\(∀x c,X.env.cells.lookup x=some c->c≠b)/\∀p∈X.pn++pins,p.1≠b):Inv X pins Z H' s':=by
 obtain⟨h',g',d',t',o'⟩:=s';have e:o'=s.os:=d;subst e;exact I.call (g':=g') (t':=t') (d':=d') u hok f a
end
abbrev XK:=Value->Option Addr->Hp->Prop
abbrev St:=List (Option V)
abbrev VK:=V->Hp->Prop
abbrev TE:=St->Hp->VK->Prop
abbrev TT:=St->Hp->(Bool->Hp->Prop)->Prop
abbrev TA:=St->Hp->(List V->Hp->Prop)->Prop
structure Ends where
 nx:St->Hp->Prop
 rt:VK
 bk:St->Hp->Prop:=λ_ _=>False
 ct:St->Hp->Prop:=λ_ _=>False
abbrev TS:=Ends->St->Hp->Prop
def EP(X:Cx)(a:L1)(Z:St)(Q:VK)(u:Value)(s':Shared):Prop:=∃v H',Inv X a Z H' s'/\RelV v u/\Q v H'
def TP(X:Cx)(a:L1)(Z:St)(Q:Bool->Hp->Prop)(b:Bool)(s':Shared):Prop:=∃H',Inv X a Z H' s'/\Q b H'
def AP(X:Cx)(a:L1)(Z:St)(Q:List V->Hp->Prop)(us:List Value)(s':Shared):Prop:=∃vs H',Inv X a Z H' s'/\Vals vs us/\Q vs H'
def SP(X:Cx)(b:L1)(D:Ends)(f:Flow)(s':Shared):Prop:=
 match f with
 |.next=>∃a H',Inv X b a H' s'/\D.nx a H'
 |.brk=>∃a H',Inv X b a H' s'/\D.bk a H'
 |.cont=>∃a H',Inv X b a H' s'/\D.ct a H'
 |.ret u=>∃v a H',Inv X b a H' s'/\RelV v u/\D.rt v H'
def PE(X:Cx)(e:Expr)(t:TE):Prop:=
 ∀(a:L1) (s:Shared) (Z:St) (H:Hp) (Q:VK),Inv X a Z H s->t Z H Q->wpAny (model X.prog X.w) X.A (eval e X.env) (EP X a Z Q) X.xe s
def PT(X:Cx)(e:Expr)(t:TT):Prop:=
 ∀(a:L1) (s:Shared) (Z:St) (H:Hp) (Q:Bool->Hp->Prop),Inv X a Z H s->t Z H Q->wpAny (model X.prog X.w) X.A (isTrue e X.env (eval e X.env)) (TP X a Z Q) X.xe s
def PW(X:Cx)(e:Expr)(t:TT):Prop:=
 ∀(whole:Sem Value) (a:L1) (s:Shared) (Z:St) (H:Hp) (Q:Bool->Hp->Prop),Inv X a Z H s->t Z H Q->wpAny (model X.prog X.w) X.A (isTrue e X.env whole) (TP X a Z Q) X.xe s
theorem PW.pt{X:Cx}{e:Expr}{t:TT}(h:PW X e t):PT X e t:=h _
def PA(X:Cx)(b:List Expr)(t:TA):Prop:=
 ∀(pos:Pos) (a:L1) (s:Shared) (Z:St) (H:Hp) (Q:List V->Hp->Prop),Inv X a Z H s->t Z H Q->wpAny (model X.prog X.w) X.A (spliced (backTo pos (starEach b X.env))) (AP X a Z Q) X.xe s
def PS(X:Cx)(st:Stmt)(t:TS):Prop:=
 ∀(a:L1) (s:Shared) (Z:St) (H:Hp) (D:Ends),Inv X a Z H s->t D Z H->wpAny (model X.prog X.w) X.A (exec st X.env) (SP X a D) X.xe s
def Ld(X:Cx)(st:List Stmt)(t:TS):Prop:=
 ∀(a:L1) (s:Shared) (Z:St) (H:Hp) (D:Ends),Inv X a Z H s->t D Z H->wpAny (model X.prog X.w) X.A (execs st X.env) (SP X a D) X.xe s
theorem cQ{X:Type}{t:Sem X}{Q b:X->Shared->Prop}{M:Model}{A:Around}{E:L4}{s:Shared}(h:wpAny M A t Q E s)(c:∀a s,Q a s->b a s):wpAny M A t b E s:=Y8 h c λ_ _ x=>x
section
variable{X:Cx}
def dF(i:Nat):TE:=λZ H Q=>∃v,Z[i]?=some (some v)/\Q v H
def tC(v:V):TE:=λ_ H Q=>Q v H
theorem P0{i:Nat}{x:Str}{pos:Pos}(q:X.N[i]?=some x)(k:Xb X.env.scope x)(hd:(x==("__debug__" : Str))=false:=by decide)(g:(x==("__classdict__" : Str))=false:=by decide):PE X (.Name x pos) (dF i):=by
 intro f s Z H Q I h;obtain⟨v,e,h⟩:=h;obtain⟨m,n,p⟩:=I.loc;obtain⟨u,r,l⟩:=p i x v q e k;have d:EP X f Z Q u s:=⟨v,H,I,r,h⟩;rcases l with ⟨b,o⟩|⟨b,c,j,a⟩
 ·exact wpAny_Name (wpAny_loadName_local I.ok.kind b n o d) hd
 · rcases b with b|b
   ·exact wpAny_Name (wpAny_loadName_cell I.ok.kind b j a d) hd
   ·exact wpAny_Name (wpAny_loadName_free I.ok.kind b j a d g) hd
theorem ah{i j pos}:PE X (.Constant (.int i) j pos) (tC (.int i)):=λ_ _ _ H _ I h=>wpAny_Constant_int ⟨.int i,H,I.tok _,⟨_,rfl⟩,h⟩
theorem dH{b j pos}:PE X (.Constant (.bool b) j pos) (tC (.bl b)):=λ_ _ _ H _ I h=>Constant_bool ⟨.bl b,H,I,rfl,h⟩
theorem cf{j pos}:PE X (.Constant .none j pos) (tC .non):=λ_ _ _ H _ I h=>Constant_none ⟨.non,H,I,rfl,h⟩
theorem kg{x j pos}:PE X (.Constant (.str x) j pos) (tC (.str x)):=λ_ _ _ H _ I h=>Calls.Constant_str ⟨.str x,H,I.tok _,⟨_,rfl⟩,h⟩
def Gl(X:Cx)(x:Str):Prop:=X.env.kindOf x=some .globalImplicit
theorem kZ{E:L4}{a:L1}{s:Shared}{Z:St}{H:Hp}{x:Str}{u:Value}{pos:Pos}{Q:L4}(I:Inv X a Z H s)(c:Gl X x)(b:X.mg x=some u)(h:Q u s)
 (hd:(x==("__debug__" : Str))=false:=by decide):wpAny (model X.prog X.w) X.A (eval (.Name x pos) X.env) Q E s:=
 Zu I.ok.kind c (Calls.loadGlobal_global (by rw[I.ok.glob];exact I.mod.glob.keeps I.bk) b h) hd
theorem oj{E:L4}{a:L1}{s:Shared}{Z:St}{H:Hp}{x:Str}{u:Value}{pos:Pos}{Q:L4}(I:Inv X a Z H s)(e:Gl X x)(d:X.mg x=none)(b:bootBuiltins x=some u)(h:Q u s)
 (c:x ≠ "__name__" := by decide) (hd:(x==("__debug__" : Str))=false:=by decide):wpAny (model X.prog X.w) X.A (eval (.Name x pos) X.env) Q E s:=by
 obtain⟨i,g,f⟩:=I.mod.blt;exact Zu I.ok.kind e (Calls.loadGlobal_builtin (by rw[I.ok.glob];exact I.mod.glob.keeps I.bk) d (by rw[I.ok.blt];exact g.keeps I.bk) ((f x c).trans b) h) hd
theorem f6{x:Str}{v:V}{u:Value}{pos:Pos}(b:Gl X x)(a:X.mg x=some u)(r:RelV v u)(hd:(x==("__debug__" : Str))=false:=by decide):PE X (.Name x pos) (tC v):=
 λ_ _ _ H _ I h=>kZ I b a ⟨v,H,I,r,h⟩ hd
theorem kY{x:Str}{v:V}{u:Value}{pos:Pos}(d:Gl X x)(c:X.mg x=none)(a:bootBuiltins x=some u)(r:RelV v u)(b:x ≠ "__name__" := by decide)(hd:(x==("__debug__" : Str))=false:=by decide):PE X (.Name x pos) (tC v):=
 λ_ _ _ H _ I h=>oj I d c a ⟨v,H,I,r,h⟩ b hd
variable{a b:Expr}{ta tb:TE}{pos:Pos}
def PC(X:Cx)(op:CmpOp)(a b:Expr)(t:TE):Prop:=
 ∀(c:L1) (s:Shared) (Z:St) (H:Hp) (Q:VK),Inv X c Z H s->t Z H Q->
  wpAny (model X.prog X.w) X.A (eval a X.env) (λv e=>wpAny (model X.prog X.w) X.A (eval b X.env) (λu d=>wpAny (model X.prog X.w) X.A (compareOp op v u) (EP X c Z Q) X.xe d) X.xe e) X.xe s
theorem xE(b:Expr){op:CmpOp}(h:op≠ .In)(a:op≠ .NotIn):behindInMarks op b=false:=by
 have d:(op == CmpOp.In)=false:=by cases op <;> first | rfl | exact absurd rfl h
 have c:(op == CmpOp.NotIn)=false:=by cases op <;> first | rfl | exact absurd rfl a
 cases b<;>simp[behindInMarks,d,c]
def tB(t:TE):TT:=λZ H Q=>t Z H λx H1=>∃c,x=.bl c/\Q c H1
theorem P5{op:CmpOp}{t:TE}(h:PC X op a b t)(e:behindInMarks op b=false:=by first | exact xE _ (by decide) (by decide) | rfl):PE X (.Compare a [op] [b] pos) t:=λc s Z H Q I d=>wpAny_Compare1 (h c s Z H Q I d) e
theorem Ac{op:CmpOp}{t:TE}(h:PC X op a b t)(f:behindInMarks op b=false:=by first | exact xE _ (by decide) (by decide) | rfl):PT X (.Compare a [op] [b] pos) (tB t):=by
 intro e s Z H Q I j;refine wpAny_isTrue_Compare1 (cQ (h e s Z H _ I j) λv n f=>cQ f λu s2 k=>cQ k λc m ⟨x,H1,l,g,i⟩=>?_) f;obtain⟨d,rfl,q⟩:=i;cases g;exact Yq ⟨H1,l,q⟩
theorem fe{e:Expr}{t:TE}(h:PE X e t)(g:∀whole,isTrue e X.env whole=(do let v <-whole;standAt e.pos;holding [v] (truthy v)):=by intro _;rfl):PT X e (tB t):=by
 intro a s Z H Q I f;refine isTrue_plain (cQ (h a s Z H _ I f) λv j ⟨x,H1,i,b,c⟩=>?_) (g _);obtain⟨d,rfl,q⟩:=c;cases b;exact Yq ⟨H1,i,q⟩
variable{tA tB':TT}{cj:List Expr}
def Tg(t u:TT):TT:=λZ H Q=>t Z H λc H1=>if c=true then u Z H1 Q else Q false H1
def tOr(t u:TT):TT:=λZ H Q=>t Z H λc H1=>if c=true then Q true H1 else u Z H1 Q
def O7(t:TT):TT:=λZ H Q=>t Z H λc H1=>Q (!c) H1
theorem jn(d:PT X a tA):PW X (.BoolOp .And [a] pos) tA:=by
 intro f b s Z H Q I h;refine isTrue_and (cQ (d b s Z H Q I h) λc g e=>?_);cases c with
 |true=>exact isTrue_and_nil e
 |false=>exact e
theorem gv(d:PT X a tA):PW X (.BoolOp .Or [a] pos) tA:=by
 intro f b s Z H Q I h;refine isTrue_or (cQ (d b s Z H Q I h) λc g e=>?_);cases c with
 |false=>exact isTrue_or_nil e
 |true=>exact e
theorem lU(k:PT X a tA)(j:PW X (.BoolOp .And (b::cj) pos) tB'):PW X (.BoolOp .And (a::b::cj) pos) (Tg tA tB'):=by
 intro g d s Z H Q I h;refine isTrue_and (cQ (k d s Z H _ I h) λc i ⟨H1,f,e⟩=>?_);cases c with
 |true=>exact j g d i Z H1 Q f e
 |false=>exact⟨H1,f,e⟩
theorem iU(k:PT X a tA)(j:PW X (.BoolOp .Or (b::cj) pos) tB'):PW X (.BoolOp .Or (a::b::cj) pos) (tOr tA tB'):=by
 intro g d s Z H Q I h;refine isTrue_or (cQ (k d s Z H _ I h) λc i ⟨H1,f,e⟩=>?_);cases c with
 |true=>exact⟨H1,f,e⟩
 |false=>exact j g d i Z H1 Q f e
theorem fL(d:PT X a tA):PT X (.UnaryOp .Not a pos) (O7 tA):=by
 intro b s Z H Q I h;exact isTrue_not (d b s Z H (λc H1=>Q (!c) H1) I h)
def NM(ta tb:TE):TE:=λZ H Q=>ta Z H λx H1=>∃c,x=.bl c/\if c=true then tb Z H1 Q else Q (.bl false) H1
def Td(ta tb:TE):TE:=λZ H Q=>ta Z H λx H1=>∃c,x=.bl c/\if c=true then Q (.bl true) H1 else tb Z H1 Q
def NH(ta:TE):TE:=λZ H Q=>ta Z H λx H1=>∃c,x=.bl c/\Q (.bl (!c)) H1
theorem Hh{op}{t:TE}(h:PE X a t):PE X (.BoolOp op [a] pos) t:=λb s Z H Q I c=>BoolOp_one (h b s Z H Q I c)
theorem P6(k:PE X a ta)(j:PE X (.BoolOp .And (b::cj) pos) tb):PE X (.BoolOp .And (a::b::cj) pos) (NM ta tb):=by
 intro d s Z H Q I h;refine BoolOp_and (cQ (k d s Z H _ I h) λv g ⟨x,H1,f,i,e⟩=>?_);obtain⟨c,rfl,e⟩:=e;cases i;refine Yq ?_;cases c with
 |true=>exact j d g Z H1 Q f e
 |false=>exact⟨.bl false,H1,f,rfl,e⟩
theorem TW(k:PE X a ta)(j:PE X (.BoolOp .Or (b::cj) pos) tb):PE X (.BoolOp .Or (a::b::cj) pos) (Td ta tb):=by
 intro d s Z H Q I h;refine BoolOp_or (cQ (k d s Z H _ I h) λv g ⟨x,H1,f,i,e⟩=>?_);obtain⟨c,rfl,e⟩:=e;cases i;refine Yq ?_;cases c with
 |false=>exact j d g Z H1 Q f e
 |true=>exact⟨.bl true,H1,f,rfl,e⟩
theorem Ae(f:PE X a ta):PE X (.UnaryOp .Not a pos) (NH ta):=by
 intro b s Z H Q I h;refine UnaryOp_ (cQ (f b s Z H _ I h) λv i ⟨x,H1,g,e,d⟩=>?_);obtain⟨c,rfl,d⟩:=d;cases e;exact not_of (Yq ⟨.bl (!c),H1,g,rfl,d⟩)
def tIf(t:TT)(ta tb:TE):TE:=λZ H Q=>t Z H λc H1=>if c=true then ta Z H1 Q else tb Z H1 Q
theorem qw{c:Expr}(j:PT X c tA)(l:PE X a ta)(k:PE X b tb):PE X (.IfExp c a b pos) (tIf tA ta tb):=by
 intro e s Z H Q I h;refine wpAny_IfExp (cQ (j e s Z H _ I h) λd f ⟨H1,i,g⟩=>?_);cases d with
 |true=>exact l e f Z H1 Q i g
 |false=>exact k e f Z H1 Q i g
end
def SqL(K:L0)(H:Hp)(a:Addr)(xs:List V):Prop:=
 Rd H a (.lst xs)\/
  ∃(o:Obj) (its:Array Value) (n:Nat),K.lookup a=some o/\o.cls=.type "list" /\ o.dict=none/\o.data=.seq its n/\its.size<=sizeLine/\Vals xs its.toList
def SqT(K:L0)(H:Hp)(a:Addr)(xs:List V):Prop:=
 Rd H a (.tup xs)\/
  ∃(o:Obj) (its:Array Value) (n:Nat),K.lookup a=some o/\o.cls=.type "tuple" /\ o.data=.seq its n/\its.size<=sizeLine/\Vals xs its.toList
def Xa:Value->Option V
 |.none=>some .non
 |.bool b=>some (.bl b)
 |.int i _=>some (.int i)
 |.str x _=>some (.str x)
 |.bytes b _=>some (.byt b)
 |.float b _=>some (.flt b)
 |.ref a=>some (.ref a)
 |.type n=>some (.ty n)
 |_=>none
theorem RelV.abs{x:V}{u:Value}(r:RelV x u):Xa u=some x:=by
 cases x with
 |non=>cases r;rfl
 |bl _=>cases r;rfl
 |int _=>obtain⟨t,rfl⟩:=r;rfl
 |str _=>obtain⟨t,rfl⟩:=r;rfl
 |byt _=>obtain⟨t,rfl⟩:=r;rfl
 |flt _=>obtain⟨t,rfl⟩:=r;rfl
 |ref _=>cases r;rfl
 |ty _=>cases r;rfl
theorem RelV.inj{x y:V}{u:Value}(r:RelV x u)(q:RelV y u):x=y:=XQ (r.abs.symm.trans q.abs)
theorem Vals.inj:∀{xs a:List V} {us:List Value},Vals xs us->Vals a us->xs=a
 |_,_,_,.nil,.nil=>rfl
 |_,_,_,.cons r t,.cons b t'=>by rw[r.inj b,Vals.inj t t']
section
variable{X:Cx}{pins:L1}{Z:St}{H:Hp}{s:Shared}{a:Addr}{xs ys:List V}
theorem SqL.of{K:L0}(h:H a=some (.lst xs)):SqL K H a xs:=.inl (.inl h)
theorem SqT.of{K:L0}(h:H a=some (.tup xs)):SqT K H a xs:=.inl (.inl h)
theorem Inv.list(I:Inv X pins Z H s)(h:SqL X.K H a xs):∃its:List Value,Vals xs its/\PlainL s.heap a its.toArray/\xs.length<=sizeLine:=by
 rcases h with h|⟨o,its,n,c,d,hd,b,f,r⟩
 ·obtain⟨z,its,n,r,e⟩:=h.ok I.hok;exact⟨its,r,⟨_,n,e,rfl,rfl,rfl⟩,z⟩
 ·refine⟨its.toList,r,⟨o,n,I.kIn a o c,d,hd,by simpa using b⟩,?_⟩;have e:=r.length;simp only[Yz]at e;omega
theorem Inv.tuple(I:Inv X pins Z H s)(h:SqT X.K H a xs):∃its:List Value,Vals xs its/\IsTup s.heap a its.toArray/\xs.length<=sizeLine:=by
 rcases h with h|⟨o,its,n,c,d,b,f,r⟩
 ·obtain⟨z,its,r,p⟩:=h.ok I.hok;exact⟨its,r,p,z⟩
 ·refine⟨its.toList,r,⟨o,I.kIn a o c,d,n,by simpa using b⟩,?_⟩;have e:=r.length;simp only[Yz]at e;omega
theorem Inv.list_inj(I:Inv X pins Z H s)(h:SqL X.K H a xs)(h':SqL X.K H a ys):xs=ys:=by
 obtain⟨its,r,⟨o,n,e,_,_,d⟩,_⟩:=I.list h;obtain⟨its',c,⟨o',f,b,_,_,d'⟩,_⟩:=I.list h';rw[e]at b;cases b;rw[d]at d';injection d' with J _
 have:its=its':=by simpa using congrArg Array.toList J
 subst this;exact r.inj c
end
abbrev Cx.wish(X:Cx)(E:L4):Cx:={X with xe:=E}
abbrev Cx.nox(X:Cx):Cx:=X.wish λ_ _=>False
theorem Cx.Ok.wish{X:Cx}(ok:X.Ok)(E:L4):(X.wish E).Ok:=
 ⟨ok.mod,ok.kind,ok.glob,ok.blt,ok.above,ok.inj,ok.has,ok.cab,ok.hd,ok.frames,ok.stk,ok.exf,ok.bs,ok.bsz,ok.noex,ok.exfs,ok.funs,ok.frf⟩
theorem Cx.Ok.unwish{X:Cx}{E:L4}(ok:(X.wish E).Ok):X.Ok:=
 ⟨ok.mod,ok.kind,ok.glob,ok.blt,ok.above,ok.inj,ok.has,ok.cab,ok.hd,ok.frames,ok.stk,ok.exf,ok.bs,ok.bsz,ok.noex,ok.exfs,ok.funs,ok.frf⟩
section
variable{X:Cx}{pins:L1}{Z:St}{H:Hp}{s:Shared}{E:L4}
theorem Inv.wish(I:Inv X pins Z H s)(E:L4):Inv (X.wish E) pins Z H s:=⟨I.ok.wish E,I.os,I.bare,I.base,I.loc,I.cell,I.free,I.freeC,I.pin,I.hok,I.len⟩
theorem Inv.unwish(I:Inv (X.wish E) pins Z H s):Inv X pins Z H s:=⟨I.ok.unwish,I.os,I.bare,I.base,I.loc,I.cell,I.free,I.freeC,I.pin,I.hok,I.len⟩
theorem SP.unwish{D:Ends}{f:Flow}{s':Shared}(h:SP (X.wish E) pins D f s'):SP X pins D f s':=by
 cases f with
 |next=>obtain⟨a,H',I,q⟩:=h;exact⟨a,H',I.unwish,q⟩
 |brk=>obtain⟨a,H',I,q⟩:=h;exact⟨a,H',I.unwish,q⟩
 |cont=>obtain⟨a,H',I,q⟩:=h;exact⟨a,H',I.unwish,q⟩
 |ret u=>obtain⟨v,a,H',I,r,q⟩:=h;exact⟨v,a,H',I.unwish,r,q⟩
end
section
variable{X:Cx}{st:Stmt}{cj:List Stmt}{t u:TS}{e:Expr}{te:TE}{pos:Pos}
def BU:TS:=λD Z H=>D.nx Z H
def FG(t u:TS):TS:=λD Z H=>t {D with nx:=u D} Z H
theorem aH:Ld X [] BU:=λ_ _ Z H _ I h=>YW ⟨Z,H,I,h⟩
theorem ae(e:PS X st t)(d:Ld X cj u):Ld X (st::cj) (FG t u):=by
 intro a s Z H D I h;refine ZH (cQ (e a s Z H {D with nx:=u D} I h) λf c q=>?_);cases f with
 |next=>
   obtain⟨b,H',g,q⟩:=q;exact d a c b H' D g q
 |ret v=>exact q
 |brk=>exact q
 |cont=>exact q
theorem af(b:PS X st t):Ld X [st] t:=by
 intro a s Z H D I h;refine ZH (cQ (b a s Z H D I h) λf c q=>?_);cases f with
 |next=>exact YW q
 |ret v=>exact q
 |brk=>exact q
 |cont=>exact q
def NK:TS:=λD Z H=>D.ct Z H
theorem oM:PS X (.Continue pos) NK:=λ_ _ Z H _ I h=>wpAny_Continue ⟨Z,H,I,h⟩
theorem Inv.quiet{a:L1}{Z:St}{H:Hp}{s:Shared}(I:Inv X a Z H s):interactive X.env=false:=by simp[interactive,I.ok.kind]
def wT(te:TE):TS:=λD Z H=>te Z H λ_ H1=>D.nx Z H1
theorem bA(d:PE X e te)(c:swapsWith e none pos.line X.env=pure false:=by rfl):PS X (.Expr e pos) (wT te):=by
 intro a s Z H D I h;exact wpAny_Expr_any (cQ (d a s Z H _ I h) λv g ⟨x,H1,f,i,b⟩=>⟨Z,H1,f,b⟩) I.quiet c
def O6(te:TE):TS:=λD Z H=>te Z H D.rt
theorem aE(d:PE X e te):PS X (.Return (some e) pos) (O6 te):=by
 intro a s Z H D I h;exact wpAny_Return_some (cQ (d a s Z H _ I h) λv g ⟨x,H1,f,b,c⟩=>⟨x,Z,H1,f,b,c⟩)
def LB(c:TT)(t u:TS):TS:=λD Z H=>c Z H λb H1=>if b=true then t D Z H1 else u D Z H1
theorem bC{c:Expr}{a b:List Stmt}{f:TT}(k:PT X c f)(m:Ld X a t)(l:Ld X b u):PS X (.If c a b pos) (LB f t u):=by
 intro e s Z H D I h;refine wpAny_If (cQ (k e s Z H _ I h) λd g ⟨H1,j,i⟩=>?_);cases d with
 |true=>exact m e g Z H1 D j i
 |false=>exact l e g Z H1 D j i
end
abbrev TG:=V->St->Hp->(St->Hp->Prop)->Prop
abbrev SU:=List V->St->Hp->(St->Hp->Prop)->Prop
def PG(X:Cx)(a:Expr)(t:TG):Prop:=
 ∀(b:L1) (s:Shared) (Z:St) (H:Hp) (v:V) (u:Value) (Q:St->Hp->Prop),Inv X b Z H s->RelV v u->t v Z H Q->
  wpAny (model X.prog X.w) X.A (assign a X.env u) (λ_ s'=>∃c H',Inv X b c H' s'/\Q c H') X.xe s
def WL(X:Cx)(c:List Expr)(t:SU):Prop:=
 ∀(a:L1) (s:Shared) (Z:St) (H:Hp) (vs:List V) (us:List Value) (Q:St->Hp->Prop),Inv X a Z H s->Vals vs us->t vs Z H Q->
  wpAny (model X.prog X.w) X.A (assignInOrder ((assignEach c X.env).map (·.2)) us) (λ_ s'=>∃b H',Inv X a b H' s'/\Q b H') X.xe s
section
variable{X:Cx}{pos:Pos}
def eZ(i:Nat):TG:=λv Z H Q=>Q (Z.set i (some v)) H
theorem bf{i:Nat}{x:Str}(d:X.N.Nodup)(hi:X.N[i]?=some x)(b:S6 X.env.scope x)(c:X.fn x=true\/X.env.scope.names.lookup x=some .local:=by first | exact .inl rfl | exact .inr rfl | assumption):PG X (.Name x pos) (eZ i):=by
 intro a s Z H v u Q I r h;exact wpAny_assign_Name (qd I d hi b r (λs' e=>⟨_,H,e,h⟩) c)
def Vk:SU:=λvs Z H Q=>vs=[]/\Q Z H
def JR(t:TG)(u:SU):SU:=λvs Z H Q=>∃v r,vs=v::r/\t v Z H λa H'=>u r a H' Q
theorem CH:WL X [] Vk:=by
 intro a s Z H vs us Q I r h;obtain⟨e,h⟩:=h;subst e;cases r;exact assignInOrder_nil ⟨Z,H,I,h⟩
theorem mY{e:Expr}{b:List Expr}{t:TG}{u:SU}(k:PG X e t)(j:WL X b u)
 (i:(assignEach (e::b) X.env).map (·.2)=assign e X.env::(assignEach b X.env).map (·.2):=by rfl):WL X (e::b) (JR t u):=by
 intro a s Z H vs us Q I r h;obtain⟨v,vr,l,h⟩:=h;subst l;cases r with
 |cons r f=>
   rw[i];refine assignInOrder_cons (cQ (k a s Z H _ _ _ I r h) λ_ d ⟨c,H1,m,g⟩=>?_);exact j a d c H1 _ _ Q m f g
def Vj(K:L0)(n:Nat)(t:SU):TG:=λv Z H Q=>∃a xs,v=.ref a/\SqT K H a xs/\xs.length=n/\t xs Z H Q
theorem Hg{d:List Expr}{k:Nat}{t:SU}{n:Nat}(w:X.calm=true)(h:WL X d t)
 (p:(assignEach d X.env).length=n:=by rfl) (g:(assignEach d X.env).findIdx? (·.1)=none:=by rfl):PG X (.Tuple d k pos) (Vj X.K n t):=by
 intro c s Z H v u Q I r f;obtain⟨a,xs,x,m,q,f⟩:=f;subst x;cases r;obtain⟨its,i,l,z⟩:=I.tuple m;refine assign_Tuple_tuple (I.ok.hd w) l (by simp[p,<-q,i.length]) g λh' j=>?_;have y:Inv X c Z H {s with heap:=h'}:=I.kept (t':=s.toks) λb o e=>j b o (XN (Xu e)) e;exact h c _ Z H xs _ Q y (by simpa using i) f
def uP(te:TE)(g:TG):TS:=λD Z H=>te Z H λx H1=>g x Z H1 D.nx
theorem aI{i:Nat}{x:Str}{e:Expr}{te:TE}{a:Pos}(l:X.N.Nodup)(hi:X.N[i]?=some x)(f:S6 X.env.scope x)(k:PE X e te)(g:swapsWith e (some (.Name x a)) pos.line X.env=pure false:=by rfl)(j:X.fn x=true\/X.env.scope.names.lookup x=some .local:=by first | exact .inl rfl | exact .inr rfl | assumption):
 PS X (.Assign [.Name x a] e pos) (uP te (eZ i)):=by
 intro b s Z H D I h;refine wpAny_Assign_Name (cQ (k b s Z H _ I h) λv o ⟨y,H1,n,c,d⟩=>?_) g;exact qd n l hi f c (λs2 m=>⟨_,H1,m,d⟩) j
end
section
variable{X:Cx}{pos:Pos}
def FD(c:TT)(tb:TS):TS:=λD Z H=>∃W:Nat->St->Hp->Prop,(∃m,W m Z H)/\∀m Z H,W m Z H->
 c Z H λb H1=>if b=true then ∃N:St->Hp->Prop,(∀a H',N a H'->∃d,d<m/\W d a H')/\tb {D with nx:=N,ct:=N,bk:=D.nx} Z H1 else D.nx Z H1
theorem qt{c:Expr}{body:List Stmt}{t:TT}{tb:TS}(hp:PassesOwn (model X.prog X.w) X.A X.env X.xe)(F:PT X c t)(G:Ld X body tb):PS X (.While c body [] pos) (FD t tb):=by
 intro d s Z H D I h;obtain⟨W,⟨E,B⟩,i⟩:=h;refine wpAny_While (codeAny_whileLoop (λn s'=>∃g H',Inv X d g H' s'/\W n g H') ?_ E ⟨Z,H,I,B⟩);rintro n C ⟨e,H1,J,z⟩;refine YL hp (cQ (F d C e H1 _ J (i n e H1 z)) λb s2 ⟨y,x,l⟩=>?_);cases b with
 |true=>
   obtain⟨N,u,l⟩:=l;rw[Xl rfl];refine YL hp (cQ (G d s2 e y _ x l) λf K k=>?_);cases f with
   |next=>
     obtain⟨a,j,r,o⟩:=k;obtain⟨p,q,m⟩:=u a j o;exact⟨p,q,a,j,r,m⟩
   |cont=>
     obtain⟨a,j,r,o⟩:=k;obtain⟨p,q,m⟩:=u a j o;exact⟨p,q,a,j,r,m⟩
   |brk=>exact k
   |ret v=>exact k
 |false=>
   rw[Xj Xw];exact YW ⟨e,y,x,l⟩
end
structure It where
 go:Nat->Hp->Prop
 yld:Nat->Hp->V->Hp->Prop
 stop:Nat->Hp->Prop
def sR(X:Cx)(a:L1)(H:Hp)(b:Addr):Prop:=
 H b=none/\b≠X.env.locals/\b∉X.fs/\(b∈X.ex\/X.s₀.heap.objs.size<=b)/\(∀x c,X.env.cells.lookup x=some c->c≠b)/\∀p∈X.pn++a,p.1≠b
theorem Inv.fpOk{X:Cx}{a:L1}{Z:St}{H H':Hp}{s:Shared}{b:Addr}(I:Inv X a Z H s)(d:s.heap.objs.size<=b)(f:H' b=none):sR X a H' b:=by
 refine⟨f,Nat.ne_of_gt (XG I.lt d),I.nofs d,.inr (XY I.sz d),λx c e z=>?_,λp hp z=>?_⟩
 ·obtain⟨v,q⟩:=I.cell x c e;exact absurd (XG q.lt (by rw[z];exact d)) (Yj _)
 ·exact absurd (XG (Xu (I.pin p hp).1) (by rw[z];exact d)) (Yj _)
structure Turn (P:Program) (w:World) (K:L0) (tg:Expr) (J:It) (fp:List Addr) (it:Addr) (tn:Nat->Heap->Prop):Prop where
 mem:it∈fp
 obj:∀i h,tn i h->∀b∈fp,∃o,h.get? b=some o/\∀v,o.data≠ .cell v
 keep:∀i h h',tn i h->(∀b∈fp,∀o,h.get? b=some o->h'.get? b=some o)->tn i h'
 item:∀(X:Cx),X.prog=P->X.w=w->X.K=K->X.calm=true->∀(i:Nat) (pins:L1) (s:Shared) (Z:St) (H:Hp) (E:L4),Inv X pins Z H s->(∀b∈fp,sR X pins H b)->tn i s.heap->J.go i H->
  wpAny (model P w) X.A (pyNext (.ref it)) (λr s1=>∃u,r=some u/\
   wpAny (model P w) X.A (letOwnedTupleGo tg (.ref it) u) (λ_ s2=>∃x H',Inv X pins Z H' s2/\RelV x u/\J.yld i H x H'/\tn (i+1) s2.heap/\∀b∈fp,H' b=none) E s1) E s
 done:∀(X:Cx),X.prog=P->X.w=w->X.K=K->X.calm=true->∀(i:Nat) (pins:L1) (s:Shared) (Z:St) (H:Hp) (E:L4),Inv X pins Z H s->(∀b∈fp,sR X pins H b)->tn i s.heap->J.stop i H->
  wpAny (model P w) X.A (pyNext (.ref it)) (λr s1=>r=none/\Inv X pins Z H s1) E s
 self:∀(A:Around) (i:Nat) (s:Shared) (Q:L4) (E:L4),tn i s.heap->Q (.ref it) s->wpAny (model P w) A (pyIter (.ref it)) Q E s
abbrev TI:=St->Hp->(It->Hp->Prop)->Prop
def PIE(X:Cx)(a:L1)(Z:St)(g:Expr)(R:It->Hp->Prop)(c:Value)(s2:Shared):Prop:=
 ∃(e:Addr) (f:List Addr) (d:Nat->Heap->Prop) (J:It) (H':Hp),c=.ref e/\Inv X a Z H' s2/\Turn X.prog X.w X.K g J f e d/\d 0 s2.heap/\(∀b∈f,sR X a H' b)/\R J H'
def PI(X:Cx)(c iter:Expr)(b:TI):Prop:=
 ∀(a:L1) (s:Shared) (Z:St) (H:Hp) (R:It->Hp->Prop),Inv X a Z H s->b Z H R->
  wpAny (model X.prog X.w) X.A (eval iter X.env) (λv d=>wpAny (model X.prog X.w) X.A (pyIter v) (PIE X a Z c R) X.xe d) X.xe s
theorem OM{M:Model}{A:Around}{E:L4}{s:Shared}{b:Expr}{c:Addr}{u:Value}{o:Obj}{n:String}{vs:Array Value}{Q:Unit->Shared->Prop}(d:s.heap.get? c=some o)(f:o.cls=.type n)(hd:o.data=.fields vs)
 (e:["enumerate","zip","dict_itemiterator","dict_reverseitemiterator","odict_iterator","itertools.zip_longest","itertools.pairwise"].contains n=false) (a:Q () s):wpAny M A (letOwnedTupleGo b (.ref c) u) Q E s:=by
 unfold letOwnedTupleGo
 cases b <;> first
  |exact XC a
  | (cases u <;> first
      |exact XC a
      | (refine Xn (wpAny_load d ?_)
         rw[f,hd];show wpAny M A (if (["enumerate","zip","dict_itemiterator","dict_reverseitemiterator","odict_iterator","itertools.zip_longest","itertools.pairwise"].contains n&&vs[0]?==some (rawInt _))=true then _ else _) Q E s;rw[Xj (by intro h;rw[e,Bool.false_and]at h;cases h)]
         exact XC a))
def Xg(K:L0)(a:Addr):It:=
 ⟨λi H=>∃xs x,SqL K H a xs/\xs[i]?=some x,λi H x H'=>H'=H/\∀xs,SqL K H a xs->xs[i]?=some x,λi H=>∃xs,SqL K H a xs/\xs.length<=i⟩
def Ws(lo:Int)(n:Nat):It:=⟨λi _=>i<n,λi H x H'=>H'=H/\x=.int (lo+i),λi _=>n<=i⟩
theorem Ej{P:Program}{w:World}{K:L0}{M:Expr}(a g:Addr):Turn P w K M (Xg K a) [g] g (λi h=>h.IsListIter g a i) where
 mem:=by simp
 obj:=λi h st b j=>by
  have e:b=g:=by simpa using j
  subst e;obtain⟨o,e,c,d⟩:=st;exact⟨o,e,λv z=>by rw[d]at z;cases z⟩
 keep:=λi h h' st k=>st.at λo e=>k g (by simp) o e
 item:=by
  intro X A t B L i f s Z H E I n st y;subst A t B;obtain⟨xs,x,m,r⟩:=y;obtain⟨its,q,p,Q⟩:=I.list m;obtain⟨u,S,O⟩:=q.get r;obtain⟨J,G,T,F,D,C⟩:=n g (by simp);refine wpAny_pyNext_list_item st p.isList (x:=u) (by simpa using S) λh' l N=>?_;have V:Inv X f Z H {s with heap:=h'}:=I.turned (t':=s.toks) (λb o j e=>(N.2 b j).trans e) J G F D C;obtain⟨o,e,c,d⟩:=id l;exact⟨u,rfl,OM (s:={s with heap:=h'}) e c d (by decide) ⟨x,H,V,O,⟨rfl,λY R=>by rw[I.list_inj R m];exact r⟩,l,λb j=>(n b j).1⟩⟩
 done:=by
  intro X A t B L i f s Z H E I n st y;subst A t B;obtain⟨xs,m,r⟩:=y;obtain⟨its,q,p,Q⟩:=I.list m;obtain⟨J,G,T,F,D,C⟩:=n g (by simp);have hl:=q.length;exact wpAny_pyNext_list_end (I.ok.hd L) st p.isList (by simp;omega) λh' U=>⟨rfl,I.turned (t':=s.toks) (λb o j e=>U b o j e) J G F D C⟩
 self:=λ_ _ _ _ _ st h=>wpAny_pyIter_listiter st h
theorem zR{P:Program}{w:World}{K:L0}{D:Expr}(c:Addr)(lo:Int)(n:Nat):Turn P w K D (Ws lo n) [c] c (λi h=>IsRangeIter h c (lo+(i:Nat)*1) ((n:Int)-(i:Nat)) 1) where
 mem:=by simp
 obj:=λi h st b d=>by
  have e:b=c:=by simpa using d
  subst e
  exact⟨_,st,λv z=>by
   have C:Data.fields _=Data.cell v:=z
   cases C⟩
 keep:=λi h h' st k=>k c (by simp) _ st
 item:=by
  intro X p j q m i a s Z H E I g st l;subst p j q;obtain⟨A,y,J,x,u,r⟩:=g c (by simp);have W:=Walks.range (prog:=X.prog) (w:=X.w) (I.ok.hd m) c lo 1 n;refine W.item i s _ _ l st λv h' B G f F=>?_;obtain⟨t,rfl⟩:=G;have M:Inv X a Z H {s with heap:=h',toks:=B}:=I.turned (λb o d e=>F b o (by simpa using d) e) A y x u r;refine⟨_,rfl,OM (s:={s with heap:=h',toks:=B}) (n := "range_iterator") f rfl rfl (by decide) ⟨.int (lo+i),H,M,⟨t,?_⟩,⟨rfl,rfl⟩,f,λb d=>(g b d).1⟩⟩;rw[Int.mul_one]
 done:=by
  intro X p j q m i a s Z H E I g st l;subst p j q;obtain⟨A,y,J,x,u,r⟩:=g c (by simp);exact wpAny_pyNext_range_end (I.ok.hd m) st (by have:n<=i:=l;omega) λh' L=>⟨rfl,I.turned (t':=s.toks) (λb o d e=>L b o d e) A y x u r⟩
 self:=λ_ _ _ _ _ st h=>wpAny_pyIter_rangeiter st h
section
variable{X:Cx}{tg:Expr}
def uf(K:L0)(b:TE):TI:=λZ H R=>b Z H λx H1=>∃a,x=.ref a/\(∃xs,SqL K H1 a xs)/\R (Xg K a) H1
theorem Ml{l:Expr}{g:TE}(m:PE X l g):PI X tg l (uf X.K g):=by
 intro c s Z H R I h;refine cQ (m c s Z H _ I h) λv d ⟨x,H1,f,i,j⟩=>?_;obtain⟨a,e,⟨xs,k⟩,q⟩:=j;subst e;cases i;obtain⟨its,r,p,t⟩:=f.list k;refine Zd p.isList ?_;refine⟨d.heap.objs.size,[d.heap.objs.size],_,_,H1,rfl,f.kept (t':=d.toks) λb o e=>Xq _ e,Ej a _,⟨_,XI _ rfl,rfl,rfl⟩,λb n=>?_,q⟩;have e:b=d.heap.objs.size:=by simpa using n
 subst e;exact f.fpOk (XD _) (f.hok.fresh (XD _))
theorem xm{a:L1}{Z:St}{H:Hp}{s:Shared}{R:It->Hp->Prop}{E:L4}{lo hi:Int}{t u v:Tok}{c:Nat}(I:Inv X a Z H s)(j:-(2 ^ 62)<=lo)(i:lo<2 ^ 62)(h:-(2 ^ 62)<=hi)(g:hi<2 ^ 62)
 (q:R (Ws lo (hi-lo).toNat) H):wpAny (model X.prog X.w) X.A (pyIter (.ref s.heap.objs.size)) (PIE X a Z tg R) E {s with heap:=s.heap.push {cls:=.type "range",data:=.fields #[.int lo t,.int hi u,.int 1 v]},toks:=c}:=by
 refine wpAny_pyIter_range (IsRange.new ..) (small_one j i h g) ?_;have d:Inv X a Z H {s with heap:=s.heap.push {cls:=.type "range",data:=.fields #[.int lo t,.int hi u,.int 1 v]},toks:=c}:=I.kept λb o e=>Xq _ e
 refine⟨(s.heap.push {cls:=.type "range",data:=.fields #[.int lo t,.int hi u,.int 1 v]}).objs.size,[(s.heap.push {cls:=.type "range",data:=.fields #[.int lo t,.int hi u,.int 1 v]}).objs.size],_,_,H,rfl,
  d.kept (t':=c) λb o e=>Xq _ e,zR _ lo (hi-lo).toNat,?_,λb f=>?_,q⟩
 · have l:lo+((0:Nat):Int)*1=lo:=by simp
   have k:(((hi-lo).toNat:Nat):Int)-((0:Nat):Int)=Builtin.Range.rangeSize lo hi 1:=by rw[rangeSize_one];split<;>omega
   show IsRangeIter _ _ (lo+((0:Nat):Int)*1) ((((hi-lo).toNat:Nat):Int)-((0:Nat):Int)) 1;rw[l,k];exact XI _ rfl
 · have e:b=(s.heap.push {cls:=.type "range",data:=.fields #[.int lo t,.int hi u,.int 1 v]}).objs.size:=by simpa using f
   subst e;exact d.fpOk (XD _) (d.hok.fresh (XD _))
def OL(a:TA):TI:=λZ H R=>a Z H λvs H1=>∃j:Int,vs=[.int j]/\-(2 ^ 62)<=j/\j<2 ^ 62/\R (Ws 0 j.toNat) H1
def OK(a:TA):TI:=λZ H R=>a Z H λvs H1=>∃i j:Int,vs=[.int i,.int j]/\(-(2 ^ 62)<=i/\i<2 ^ 62/\-(2 ^ 62)<=j/\j<2 ^ 62)/\R (Ws i (j-i).toNat) H1
theorem cc{a:Expr}{d:TA}{p pos:Pos}(m:Gl X "range")(l:X.mg "range" = none)(n:PA X [a] d)(k:starEach [a] X.env=[(false,eval a X.env)]:=by rfl):PI X tg (.Call (.Name "range" p) [a] [] pos) (OL d):=by
 intro b s Z H R I h;refine Call_ (oj I m l boot_range (YY (cQ (n pos b s Z H _ I h) λus u ⟨vs,H1,o,g,c⟩=>?_) k rfl));obtain⟨j,e,c,i,q⟩:=c;subst e;cases g with
 |cons r f=>
   cases f;obtain⟨t,rfl⟩:=r;exact call_range_1 (xm o (by omega) (by omega) c i (by simpa using q))
theorem gL{a b:Expr}{k:TA}{p pos:Pos}(x:Gl X "range")(w:X.mg "range" = none)(y:PA X [a,b] k)(v:starEach [a,b] X.env=[(false,eval a X.env),(false,eval b X.env)]:=by rfl)(d:starEach [b] X.env=[(false,eval b X.env)]:=by rfl):
 PI X tg (.Call (.Name "range" p) [a,b] [] pos) (OK k):=by
 intro c s Z H R I h;refine Call_ (oj I x w boot_range (YY (cQ (y pos c s Z H _ I h) λus A ⟨vs,H1,z,l,g⟩=>?_) (by rw[v,d]) (by rw[d];rfl)));obtain⟨i,j,e,⟨g,u,o,n⟩,q⟩:=g;subst e;cases l with
 |cons r f=>
   cases f with
   |cons m f=>
     cases f;obtain⟨t,rfl⟩:=r;obtain⟨t',rfl⟩:=m;exact call_range_2 (xm z g u o n q)
def O8(d:TI)(g:TG)(tb:TS):TS:=λD Z H=>d Z H λJ H1=>∃W:Nat->Nat->St->Hp->Prop,(∃m,W 0 m Z H1)/\∀i m Z H,W i m Z H->
 (J.stop i H/\D.nx Z H)\/(J.go i H/\∃N:St->Hp->Prop,(∀a H',N a H'->∃c,c<m/\W (i+1) c a H')/\∀x H',J.yld i H x H'->g x Z H' λb e=>tb {D with nx:=N,ct:=N,bk:=D.nx} b e)
def qv(a:List Addr)(h:Heap):L1:=a.filterMap λb=>(h.get? b).map λo=>(b,o)
theorem js{a:List Addr}{h:Heap}{b:Addr}{o:Obj}(c:b∈a)(e:h.get? b=some o):(b,o)∈qv a h:=Y9.mpr ⟨b,c,by rw[e];rfl⟩
theorem ED{a:List Addr}{h:Heap}{p:Addr×Obj}(hp:p∈qv a h):p.1∈a/\h.get? p.1=some p.2:=by
 obtain⟨b,c,e⟩:=Y9.mp hp;cases q:h.get? b with
 |none=>rw[q]at e;cases e
 |some o=>
   rw[q]at e;have d:(b,o)=p:=XQ e;subst d;exact⟨c,q⟩
theorem Inv.pinned{a:L1}{Z:St}{H:Hp}{s:Shared}{c:List Addr}(I:Inv X a Z H s)(i:∀b∈c,sR X a H b)(h:∀b∈c,∃o,s.heap.get? b=some o/\∀v,o.data≠ .cell v):Inv X (a++qv c s.heap) Z H s:=
 I.pins_of λp hp=>(XE.mp hp).elim (λz=>I.pin p (Xr _ z)) λz=>by
  obtain⟨f,e⟩:=ED z;obtain⟨l,k,j,_⟩:=i p.1 f;obtain⟨o,g,d⟩:=h p.1 f;rw[e]at g;cases g;exact⟨e,l,k,j,d⟩
theorem Inv.unpinned{a pl:L1}{Z:St}{H:Hp}{s:Shared}(I:Inv X (a++pl) Z H s):Inv X a Z H s:=I.pins_of λp hp=>I.pin p (Xr _ (XA _ hp))
theorem bP{iter:Expr}{body:List Stmt}{Y:TI}{g:TG}{tb:TS}{pos:Pos}(hp:PassesOwn (model X.prog X.w) X.A X.env X.xe)(hc:X.calm=true)(hi:PI X tg iter Y)(hg:PG X tg g)(p:Ld X body tb)
 (hs:∀x,foldedSetIterable iter X.env x=pure x:=by intro _;rfl):PS X (.For tg iter body [] pos) (O8 Y g tb):=by
 intro c s Z H D I h;refine wpAny_For (cQ (hi c s Z H _ I h) λv s1 h1=>cQ h1 λitv s2 h2=>?_) hs;obtain⟨it,L,tn,J,H2,e,I2,T,Q,f2,W,⟨m0,w0⟩,C⟩:=h2;subst e
 -- what P true of the z F through the loop
 have l:∀{H':Hp},(∀b∈L,H' b=none)->∀b∈L,sR X c H' b:=λhn b p=>⟨hn b p,(f2 b p).2⟩;refine codeAny_forLoop_any (λn s'=>∃i k H',Inv X c k H' s'/\tn i s'.heap/\(∀b∈L,H' b=none)/\W i n k H') ?_ m0 ⟨0,Z,H2,I2,Q,λb p=>(f2 b p).1,w0⟩;rintro n s3 ⟨i,j,M,I3,E,K,w3⟩;rcases C i n j M w3 with ⟨stop,qn⟩|⟨go,N,hN,step⟩
 ·refine YL hp (cQ (T.done X rfl rfl rfl hc i c s3 j M X.xe I3 (l K) E stop) λr s4 ⟨S,I4⟩=>?_);subst S;exact YW ⟨j,M,I4,qn⟩
 · refine YL hp (cQ (T.item X rfl rfl rfl hc i c s3 j M X.xe I3 (l K) E go) λr s4 ⟨u,S,h4⟩=>?_);subst S;refine YL hp (cQ h4 λ_ s5 ⟨x,H5,I5,r5,y5,B,U⟩=>?_);have V:=I5.pinned (l U) (T.obj _ _ B);refine YL hp (cQ (hg _ s5 j H5 x u _ V r5 (step x H5 y5)) λ_ s6 ⟨O,H6,I6,q6⟩=>?_);refine YL hp (cQ (p _ s6 O H6 _ I6 q6) λf R y=>?_)
   have again:∀{a:St} {t:Hp},Inv X (c++qv L s5.heap) a t R->N a t->∃m,m<n/\∃i k H',Inv X c k H' R/\tn i R.heap/\(∀b∈L,H' b=none)/\W i m k H':=λ{a t} q G=>by
    obtain⟨m',hm,w7⟩:=hN a t G;refine⟨m',hm,i+1,a,t,q.unpinned,T.keep _ _ _ B λb p o e=>(q.pin (b,o) (Xr _ (Xr _ (js p e)))).1,λb p=>?_,w7⟩;obtain⟨o,e,d⟩:=T.obj _ _ B b p;exact(q.pin (b,o) (Xr _ (Xr _ (js p e)))).2.1
   cases f with
   |next=>obtain⟨a,t,q,G⟩:=y;exact again q G
   |cont=>obtain⟨a,t,q,G⟩:=y;exact again q G
   |brk=>obtain⟨a,t,q,y⟩:=y;exact⟨a,t,q.unpinned,y⟩
   |ret v=>obtain⟨x7,a,t,q,r7,y⟩:=y;exact⟨x7,a,t,q.unpinned,r7,y⟩
end
abbrev R2:=V->V->Hp->VK->Prop
def mP(X:Cx)(f:Value->Value->Sem Value)(r:R2):Prop:=
 ∀(a:L1) (s:Shared) (Z:St) (H:Hp) (x y:V) (v u:Value) (Q:VK),Inv X a Z H s->RelV x v->RelV y u->r x y H Q->
  wpAny (model X.prog X.w) X.A (f v u) (EP X a Z Q) X.xe s
def Xc(X:Cx)(f:Value->Sem Value)(r:V->Hp->VK->Prop):Prop:=
 ∀(a:L1) (s:Shared) (Z:St) (H:Hp) (x:V) (v:Value) (Q:VK),Inv X a Z H s->RelV x v->r x H Q->
  wpAny (model X.prog X.w) X.A (f v) (EP X a Z Q) X.xe s
def fD(X:Cx)(f:Value)(r:List V->Hp->VK->Prop):Prop:=
 ∀(a:L1) (s:Shared) (Z:St) (H:Hp) (xs:List V) (us:List Value) (Q:VK),Inv X a Z H s->Vals xs us->r xs H Q->
  wpAny (model X.prog X.w) X.A (call f us) (EP X a Z Q) X.xe s
def Lp(r:R2)(a tb:TE):TE:=λZ H Q=>a Z H λx H1=>tb Z H1 λy b=>r x y b Q
def tUn(r:V->Hp->VK->Prop)(a:TE):TE:=λZ H Q=>a Z H λx H1=>r x H1 Q
def rI(C:Int->Int->Prop)(g:Int->Int->V):R2:=λx y H Q=>∃i j,x=.int i/\y=.int j/\C i j/\Q (g i j) H
def CB(g:Int->Int->V):R2:=λx y H Q=>∃i j,x=.int i/\y=.int j/\Q (g i j) H
def rU(g:Int->V):V->Hp->VK->Prop:=λx H Q=>∃i,x=.int i/\Q (g i) H
section
variable{X:Cx}{a b c:Expr}{ta tb tc:TE}{pos:Pos}
theorem SG(p:PE X a ta)(o:PE X b tb){c:L1}{s:Shared}{Z:St}{H:Hp}{R:V->V->Hp->Prop}(I:Inv X c Z H s)
 (h:ta Z H λx H1=>tb Z H1 λy d=>R x y d) {Q:L4} {f:Value->Value->Sem Value}
 (n:∀v u s2 x y d,Inv X c Z d s2->RelV x v->RelV y u->R x y d->wpAny (model X.prog X.w) X.A (f v u) Q X.xe s2):
 wpAny (model X.prog X.w) X.A (eval a X.env) (λv g=>wpAny (model X.prog X.w) X.A (eval b X.env) (λu e=>wpAny (model X.prog X.w) X.A (f v u) Q X.xe e) X.xe g) X.xe s:=by
 refine cQ (p c s Z H _ I h) λv i ⟨x,H1,r,k,m⟩=>?_;refine cQ (o c i Z H1 _ r m) λu s2 ⟨y,d,q,j,l⟩=>?_;exact n v u s2 x y d q k j l
theorem aL{op:Operator}{r:R2}(f:mP X (binaryOp op) r)(i:PE X a ta)(g:PE X b tb):PE X (.BinOp a op b pos) (Lp r ta tb):=by
 intro c s Z H Q I h;exact wpAny_BinOp (SG i g I h λv u s2 x y k j e d q=>f c s2 Z k x y v u Q j e d q)
theorem oN{op:UnaryOp}{r:V->Hp->VK->Prop}(f:Xc X (unaryOp op) r)(g:PE X a ta):PE X (.UnaryOp op a pos) (tUn r ta):=by
 intro b s Z H Q I h;exact UnaryOp_ (cQ (g b s Z H _ I h) λv c ⟨x,H1,i,d,e⟩=>f b c Z H1 x v Q i d e)
theorem WB{f:Value->Value->Sem Value}{C:Int->Int->Prop}{g:Int->Int->Int}
 (rule:∀(i j:Int) (t u:Tok) (s:Shared) (Q:L4) (E:L4),C i j->Q (.int (g i j) s.toks) {s with toks:=s.toks+1}->wpAny (model X.prog X.w) X.A (f (.int i t) (.int j u)) Q E s):
 mP X f (rI C λi j=>.int (g i j)):=by
 intro a s Z H x y v u Q I c b h;obtain⟨i,j,rfl,rfl,d,q⟩:=h;obtain⟨t,rfl⟩:=c;obtain⟨t',rfl⟩:=b;exact rule i j t t' s _ _ d ⟨.int (g i j),H,I.tok _,⟨_,rfl⟩,q⟩
theorem T3{f:Value->Value->Sem Value}{g:Int->Int->Int}
 (rule:∀(i j:Int) (t u:Tok) (s:Shared) (Q:L4) (E:L4),Q (.int (g i j) s.toks) {s with toks:=s.toks+1}->wpAny (model X.prog X.w) X.A (f (.int i t) (.int j u)) Q E s):
 mP X f (CB λi j=>.int (g i j)):=by
 intro a s Z H x y v u Q I c b h;obtain⟨i,j,rfl,rfl,q⟩:=h;obtain⟨t,rfl⟩:=c;obtain⟨t',rfl⟩:=b;exact rule i j t t' s _ _ ⟨.int (g i j),H,I.tok _,⟨_,rfl⟩,q⟩
theorem Qo{f:Value->Value->Sem Value}{g:Int->Int->Bool}
 (rule:∀(i j:Int) (t u:Tok) (s:Shared) (Q:L4) (E:L4),Q (.bool (g i j)) s->wpAny (model X.prog X.w) X.A (f (.int i t) (.int j u)) Q E s):
 mP X f (CB λi j=>.bl (g i j)):=by
 intro a s Z H x y v u Q I c b h;obtain⟨i,j,rfl,rfl,q⟩:=h;obtain⟨t,rfl⟩:=c;obtain⟨t',rfl⟩:=b;exact rule i j t t' s _ _ ⟨.bl (g i j),H,I,rfl,q⟩
def SW(i j:Int):Prop:=0<j/\j<1073741824
def CMul(i j:Int):Prop:=(-(2 ^ 64)<i/\i<2 ^ 64)\/(-(2 ^ 64)<j/\j<2 ^ 64)
theorem CMul.ok{i j:Int}(h:CMul i j):IntMulOk i j:=by
 rcases h with ⟨b,a⟩|⟨b,a⟩
 ·exact .of_left (intBits_le_64 b a)
 ·exact .of_right (intBits_le_64 b a)
theorem zQ(k:Nat):(0:Int)<=2 ^ k:=by
 rw[two_pow_cast];exact Int.natCast_nonneg _
theorem dL:mP X (binaryOp .Add) (CB λi j=>.int (i+j)):=T3 λ_ _ _ _ _ _ _ q=>add_int q
theorem lW:mP X (binaryOp .Sub) (CB λi j=>.int (i-j)):=T3 λ_ _ _ _ _ _ _ q=>sub_int q
theorem n8:mP X (binaryOp .Mult) (rI CMul λi j=>.int (i*j)):=WB λ_ _ _ _ _ _ _ a q=>mul_int q a.ok
theorem eG:mP X (binaryOp .FloorDiv) (rI SW λi j=>.int (i / j)):=WB λi j _ _ _ _ _ a q=>by
 have c:(0:Int)<j:=a.1;have b:j<1073741824:=a.2;exact floordiv_int (by omega) (by rw[Zv i (by omega)];exact q) (.inl (PyProof.noPylong_small (by omega)))
theorem bZ:mP X (binaryOp .Mod) (rI (λ_ j=>0<j) λi j=>.int (i%j)):=WB λi j _ _ _ _ _ a q=>by
 have b:(0:Int)<j:=a;exact mod_int' (by omega) (by rw[Int.fmod_eq_emod_of_nonneg i (by omega)];exact q)
theorem Qj:mP X (binaryOp .RShift) (rI (λ_ j=>0<=j) λi j=>.int (i / 2 ^ j.toNat)):=WB λi j _ _ _ _ _ a q=>
 rshift_int a (by rw[Zv i (zQ _)];exact q)
theorem unI{f:Value->Sem Value}{g:Int->Int}
 (rule:∀(i:Int) (t:Tok) (s:Shared) (Q:L4) (E:L4),Q (.int (g i) s.toks) {s with toks:=s.toks+1}->wpAny (model X.prog X.w) X.A (f (.int i t)) Q E s):
 Xc X f (rU λi=>.int (g i)):=by
 intro a s Z H x v Q I b h;obtain⟨i,rfl,q⟩:=h;obtain⟨t,rfl⟩:=b;exact rule i t s _ _ ⟨.int (g i),H,I.tok _,⟨_,rfl⟩,q⟩
theorem jZ:Xc X (unaryOp .USub) (rU λi=>.int (-i)):=unI λ_ _ _ _ _ q=>neg_int q
end
def Pg:V->V->Bool
 |.non,.non=>true | .non,.int _=>true | .int _,.non=>true | .non,.bl _=>true | .bl _,.non=>true | .non,.str _=>true | .str _,.non=>true
 |.int _,.int _=>true | .bl _,.bl _=>true | .str _,.str _=>true | .byt _,.byt _=>true
 |.int _,.str _=>true | .str _,.int _=>true | .bl _,.str _=>true | .str _,.bl _=>true
 |_,_=>false
def rEq:R2:=λx y H Q=>Pg x y=true/\Q (.bl (decide (x=y))) H
def rNe:R2:=λx y H Q=>Pg x y=true/\Q (.bl (!decide (x=y))) H
theorem C8{i j:Int}:decide (V.int i=V.int j)=(i==j):=by
 rw[Zn];simp
theorem J7{i j:Bool}:decide (V.bl i=V.bl j)=(i==j):=by
 rw[Zn];simp
theorem C7{i j:Str}:decide (V.str i=V.str j)=(i==j):=by
 rw[Zn];simp
theorem C9{i j:Array UInt8}:decide (V.byt i=V.byt j)=(i.toList==j.toList):=by
 rw[Zn];cases i;cases j;simp
section
variable{X:Cx}{a b c:Expr}{ta tb tc:TE}{pos:Pos}
theorem bS{a:L1}{Z:St}{H:Hp}{s:Shared}{Q:VK}{k k':Bool}(I:Inv X a Z H s)(q:Q (.bl k) H)(e:k=k'):EP X a Z Q (.bool k') s:=by
 subst e;exact⟨.bl k,H,I,rfl,q⟩
theorem na:mP X (compareOp .Eq) rEq:=by
 intro d s Z H x y v u Q I c a h;obtain⟨b,q⟩:=h;cases x with
 |non=>
   cases c;cases y with
   |non=>cases a;exact PySem.EqNone.eq_none_none (bS I q (by simp))
   |bl j=>cases a;exact PySem.EqNone.eq_none_bool (bS I q (by simp))
   |int j=>obtain⟨t',rfl⟩:=a;exact PySem.EqNone.eq_none_int (bS I q (by simp))
   |str j=>obtain⟨t',rfl⟩:=a;exact PySem.EqNone.eq_none_str (bS I q (by simp))
   |_=>exact absurd (show false=true from b) Xw
 |bl i=>
   cases c;cases y with
   |non=>cases a;exact PySem.EqNone.eq_bool_none (bS I q (by simp))
   |bl j=>cases a;exact eq_bool (bS I q J7)
   |str j=>obtain⟨t',rfl⟩:=a;exact PySem.EqMixed.eq_bool_str (bS I q (by simp))
   |_=>exact absurd (show false=true from b) Xw
 |int i=>
   obtain⟨t,rfl⟩:=c;cases y with
   |non=>cases a;exact PySem.EqNone.eq_int_none (bS I q (by simp))
   |int j=>obtain⟨t',rfl⟩:=a;exact eq_int (bS I q C8)
   |str j=>obtain⟨t',rfl⟩:=a;exact PySem.EqMixed.eq_int_str (bS I q (by simp))
   |_=>exact absurd (show false=true from b) Xw
 |str i=>
   obtain⟨t,rfl⟩:=c;cases y with
   |non=>cases a;exact PySem.EqNone.eq_str_none (bS I q (by simp))
   |bl j=>cases a;exact PySem.EqMixed.eq_str_bool (bS I q (by simp))
   |int j=>obtain⟨t',rfl⟩:=a;exact PySem.EqMixed.eq_str_int (bS I q (by simp))
   |str j=>obtain⟨t',rfl⟩:=a;exact eq_str (bS I q C7)
   |_=>exact absurd (show false=true from b) Xw
 |byt i=>
   obtain⟨t,rfl⟩:=c;cases y with
   |byt j=>obtain⟨t',rfl⟩:=a;exact PySem.W.eq_bytes (bS I q C9)
   |_=>exact absurd (show false=true from b) Xw
 |_=>cases y<;>exact absurd (show false=true from b) Xw
theorem m8:mP X (compareOp .NotEq) rNe:=by
 intro d s Z H x y v u Q I c a h;obtain⟨b,q⟩:=h;cases x with
 |non=>
   cases c;cases y with
   |non=>cases a;exact PySem.EqNone.ne_none_none (bS I q (by simp))
   |bl j=>cases a;exact PySem.EqNone.ne_none_bool (bS I q (by simp))
   |int j=>obtain⟨t',rfl⟩:=a;exact PySem.EqNone.ne_none_int (bS I q (by simp))
   |str j=>obtain⟨t',rfl⟩:=a;exact PySem.EqNone.ne_none_str (bS I q (by simp))
   |_=>exact absurd (show false=true from b) Xw
 |bl i=>
   cases c;cases y with
   |non=>cases a;exact PySem.EqNone.ne_bool_none (bS I q (by simp))
   |bl j=>cases a;exact ne_bool (bS I q (congrArg not J7))
   |str j=>obtain⟨t',rfl⟩:=a;exact PySem.EqMixed.ne_bool_str (bS I q (by simp))
   |_=>exact absurd (show false=true from b) Xw
 |int i=>
   obtain⟨t,rfl⟩:=c;cases y with
   |non=>cases a;exact PySem.EqNone.ne_int_none (bS I q (by simp))
   |int j=>obtain⟨t',rfl⟩:=a;exact ne_int (bS I q (congrArg not C8))
   |str j=>obtain⟨t',rfl⟩:=a;exact PySem.EqMixed.ne_int_str (bS I q (by simp))
   |_=>exact absurd (show false=true from b) Xw
 |str i=>
   obtain⟨t,rfl⟩:=c;cases y with
   |non=>cases a;exact PySem.EqNone.ne_str_none (bS I q (by simp))
   |bl j=>cases a;exact PySem.EqMixed.ne_str_bool (bS I q (by simp))
   |int j=>obtain⟨t',rfl⟩:=a;exact PySem.EqMixed.ne_str_int (bS I q (by simp))
   |str j=>obtain⟨t',rfl⟩:=a;exact ne_str (bS I q (congrArg not C7))
   |_=>exact absurd (show false=true from b) Xw
 |byt i=>
   obtain⟨t,rfl⟩:=c;cases y with
   |byt j=>obtain⟨t',rfl⟩:=a;exact PySem.W.ne_bytes (bS I q (congrArg not C9))
   |_=>exact absurd (show false=true from b) Xw
 |_=>cases y<;>exact absurd (show false=true from b) Xw
theorem qA:mP X (compareOp .Lt) (CB λi j=>.bl (decide (i<j))):=Qo λ_ _ _ _ _ _ _ q=>lt_int q
theorem m9:mP X (compareOp .Gt) (CB λi j=>.bl (decide (j<i))):=Qo λ_ _ _ _ _ _ _ q=>gt_int q
theorem T1:mP X (compareOp .GtE) (CB λi j=>.bl (decide (j<=i))):=Qo λ_ _ _ _ _ _ _ q=>ge_int q
theorem fN:mP X (compareOp .Is) (λx y H Q=>y=.non/\Q (.bl (decide (x=.non))) H):=by
 intro b s Z H x y v u Q I a c h;obtain⟨rfl,q⟩:=h;cases c;refine is_none_gen (bS I q ?_)
 cases x <;> first
  |(cases a;rfl)
  |(obtain⟨t,rfl⟩:=a;rfl)
theorem vw:mP X (compareOp .IsNot) (λx y H Q=>y=.non/\Q (.bl (!decide (x=.non))) H):=by
 intro b s Z H x y v u Q I a c h;obtain⟨rfl,q⟩:=h;cases c;refine isnot_none_gen (bS I q ?_)
 cases x <;> first
  |(cases a;rfl)
  |(obtain⟨t,rfl⟩:=a;rfl)
theorem aQ(b:Expr){op:CmpOp}(h:op≠ .In:=by decide)(a:op≠ .NotIn:=by decide):behindInMarks op b=false:=by
 have d:(op == CmpOp.In)=false:=by cases op <;> first | rfl | exact absurd rfl h
 have c:(op == CmpOp.NotIn)=false:=by cases op <;> first | rfl | exact absurd rfl a
 cases b<;>simp[behindInMarks,d,c]
theorem vn{op:CmpOp}{r:R2}(f:mP X (compareOp op) r)(j:PE X a ta)(i:PE X b tb)(g:behindInMarks op b=false):PE X (.Compare a [op] [b] pos) (Lp r ta tb):=by
 intro c s Z H Q I h;exact wpAny_Compare1 (SG j i I h λv u s2 x y l k e d q=>f c s2 Z l x y v u Q k e d q) g
def FF(t:TE):TT:=λZ H Q=>t Z H λx H'=>∃k,x=.bl k/\Q k H'
theorem av{op:CmpOp}{r:R2}(o:mP X (compareOp op) r)(t:PE X a ta)(q:PE X b tb)(p:behindInMarks op b=false):PT X (.Compare a [op] [b] pos) (FF (Lp r ta tb)):=by
 intro d s Z H Q I h
 refine wpAny_isTrue_Compare1 (cQ (t d s Z H _ I h) λv f ⟨x,H1,B,j,n⟩=>cQ (q d f Z H1 _ B n) λu s2 ⟨y,D,A,i,m⟩=>
  cQ (o d s2 Z D x y v u _ A j i m) λc E ⟨z,C,w,g,k,e,l⟩=>?_) p
 subst e;cases g;exact Yq ⟨C,w,l⟩
theorem AY:(sizeLine:Nat)<2 ^ 63:=by rw[sizeLine_eq];decide
theorem Fx{x:V}{us:List Value}(r:Vals [x] us):∃u,us=[u]/\RelV x u:=by
 cases r with
 |cons b a=>cases a;exact⟨_,rfl,b⟩
theorem BS{x y:V}{us:List Value}(r:Vals [x,y] us):∃u a,us=[u,a]/\RelV x u/\RelV y a:=by
 cases r with
 |cons e d=>
   cases d with
   |cons c b=>cases b;exact⟨_,_,rfl,e,c⟩
theorem Fh(c:X.calm=true):fD X (.builtin "max") (λxs H Q=>∃i j,xs=[.int i,.int j]/\Q (.int (if j>i then j else i)) H):=by
 intro b s Z H xs us Q I r h;obtain⟨i,j,rfl,q⟩:=h;obtain⟨u,d,rfl,⟨t,rfl⟩,⟨t',rfl⟩⟩:=BS r;refine max_two_ints (I.ok.hd c) λh' e k=>⟨_,H,I.kept k,?_,q⟩;by_cases a:j>i
 ·rw[Xl a,Xl a];exact⟨_,rfl⟩
 ·rw[Xj a,Xj a];exact⟨_,rfl⟩
theorem Fg(c:X.calm=true):fD X (.builtin "min") (λxs H Q=>∃i j,xs=[.int i,.int j]/\Q (.int (if j<i then j else i)) H):=by
 intro b s Z H xs us Q I r h;obtain⟨i,j,rfl,q⟩:=h;obtain⟨u,d,rfl,⟨t,rfl⟩,⟨t',rfl⟩⟩:=BS r;refine min_two_ints (I.ok.hd c) λh' e k=>⟨_,H,I.kept k,?_,q⟩;by_cases a:j<i
 ·rw[Xl a,Xl a];exact⟨_,rfl⟩
 ·rw[Xj a,Xj a];exact⟨_,rfl⟩
end
structure ObjM (h:Heap) (x dx C:Addr) (mA:Str->Option Value):Prop where
 obj:h.get? x=some (PySem.W.instObj C dx)
 ns:h.Ns1 dx mA
 ne:dx≠x
theorem EK{h:Heap}{dx:Addr}{d:Str->Option Value}(n:h.Ns1 dx d):∃c,h.get? dx=some c/\∀name,PySem.W.lookIn name c=some (d name):=by
 obtain⟨o,f,m,i,hd,k,_,j⟩:=n;refine⟨o,i,λname=>?_⟩;have e:=j name;unfold nsFind findBy at e;rw[<-Array.find?_toList]at e;unfold PySem.W.lookIn;rw[hd];dsimp only;split
 ·rename_i y q;rw[q]at e;exact congrArg some e
 · rename_i q;rw[q]at e
   have a:f.toList.any (·.refKey)=false:=by
    rw[List.any_eq_false];intro y g;obtain⟨z,t,b⟩:=k y (Array.mem_toList_iff.mp g);simp[DictEntry.refKey,b]
   have l:¬ f.toList.any (·.refKey)=true:=by rw[a];exact Xw
   rw[Xj l];exact congrArg some e
theorem ObjM.look{h:Heap}{x dx C:Addr}{b:Str->Option Value}(I:ObjM h x dx C b):∃a,PySem.W.InstAt h x (PySem.W.instObj C dx) C (some a)/\∀name,PySem.W.lookIn name a=some (b name):=
 let ⟨a,c,d⟩:=EK I.ns
 ⟨a,⟨I.obj,rfl,rfl,c⟩,d⟩
section
variable{prog:Program}{w:World}{A:Around}{E:L4}{s:Shared}{K:L0}{x dx C f:Addr}{mA:Str->Option Value}{name:Str}{v:Value}
theorem MU{a:Bool}{Q:L4}(X:K.In s.heap)(I:ObjM s.heap x dx C mA)(f:PySem.W.plainGet K C name=true)(e:PySem.W.hasDictIn K C=true)
 (g:PySem.W.findIn K (.ref C) name=some none) (c:mA name=some v) (b:PySem.W.handedIn v=true) (h:Q v {s with toks:=s.toks+1}):
 wpAny (model prog w) A (getAttr (.ref x) name a) Q E s:=by
 obtain⟨i,J,d⟩:=I.look;exact PySem.W.get_value X J (Zq f).1 (PySem.W.findObj_own e g rfl (by rw[d,c])) b h
theorem JO{pl:Sem Bool}{Q:Value×List Value->Shared->Prop}(X:K.In s.heap)(I:ObjM s.heap x dx C mA)(a:PySem.W.plainGet K C name=true)
 (g:PySem.W.findIn K (.ref C) name=some (some (.ref f))) (d:PySem.W.isFn K (.ref f)=true) (c:mA name=none) (h:Q (.ref f,[.ref x]) s):
 wpAny (model prog w) A (getMethod (.ref x) name pl) Q E s:=by
 obtain⟨b,J,e⟩:=I.look;exact PySem.W.method_fn X J (Zq a).1 (Zq a).2 g (Zl.mp d) (by show(PySem.W.lookIn name b).map (·.isSome)=some false;rw[e,c];rfl) h
theorem LX{ns:List Str}{Q:Unit->Shared->Prop}(X:K.In s.heap)(I:ObjM s.heap x dx C mA)
 (m:PySem.W.findIn K (.ref C) "__setattr__" = some (some (.builtin "object.__setattr__"))) (hp:PySem.W.plainOver K C=true) (l:PySem.W.takerIn K C name=some none) (n:PySem.W.hasDictIn K C=true)
 (k:PySem.Within mA ns) (hsz:ns.length<=sizeLine)
 (h:∀h',ObjM h' x dx C (λy=>if y=name then some v else mA y)->Heap.SameBut dx s.heap h'->Q () {s with heap:=h',toks:=s.toks+2}):
 wpAny (model prog w) A (setAttr (.ref x) name v) Q E s:=by
 obtain⟨t,J,z⟩:=I.look;refine PySem.W.set_plain X J m (PySem.W.osa_open (s:={s with toks:=s.toks+1}) (r:=none) X J hp l λb=>?_);obtain⟨B,o,g⟩:=PySem.W.any_some n;have j:s.heap.get? x=some ⟨.ref C,some dx,.plain,#[]⟩:=I.obj;refine Xn (XC (Xn (Xn (wpAny_loadPart j (Xn (PySem.W.Looks.here (s:={s with toks:=s.toks+1}) (PySem.W.looks_clsIn X o) ?_))))));rw[g];refine XC (a:=some dx) (Xn (XC (Xn ?_)));refine wpAny_nsSet1 (s:={s with toks:=s.toks+1}) I.ns λh' d c=>?_;obtain⟨u,p,q,e,f,i⟩:=d.count (PySem.Within.cons name v k);refine Xn (wpAny_lookBehind e (by rw[f];exact pastItsLine_dict (XY i (by rw[Xp];omega))) ?_);exact XC (h _ ⟨(c.2 _ (Y2 I.ne)).trans I.obj,d,I.ne⟩ c)
theorem I9{R:Result->Shared->Prop}{vs:List Value}{a:List (Str×Value)}(X:K.In s.heap)(b:PySem.W.makesIn K C=true)
 (hi:PySem.W.findIn K (.ref C) "__init__" = some (some (.ref f))) (c:PySem.W.typeIn K (.ref f)=some (.type "function"))
 (h:codeAny (model prog w) (A.under (.builtin "type.__call__" ⟨.ref C::vs,a⟩)) (.call (.ref f) ⟨.ref (s.heap.objs.size+1)::vs,a⟩) (PySem.W.InitBack (s.heap.objs.size+1) R)
   {s with heap:=(s.heap.push PySem.W.emptyDict).push (PySem.W.instObj C s.heap.objs.size)}):
 codeAny (model prog w) A (.call (.ref C) ⟨vs,a⟩) R s:=by
 obtain⟨e,g,d,t,os⟩:=s;exact PySem.W.make_core (PySem.W.makes_of X b) (PySem.W.looks_findIn X hi) (λself=>PySem.W.bind_fn X self c) (.inl rfl) h
end
def gW(f:Str)(v:V):List (Str×V)->List (Str×V)
 |[]=>[(f,v)]
 |(g,x)::r=>if g=f then (g,v)::r else (g,x)::gW f v r
theorem oU(f g:Str)(v:V):∀fs:List (Str×V),(gW f v fs).lookup g=if g=f then some v else fs.lookup g
 | []=>by
   show List.lookup g [(f,v)]=_;by_cases h:g=f
   ·have a:(g==f)=true:=Zl.mpr h;simp only[List.lookup,a,Xl h]
   ·have a:(g==f)=false:=Yd.mpr h;simp only[List.lookup,a,Xj h]
 | (k,x)::r=>by
   have c:=oU f g v r;rw[show gW f v ((k,x)::r)=(if k=f then (k,v)::r else (k,x)::gW f v r) from rfl];by_cases b:k=f
   · rw[Xl b];by_cases h:g=k
     ·have a:(g==k)=true:=Zl.mpr h;simp only[List.lookup,a,Xl (h.trans b)]
     ·have a:(g==k)=false:=Yd.mpr h;simp only[List.lookup,a,Xj (λe:g=f=>h (e.trans b.symm))]
   · rw[Xj b];by_cases h:g=k
     ·have a:(g==k)=true:=Zl.mpr h;simp only[List.lookup,a,Xj (λe:g=f=>b (h.symm.trans e))]
     ·have a:(g==k)=false:=Yd.mpr h;simp only[List.lookup,a];exact c
theorem om(f:Str)(v:V):∀fs:List (Str×V),f∈(gW f v fs).map (·.1)/\∀g,g∈fs.map (·.1)->g∈(gW f v fs).map (·.1)
 |[]=>⟨by simp[gW],λg h=>by simp at h⟩
 | (k,x)::r=>by
   obtain⟨c,b⟩:=om f v r;rw[show gW f v ((k,x)::r)=(if k=f then (k,v)::r else (k,x)::gW f v r) from rfl];by_cases a:k=f
   ·rw[Xl a];subst a;exact⟨by simp,λg h=>by simpa using h⟩
   · rw[Xj a];refine⟨?_,λg h=>?_⟩
     ·rw[Xm];exact no _ c
     · rw[Xm]at h ⊢;rcases Xv.mp h with e|e
       ·exact Xv.mpr (.inl e)
       ·exact no _ (b g e)
theorem oX(f:Str)(v:V):∀fs:List (Str×V),(gW f v fs).length<=fs.length+1
 |[]=>by simp[gW]
 | (k,x)::r=>by
   have b:=oX f v r;rw[show gW f v ((k,x)::r)=(if k=f then (k,v)::r else (k,x)::gW f v r) from rfl];by_cases a:k=f
   ·rw[Xl a,Xp,Xp];omega
   ·rw[Xj a,Xp,Xp];omega
theorem RelO.some_of{v:V}{o:Option Value}(r:RelO (some v) o):∃u,o=some u/\RelV v u:=by
 cases o with
 |none=>exact(show False from r).elim
 |some u=>exact⟨u,rfl,r⟩
theorem RelO.none_of{o:Option Value}(r:RelO none o):o=none:=by
 cases o with
 |none=>rfl
 |some u=>exact(show False from r).elim
theorem E1{v:V}{u:Value}(r:RelV v u):PySem.W.handedIn u=true:=by
 cases v with
 |non=>cases(show u=Value.none from r);rfl
 |bl b=>cases(show u=Value.bool b from r);rfl
 |int i=>obtain⟨t,e⟩:=(show ∃t,u=Value.int i t from r);cases e;rfl
 |str x=>obtain⟨t,e⟩:=(show ∃t,u=Value.str x t from r);cases e;rfl
 |byt b=>obtain⟨t,e⟩:=(show ∃t,u=Value.bytes b t from r);cases e;rfl
 |flt b=>obtain⟨t,e⟩:=(show ∃t,u=Value.float b t from r);cases e;rfl
 |ref a=>cases(show u=Value.ref a from r);rfl
 |ty n=>cases(show u=Value.type n from r);rfl
section
variable{P:Program}{w:World}{H H':Hp}{h h':Heap}{a C dx:Addr}{fs fs':List (Str×V)}
theorem pS(hok:HOk P w H h)(e:H a=some (.ins C dx fs)):∃b,ObjM h a dx C b/\(∀f,RelO (fs.lookup f) (b f))/\PySem.Within b (fs.map (·.1))/\fs.length<=1000/\H dx=some (.own a):=by
 obtain⟨d,z,ne,ob,b,n,r,q⟩:=(show ObjOk P w H h a (.ins C dx fs) from hok a _ e);exact⟨b,⟨ob,n,ne⟩,r,q,z,d⟩
end
structure Cls (K:L0) (C:Addr):Prop where
 pg:PySem.W.plainGet K C Str.empty=true
 hd:PySem.W.hasDictIn K C=true
 po:PySem.W.plainOver K C=true
 sa:PySem.W.findIn K (.ref C) "__setattr__" = some (some (.builtin "object.__setattr__"))
theorem Cls.get{K:L0}{C:Addr}(c:Cls K C)(f:Str):PySem.W.plainGet K C f=true:=c.pg
def NoAttr(K:L0)(C:Addr)(f:Str):Prop:=PySem.W.findIn K (.ref C) f=some none
theorem NoAttr.taker{K:L0}{C:Addr}{f:Str}(n:NoAttr K C f):PySem.W.takerIn K C f=some none:=by
 unfold PySem.W.takerIn;rw[show PySem.W.findIn K (.ref C) f=some none from n];rfl
structure Meth (K:L0) (C:Addr) (m:Str) (f:Addr):Prop where
 at_:PySem.W.findIn K (.ref C) m=some (some (.ref f))
 fn:PySem.W.isFn K (.ref f)=true
 kp:PySem.W.keepIn K (.ref f)=true
section
variable{X:Cx}{pins:L1}{Z:St}{H:Hp}{s:Shared}{a C dx:Addr}{fs:List (Str×V)}{f:Str}{v:V}{A:Around}{E:L4}
theorem A7{b:Bool}{Q:L4}(I:Inv X pins Z H s)(e:H a=some (.ins C dx fs))(c:Cls X.K C)(n:NoAttr X.K C f)(l:fs.lookup f=some v)
 (h:∀u s',Inv X pins Z H s'->RelV v u->Q u s'):wpAny (model X.prog X.w) A (getAttr (.ref a) f b) Q E s:=by
 obtain⟨g,O,r,_,_,_⟩:=pS I.hok e;obtain⟨u,i,d⟩:=RelO.some_of (v:=v) (o:=g f) (by rw[<-l];exact r f);exact MU I.kIn O (c.get f) c.hd n i (E1 d) (h u _ (I.tok _) d)
theorem qS{m:Str}{g:Addr}{pl:Sem Bool}{Q:Value×List Value->Shared->Prop}(I:Inv X pins Z H s)(e:H a=some (.ins C dx fs))(c:Cls X.K C)(k:Meth X.K C m g)(l:fs.lookup m=none)
 (h:Q (.ref g,[.ref a]) s):wpAny (model X.prog X.w) A (getMethod (.ref a) m pl) Q E s:=by
 obtain⟨b,O,r,_,_,_⟩:=pS I.hok e;have d:b m=none:=RelO.none_of (by rw[<-l];exact r m);exact JO I.kIn O (c.get m) k.at_ k.fn d h
theorem zV{y:V}{u:Value}{Q:Unit->Shared->Prop}(I:Inv X pins Z H s)(e:H a=some (.ins C dx fs))(c:Cls X.K C)(n:NoAttr X.K C f)(D:fs.length<1000)(m:RelV y u)
 (h:∀s',Inv X pins Z (upd H a (.ins C dx (gW f y fs))) s'->Q () s'):wpAny (model X.prog X.w) A (setAttr (.ref a) f u) Q E s:=by
 obtain⟨j,O,r,i,_,k⟩:=pS I.hok e;have p:(fs.map (·.1)).length<=sizeLine:=by rw[on,sizeLine_eq];omega
 refine LX I.kIn O c.sa c.po n.taker c.hd i p λh' d l=>h _ ?_;have hd:∃o,h'.get? dx=some o:=let ⟨o,_,_,B,_⟩:=d.ns;⟨o,B⟩
 refine I.write (x:=a) (e:=dx) (by rw[e];exact True.intro) (.inr k) (λb q v z=>(l.2 b v).trans z) hd ?_;refine⟨by rw[a7 O.ne];exact k,?_,O.ne,d.obj,_,d.ns,λg=>?_,λg t=>?_⟩
 ·have:=oX f y fs;omega
 · show RelO ((gW f y fs).lookup g) (if g=f then some u else j g);rw[oU];by_cases q:g=f
   ·rw[Xl q,Xl q];exact m
   ·rw[Xj q,Xj q];exact r g
 · by_cases q:g=f
   ·rw[q];exact(om f y fs).1
   ·refine(om f y fs).2 g (i g λz=>t ?_);show(if g=f then some u else j g)=none;rw[Xj q];exact z
theorem Inv.made(I:Inv X pins Z H s):Inv X pins Z (upd (upd H s.heap.objs.size (.own (s.heap.objs.size+1))) (s.heap.objs.size+1) (.ins C s.heap.objs.size []))
 {s with heap:=(s.heap.push PySem.W.emptyDict).push (PySem.W.instObj C s.heap.objs.size)}:=by
 have c:(s.heap.push PySem.W.emptyDict).get? s.heap.objs.size=some PySem.W.emptyDict:=XI s.heap rfl
 have h:((s.heap.push PySem.W.emptyDict).push (PySem.W.instObj C s.heap.objs.size)).get? (s.heap.objs.size+1)=some (PySem.W.instObj C s.heap.objs.size):=by
  have:=XI (s.heap.push PySem.W.emptyDict) (o:=PySem.W.instObj C s.heap.objs.size) rfl
  rwa [YZ]at this
 have g:(s.heap.push PySem.W.emptyDict).Ns s.heap.objs.size (λ_=>none):=⟨PySem.W.emptyDict,#[],_,c,rfl,(λe f=>absurd f (by simp)),λ_=>rfl⟩;have i:=I.laid (a:=s.heap.objs.size) (o:=.own (s.heap.objs.size+1)) (h':=s.heap.push PySem.W.emptyDict) (t':=s.toks) (λb u q=>Xq _ q) (XD _) ⟨_,c⟩;refine i.laid (a:=s.heap.objs.size+1) (o:=.ins C s.heap.objs.size []) (t':=s.toks) (λb u q=>Xq _ q) (Nat.le_of_eq (YZ _ _)) ?_;have ne:s.heap.objs.size≠s.heap.objs.size+1:=XN (Y3 _);refine⟨by rw[a7 ne,bj],YS _,ne,h,λ_=>none,(Heap.Ns1.of_empty g).at λo q=>Xq _ q,λ_=>True.intro,λy d=>absurd rfl d⟩
theorem Nd{prog:Program}{w:World}{env:Env}{e:Expr}{f:Str}{pos:Pos}{s:Shared}{Q:L4}(b:attributeBase e f env (eval e env)=eval e env)
 (h:wpAny (model prog w) A (eval e env) (λo a=>wpAny (model prog w) A (getAttr o f true) Q E a) E s):wpAny (model prog w) A (eval (.Attribute e f pos) env) Q E s:=
 Attribute_any_ h (by rw[arm_eval_Attribute,b])
end
def Ek(K:L0)(b:TE)(f:Str):TE:=λZ H Q=>b Z H λx H1=>∃a C dx fs v,x=.ref a/\H1 a=some (.ins C dx fs)/\Cls K C/\NoAttr K C f/\fs.lookup f=some v/\Q v H1
def L7(K:L0)(d c:TE)(f:Str):TS:=λD Z H=>c Z H λy H1=>d Z H1 λx b=>∃a C dx fs,x=.ref a/\b a=some (.ins C dx fs)/\Cls K C/\NoAttr K C f/\fs.length<1000/\
 D.nx Z (upd b a (.ins C dx (gW f y fs)))
section
variable{X:Cx}{o e value:Expr}{f:Str}{pos pos' tpos:Pos}{ta tv:TE}
theorem P4(i:PE X e ta)(j:attributeBase e f X.env (eval e X.env)=eval e X.env):PE X (.Attribute e f pos) (Ek X.K ta f):=by
 intro b s Z H Q I h;refine Nd j (cQ (i b s Z H _ I h) λu r ⟨x,H1,o,d,a,C,dx,fs,v,ex,k,c,n,l,q⟩=>?_);subst ex;obtain rfl:u=Value.ref a:=d;exact A7 o k c n l λp s2 m g=>⟨v,H1,m,g,q⟩
theorem qu(m:PE X o ta)(j:PE X value tv)(k:swapsWith value (some (.Attribute o f pos')) pos.line X.env=pure false):PS X (.Assign [.Attribute o f pos'] value pos) (L7 X.K ta tv f):=by
 intro b s Z H D I h;refine plainObj_wpAny_Assign_Attribute (cQ (j b s Z H _ I h) λu d ⟨y,H1,v,e,q⟩=>cQ (m b d Z H1 _ v q) λov s2 ⟨x,z,t,g,a,C,dx,fs,ex,p,c,n,l,i⟩=>?_) k;subst ex;obtain rfl:ov=Value.ref a:=g;exact zV t p c n l e λw r=>⟨Z,_,r,i⟩
end
section
variable{X:Cx}{pins:L1}{Z:St}{H:Hp}{s:Shared}{A:Around}{E:L4}{Q:L4}{c:Value}{b:Bool}
inductive TyOf (K:L0) (H:Hp):V->Value->Prop where
 |non:TyOf K H .non (.type "NoneType")
 |bl (x:Bool):TyOf K H (.bl x) (.type "bool")
 |int (i:Int):TyOf K H (.int i) (.type "int")
 |str (x:Str):TyOf K H (.str x) (.type "str")
 |flt (x:UInt64):TyOf K H (.flt x) (.type "float")
 |lst {a:Addr} {xs:List V} (e:H a=some (.lst xs)):TyOf K H (.ref a) (.type "list")
 |frz {a:Addr} {o:Obj} {xs:List V} (e:H a=some (.frz o (.lst xs))):TyOf K H (.ref a) (.type "list")
 |tup {a:Addr} {xs:List V} (e:H a=some (.tup xs)):TyOf K H (.ref a) (.type "tuple")
 |dK {a:Addr} {kvs:List (c9×V)} (e:H a=some (.dK kvs)):TyOf K H (.ref a) (.type "dict")
 |dT {a:Addr} {kvs:List (List c9×V)} (e:H a=some (.dT kvs)):TyOf K H (.ref a) (.type "dict")
 | ins {a C dx:Addr} {fs:List (Str×V)} (e:H a=some (.ins C dx fs)) (cl:Cls K C) (ha:PySem.W.findIn K (.ref C) "__class__" = some (some (.builtin "object.__class__")))
    (hn:PySem.W.specialIn K (.builtin "object.__class__") "__get__" = some (some (.builtin "getset_descriptor.__get__"))) (htk:PySem.W.takesIn K (.builtin "object.__class__")=some true)
    (hm:PySem.W.mroIn K C (.type "object")=some true):TyOf K H (.ref a) (.ref C)
theorem ET{x:V}{u t:Value}(I:Inv X pins Z H s)(d:RelV x u)(ty:TyOf X.K H x t)(e:PySem.W.kitOne X.K t c=some b)(h:∀r,Q (.bool b) {s with toks:=r}):
 wpAny (model X.prog X.w) A (call (.builtin "isinstance") [u,c]) Q E s:=by
 cases ty with
 |non=>cases(show u=Value.none from d);exact Yb PySem.W.kitx_none I.kIn True.intro e (λz=>nomatch z) h
 |bl y=>cases(show u=Value.bool y from d);exact Yb PySem.W.kitx_bool I.kIn True.intro e (λz=>nomatch z) h
 |int i=>obtain⟨t,q⟩:=(show ∃t,u=Value.int i t from d);cases q;exact Yb PySem.W.kitx_int I.kIn True.intro e (λz=>nomatch z) h
 |str y=>obtain⟨t,q⟩:=(show ∃t,u=Value.str y t from d);cases q;exact Yb PySem.W.kitx_str I.kIn True.intro e (λz=>nomatch z) h
 |flt y=>obtain⟨t,q⟩:=(show ∃t,u=Value.float y t from d);cases q;exact Yb PySem.W.kitx_float I.kIn True.intro e (λz=>nomatch z) h
 |@lst a xs f=>
   cases(show u=Value.ref a from d);obtain⟨_,_,n,_,g⟩:=(show ObjOk X.prog X.w H s.heap a (.lst xs) from I.hok a _ f);exact Yb PySem.W.kitx_list I.kIn ⟨_,g,rfl⟩ e (λz=>nomatch z) h
 |@frz a ob xs f=>
   cases(show u=Value.ref a from d);obtain⟨_,_,_,n,_,g⟩:=(show ObjOk X.prog X.w H s.heap a (.frz ob (.lst xs)) from I.hok a _ f);exact Yb PySem.W.kitx_list I.kIn ⟨_,g,rfl⟩ e (λz=>nomatch z) h
 |@tup a xs f=>
   cases(show u=Value.ref a from d);obtain⟨_,_,_,p⟩:=(show ObjOk X.prog X.w H s.heap a (.tup xs) from I.hok a _ f);obtain⟨o,g,k,_⟩:=p;exact Yb PySem.W.kitx_tuple I.kIn ⟨o,g,k⟩ e (λz=>nomatch z) h
 |@dK a j f=>
   cases(show u=Value.ref a from d);obtain⟨_,_,vs,_,p⟩:=(show ObjOk X.prog X.w H s.heap a (.dK j) from I.hok a _ f);obtain⟨o,F,G,g,k,_⟩:=p;exact Yb PySem.W.kitx_dict I.kIn ⟨o,g,k.1⟩ e (λz=>nomatch z) h
 |@dT a j f=>
   cases(show u=Value.ref a from d);obtain⟨_,_,xs,_,o,F,G,g,k,_⟩:=(show ObjOk X.prog X.w H s.heap a (.dT j) from I.hok a _ f);exact Yb PySem.W.kitx_dict I.kIn ⟨o,g,k.1⟩ e (λz=>nomatch z) h
 |@ins a C dx fs f m D v l B=>
   cases(show u=Value.ref a from d);obtain⟨M,O,_⟩:=pS I.hok f;obtain⟨L,J,_⟩:=O.look;exact Yb (PySem.W.kitx_own (m.get _) m.hd D v l B) I.kIn J e (λz=>nomatch z) h
end
structure Room (k:Nat) (A:Around):Prop where
 hd:A.handled=none
 dp:A.depth+3*k+5<recursionLimit
 un:A.units+16*k+200<cLine
theorem Room.mono{j k:Nat}{A:Around}(r:Room k A)(h:j<=k):Room j A:=⟨r.hd,by have:=r.dp;omega,by have:=r.un;omega⟩
theorem Room.deeper{k:Nat}{A:Around}(r:Room (k+1) A)(env:Env):Room k (A.deeper env):=
 ⟨r.hd,by have:=r.dp;show A.depth+1+3*k+5<_;omega,by have:=r.un;show A.units+3+16*k+200<_;omega⟩
theorem AU{A:Around}{C:Addr}{us:List Value}{a:List (Str×Value)}:(A.under (.builtin "type.__call__" ⟨.ref C::us,a⟩)).depth=A.depth+1:=by
 first | rfl | simp[Around.under,Code.weight,Code.isCreation,Code.isGuard,Code.isCaller,Code.frames,Code.isFrame,guardIds]
theorem AT{A:Around}{C:Addr}{us:List Value}{a:List (Str×Value)}:(A.under (.builtin "type.__call__" ⟨.ref C::us,a⟩)).units=A.units+1:=by
 first | rfl | simp[Around.under,Code.cUnits,Code.frames,Code.isFrame]
theorem Room.make{k:Nat}{A:Around}(r:Room (k+1) A)(C:Addr)(us:List Value)(a:List (Str×Value)):Room k (A.under (.builtin "type.__call__" ⟨.ref C::us,a⟩)):=
 ⟨r.hd,by have:=r.dp;rw[AU];omega,by have:=r.un;rw[AT];omega⟩
theorem Room.depth{k:Nat}{A:Around}(r:Room k A):A.depth<recursionLimit:=by have:=r.dp;omega
theorem Room.units{k:Nat}{A:Around}(r:Room k A):A.units+64<cLine:=by have:=r.un;omega
def dW:TA:=λ_ H Q=>Q [] H
def b6(b:TE)(a:TA):TA:=λZ H Q=>b Z H λx H1=>a Z H1 λxs c=>Q (x::xs) c
section
variable{X:Cx}{e:Expr}{es:List Expr}{te:TE}{t:TA}{pos:Pos}
theorem ac:PA X [] dW:=λ_ _ _ _ H Q I h=>Zy ⟨[],H,I,.nil,h⟩
theorem aa(k:PE X e te)(j:PA X es t)(i:starEach (e::es) X.env=(false,eval e X.env)::starEach es X.env:=by rfl):PA X (e::es) (b6 te t):=by
 intro pos a s Z H Q I h;rw[i];show wpAny _ _ (spliced ((false,eval e X.env)::backTo pos (starEach es X.env))) _ _ s;refine Za (cQ (k a s Z H _ I h) λu b ⟨x,H1,m,d,g⟩=>?_);exact cQ (j pos a b Z H1 _ m g) λus s2 ⟨xs,n,l,c,f⟩=>⟨x::xs,n,l,.cons d c,f⟩
def Tc(t:TA):TE:=λZ H Q=>t Z H λxs H1=>xs.length<=sizeLine/\∀p,H1 p=none->Q (.ref p) (upd H1 p (.tup xs))
def LA(t:TA):TE:=λZ H Q=>t Z H λxs H1=>xs.length<=sizeLine/\∀p,H1 p=none->Q (.ref p) (upd H1 p (.lst xs))
theorem cT{f}(h:PA X es t):PE X (.Tuple es f pos) (Tc t):=by
 intro a s Z H Q I g;refine wpAny_Tuple_spliced (cQ (h pos a s Z H _ I g) λus c ⟨xs,H1,d,r,z,q⟩=>⟨by rw[<-r.length];exact z,?_⟩);have i:H1 c.heap.objs.size=none:=d.hok.fresh (XD _);refine⟨.ref c.heap.objs.size,upd H1 c.heap.objs.size (.tup xs),d.laid (t':=c.toks) (λb u e=>Xq _ e) (XD _) ?_,rfl,q _ i⟩;exact⟨z,us,r,⟨_,XI _ rfl,rfl,_,rfl⟩⟩
theorem bQ(h:PA X es t):PE X (.List es pos) (LA t):=by
 intro a s Z H Q I f;refine wpAny_List_spliced (cQ (h pos a s Z H _ I f) λus c ⟨xs,H1,d,r,z,q⟩=>⟨by rw[<-r.length];exact z,?_⟩);have g:H1 c.heap.objs.size=none:=d.hok.fresh (XD _);refine⟨.ref c.heap.objs.size,upd H1 c.heap.objs.size (.lst xs),d.laid (t':=c.toks) (λb u e=>Xq _ e) (XD _) ?_,rfl,q _ g⟩;exact⟨z,us,0,r,XI _ rfl⟩
end
abbrev Sp:=List V->Hp->VK->XK->Prop
abbrev BQ:=List Env->Hp->Shared->XK->Value->Shared->Prop
structure Env0 (P:Program) (w:World) (K:L0) (mg:Str->Option Value) (base:Heap) (A:Around) (outer:List Env) (s:Shared) (H:Hp):Prop where
 frames:A.frames=some outer
 mod:Mod K mg base
 bs:∀b o,base.get? b=some o->s.heap.get? b=some o/\H b=none
 bsz:base.objs.size<=s.heap.objs.size
 funs:s.heap.FunFrames base outer
 frf:∀b∈lc outer,H b=none
 hok:HOk P w H s.heap
 bare:AllBare s.gens
def CE(outer:List Env)(P:Program)(w:World)(H:Hp)(s:Shared)(Q:VK)(u:Value)(s':Shared):Prop:=
 ∃v H',s'.os=s.os/\AllBare s'.gens/\Un (lc outer) [] H H' s.heap s'.heap/\HOk P w H' s'.heap/\RelV v u/\Q v H'
def CR(CX:BQ)(outer:List Env)(P:Program)(w:World)(H:Hp)(s:Shared)(Q:VK)(E:XK)(r:Result)(s':Shared):Prop:=
 match r with
 |.ok (.ret u)=>CE outer P w H s Q u s'
 |.ok _=>False
 |.error e=>CX outer H s E e s'
structure FnOk (P:Program) (w:World) (K:L0) (mg:Str->Option Value) (base:Heap) (CX:BQ) (k:Nat) (f:Addr) (fd:FuncData) (ps:List Str) (sp:Sp):Prop where
 len:∀vs H Q E,sp vs H Q E->vs.length=ps.length
 run:∀(A:Around) (outer:List Env) (s:Shared) (H:Hp) (args:Args) (us:List Value) (vs:List V) (Q:VK) (E:XK),Room k A->Env0 P w K mg base A outer s H->BindsTo s fd args (ps.zip us)->Vals vs us->sp vs H Q E->
  codeAny (model P w) A (.call (.ref f) args) (CR CX outer P w H s Q E) s
theorem FnOk.imp{P:Program}{w:World}{K:L0}{mg:Str->Option Value}{base:Heap}{CX:BQ}{k:Nat}{f:Addr}{fd:FuncData}{ps:List Str}{sp a:Sp}(F:FnOk P w K mg base CX k f fd ps sp)
 (h:∀vs H Q E,a vs H Q E->sp vs H Q E):FnOk P w K mg base CX k f fd ps a:=
 ⟨λvs H Q E q=>F.len vs H Q E (h _ _ _ _ q),λA outer s H args us vs Q E d e g b c=>F.run A outer s H args us vs Q E d e g b (h _ _ _ _ c)⟩
theorem Env0.make{P:Program}{w:World}{K:L0}{mg:Str->Option Value}{base:Heap}{A:Around}{outer:List Env}{s:Shared}{H:Hp}(e:Env0 P w K mg base A outer s H)(C:Addr)(us:List Value)(a:List (Str×Value)):
 Env0 P w K mg base (A.under (.builtin "type.__call__" ⟨.ref C::us,a⟩)) outer s H:=⟨by first | exact e.frames | (simpa [Around.under,Code.envs,Code.isFrame,pushEnvs] using e.frames),e.mod,e.bs,e.bsz,e.funs,e.frf,e.hok,e.bare⟩
section
variable{X:Cx}{pins:L1}{Z:St}{H:Hp}{s s':Shared}
theorem Inv.env0(I:Inv X pins Z H s):Env0 X.prog X.w X.K X.mg X.base X.A X.stack s H:=
 ⟨I.ok.frames,I.ok.mod,I.bs,XY I.ok.bsz I.sz,I.stack,I.stkFree,I.hok,I.bare⟩
theorem Inv.after{Q:VK}{u:Value}(I:Inv X pins Z H s)(h:CE X.stack X.prog X.w H s Q u s'):EP X pins Z Q u s':=by
 obtain⟨v,H',os,bare,un,hok,r,q⟩:=h;obtain⟨c,g,d,t,a⟩:=s';obtain rfl:a=s.os:=os;exact⟨v,H',I.call (h':=c) (g':=g) (d':=d) (t':=t) (ch:=[]) un hok bare (λb z=>absurd z (by simp)),r,q⟩
end
def tO(sp:Sp)(a:List V)(E:XK)(t:TA):TE:=λZ H Q=>t Z H λvs H1=>sp (vs++a) H1 Q E
def qb(C:Addr)(m:Str)(sp:Sp)(b:List V)(E:XK)(c:TE)(t:TA):TE:=λZ H Q=>c Z H λx H1=>∃a dx fs,x=.ref a/\H1 a=some (.ins C dx fs)/\fs.lookup m=none/\
 t Z H1 λvs d=>sp (x::(vs++b)) d Q E
def FJ(C:Addr)(sp:Sp)(a:List V)(E:XK)(t:TA):TE:=λZ H Q=>t Z H λvs H1=>∀x dx,H1 x=none->H1 dx=none->dx≠x->
 sp (.ref x::(vs++a)) (upd (upd H1 dx (.own x)) x (.ins C dx [])) (λv b=>v=.non/\Q (.ref x) b) E
def Binds(K:L0)(fd:FuncData)(ps:List Str)(ds:List Value):Prop:=
 ∀(s:Shared) (us:List Value),K.In s.heap->(us++ds).length=ps.length->BindsTo s fd ⟨us,[]⟩ (ps.zip (us++ds))
theorem Binds.all{K:L0}{fd:FuncData}{ps:List Str}(h:∀us:List Value,us.length=ps.length->bindArgs fd ⟨us,[]⟩=pure (ps.zip us)):Binds K fd ps []:=λs us _ a=>by
 rw[XZ]at a ⊢;exact .of_eq (h us a)
def jP(CX:BQ)(X:Cx)(E:XK):Prop:=∀(a:L1) (Z:St) (H:Hp) (s:Shared) (e:Value) (s':Shared),Inv X a Z H s->CX X.stack H s E e s'->X.xe e s'
section
variable{X:Cx}{CX:BQ}{k:Nat}{f C:Addr}{fd:FuncData}{ps:List Str}{sp:Sp}{dvs:List V}{ds:List Value}{E:XK}{x m:Str}{p pos apos:Pos}{e o:Expr}{es:List Expr}{ta:TE}{t:TA}
theorem z7{a:L1}{Z:St}{H:Hp}{s:Shared}{Q:VK}{us:List Value}{vs:List V}(F:FnOk X.prog X.w X.K X.mg X.base CX k f fd ps sp)(g:Room k X.A)(j:Binds X.K fd ps ds)(hd:Vals dvs ds)(d:jP CX X E)
 (I:Inv X a Z H s) (r:Vals vs us) (h:sp (vs++dvs) H Q E):wpAny (model X.prog X.w) X.A (call (.ref f) us) (EP X a Z Q) X.xe s:=by
 have c:Vals (vs++dvs) (us++ds):=r.append hd;have i:(us++ds).length=ps.length:=by rw[<-c.length];exact F.len _ _ _ _ h
 refine wpAny_call (Ze (F.run X.A X.stack s H ⟨us,[]⟩ (us++ds) (vs++dvs) Q E g I.env0 (j s us I.kIn i) c h) λr s' b=>?_);cases r with
 |error e=>exact d a Z H s e s' I b
 |ok l=>
   cases l with
   |ret u=>exact I.after b
   |next=>exact False.elim b
   |brk=>exact False.elim b
   |cont=>exact False.elim b
theorem az(F:FnOk X.prog X.w X.K X.mg X.base CX k f fd ps sp)(i:Room k X.A)(m:Gl X x)(j:X.mg x=some (.ref f))(l:PySem.W.keepIn X.K (.ref f)=true)(o:Binds X.K fd ps ds)(hd:Vals dvs ds)(g:jP CX X E)
 (u:PA X (e::es) t) (c:(x==("__debug__" : Str))=false:=by decide) (n:starEach (e::es) X.env=(false,eval e X.env)::starEach es X.env:=by rfl) (b:(backTo pos (starEach es X.env)).any (·.1)=false:=by rfl):
 PE X (.Call (.Name x p) (e::es) [] pos) (tO sp dvs E t):=by
 intro a s Z H Q I h;refine YH (kZ I m j ?_ c);refine Zb (h₀:=X.base) I.ok.mod.kin l (cQ (u pos a s Z H _ I h) λus v ⟨vs,H1,d,r,q⟩=>⟨d.kIn,?_⟩) n b;exact z7 F i o hd g d r q
theorem cz{pl:Sem Bool}(G:PE X o ta)(c:Cls X.K C)(i:Meth X.K C m f)(F:FnOk X.prog X.w X.K X.mg X.base CX k f fd ps sp)(D:Room k X.A)(J:Binds X.K fd ps ds)(hd:Vals dvs ds)(z:jP CX X E)(L:PA X (e::es) t)
 (d:starEach (e::es) X.env=(false,eval e X.env)::starEach es X.env:=by rfl) (g:(backTo pos (starEach es X.env)).any (·.1)=false:=by rfl)
 (B:eval (.Call (.Attribute o m apos) (e::es) [] pos) X.env=(do
   let ov <-eval o X.env
   standAt apos.atName
   let (f,first) <-holding [ov] (getMethod ov m pl)
   callWith pos f first (backTo pos (starEach (e::es) X.env)) (backToKw pos (keywordEach [] X.env))):=by rfl):
 PE X (.Call (.Attribute o m apos) (e::es) [] pos) (qb C m sp dvs E ta t):=by
 intro b s Z H Q I h;refine Z2 (pl:=pl) (cQ (G b s Z H _ I h) λu p ⟨x,H1,n,v,a,dx,fs,ex,M,l,q⟩=>?_) B;subst ex;obtain rfl:u=Value.ref a:=v;refine qS n M c i l ?_;refine Zb (first:=[.ref a]) (h₀:=X.base) I.ok.mod.kin i.kp (cQ (L pos b p Z H1 _ n q) λus s2 ⟨vs,N,j,r,y⟩=>⟨j.kIn,?_⟩) d g;exact z7 (us:=.ref a::us) (vs:=.ref a::vs) F D J hd z j (.cons rfl r) y
theorem mZ{pl:Sem Bool}(p:PE X o ta)(c:Cls X.K C)(e:Meth X.K C m f)(F:FnOk X.prog X.w X.K X.mg X.base CX k f fd ps sp)(n:Room k X.A)(r:Binds X.K fd ps ds)(hd:Vals dvs ds)(i:jP CX X E)
 (j:eval (.Call (.Attribute o m apos) [] [] pos) X.env=(do
   let ov <-eval o X.env
   standAt apos.atName
   let (f,first) <-holding [ov] (getMethod ov m pl)
   callWith pos f first (backTo pos (starEach [] X.env)) (backToKw pos (keywordEach [] X.env))):=by rfl):
 PE X (.Call (.Attribute o m apos) [] [] pos) (qb C m sp dvs E ta dW):=by
 intro b s Z H Q I h;refine Z2 (pl:=pl) (cQ (p b s Z H _ I h) λu v ⟨x,H1,d,g,a,dx,fs,ex,t,l,q⟩=>?_) j;subst ex;obtain rfl:u=Value.ref a:=g;refine qS d t c e l ?_;exact PySem.W.callWith_K0 (first:=[.ref a]) d.kIn e.kp (z7 (us:=[.ref a]) (vs:=[.ref a]) F n r hd i d (.cons rfl .nil) q)
structure Mk (K:L0) (C f:Addr):Prop where
 makes:PySem.W.makesIn K C=true
 init:PySem.W.findIn K (.ref C) "__init__" = some (some (.ref f))
 fn:PySem.W.isFn K (.ref f)=true
 kp:PySem.W.keepIn K (.ref C)=true
theorem GA{a:L1}{Z:St}{H:Hp}{s:Shared}{Q:VK}{us:List Value}{vs:List V}(M:Mk X.K C f)(F:FnOk X.prog X.w X.K X.mg X.base CX k f fd ps sp)(m:Room (k+1) X.A)(o:Binds X.K fd ps ds)(hd:Vals dvs ds)
 (l:jP CX X E) (I:Inv X a Z H s) (r:Vals vs us)
 (h:∀x dx,H x=none->H dx=none->dx≠x->sp (.ref x::(vs++dvs)) (upd (upd H dx (.own x)) x (.ins C dx [])) (λv y=>v=.non/\Q (.ref x) y) E):
 wpAny (model X.prog X.w) X.A (call (.ref C) us) (EP X a Z Q) X.xe s:=by
 have g:=h (s.heap.objs.size+1) s.heap.objs.size (I.hok.fresh (Nat.le_succ _)) (I.hok.fresh (XD _)) (XN (Y3 _));have c:=Inv.made (C:=C) I;have d:Vals (V.ref (s.heap.objs.size+1)::(vs++dvs)) (Value.ref (s.heap.objs.size+1)::(us++ds)):=.cons rfl (r.append hd)
 have n:(Value.ref (s.heap.objs.size+1)::us++ds).length=ps.length:=by
  have e:=d.length;rw[F.len _ _ _ _ g]at e;exact e.symm
 refine wpAny_call (I9 (f:=f) I.kIn M.makes M.init (Zl.mp M.fn) (Ze (F.run _ X.stack _ _ ⟨Value.ref (s.heap.objs.size+1)::us,[]⟩ (Value.ref (s.heap.objs.size+1)::(us++ds)) _ _ E (m.make C us [])
  (c.env0.make C us []) (o _ (Value.ref (s.heap.objs.size+1)::us) c.kIn n) d g) λr s' b=>?_))
 cases r with
 |error e=>exact l a Z _ _ e s' c b
 |ok p=>
   cases p with
   |ret u=>
     obtain⟨v,H',t,i,q,j⟩:=c.after b;subst q;exact⟨i,⟨V.ref (s.heap.objs.size+1),H',t,rfl,j⟩⟩
   |next=>exact False.elim b
   |brk=>exact False.elim b
   |cont=>exact False.elim b
theorem CI(M:Mk X.K C f)(F:FnOk X.prog X.w X.K X.mg X.base CX k f fd ps sp)(i:Room (k+1) X.A)(l:Gl X x)(j:X.mg x=some (.ref C))(n:Binds X.K fd ps ds)(hd:Vals dvs ds)(g:jP CX X E)
 (o:PA X (e::es) t) (c:(x==("__debug__" : Str))=false:=by decide) (m:starEach (e::es) X.env=(false,eval e X.env)::starEach es X.env:=by rfl) (b:(backTo pos (starEach es X.env)).any (·.1)=false:=by rfl):
 PE X (.Call (.Name x p) (e::es) [] pos) (FJ C sp dvs E t):=by
 intro a s Z H Q I h;refine YH (kZ I l j ?_ c);refine Zb (h₀:=X.base) I.ok.mod.kin M.kp (cQ (o pos a s Z H _ I h) λus u ⟨vs,H1,d,r,q⟩=>⟨d.kIn,?_⟩) m b;exact GA M F i n hd g d r q
end
def PK(X:Cx)(b:List Keyword)(t:TA):Prop:=
 ∀(pos:Pos) (a:L1) (s:Shared) (Z:St) (H:Hp) (Q:List V->Hp->Prop),Inv X a Z H s->t Z H Q->wpAny (model X.prog X.w) X.A (evalAll ((backToKw pos (keywordEach b X.env)).map (·.2))) (AP X a Z Q) X.xe s
section
variable{X:Cx}{CX:BQ}{k:Nat}{f C:Addr}{fd:FuncData}{ps ks:List Str}{sp:Sp}{E:XK}{x m:Str}{p pos apos kpos:Pos}{e o:Expr}{es:List Expr}{kws:List Keyword}{te ta:TE}{t tk:TA}{nm:Option Str}
theorem Ad:PK X [] dW:=λ_ _ _ _ H Q I h=>wpAny_evalAll_nil ⟨[],H,I,.nil,h⟩
theorem vh(j:PE X e te)(i:PK X kws t):PK X (⟨nm,e,kpos⟩::kws) (b6 te t):=by
 intro pos a s Z H Q I h;show wpAny _ _ (evalAll ((do let v <-eval e X.env;standAt pos;pure v)::(backToKw pos (keywordEach kws X.env)).map (·.2))) _ _ s;refine wpAny_evalAll_cons (Xn (cQ (j a s Z H _ I h) λu b ⟨x,H1,l,d,g⟩=>Xn (wpAny_standAt (XC ?_))));exact cQ (i pos a b Z H1 _ l g) λus s2 ⟨xs,m,k,c,f⟩=>⟨x::xs,m,k,.cons d c,f⟩
variable{g:List Value->List Value->List Value}{gV:List V->List V->List V}
end
structure FnScope (N P:List Str) (sc:Scope):Prop where
 kind:sc.kind=.function
 co:sc.isCoroutine=false
 gen:sc.isGenerator=false
 nd:N.Nodup
 pre:N.take P.length=P
 par:∀x∈P,sc.names.lookup x=some .local\/sc.names.lookup x=some .cell
 nofree:∀y∈sc.names,y.2≠ .free
theorem uC{kindOf:Str->Option NameKind}{x:Str}:∀{binds:List (Str×Value)} {m:Str->Option Value},(∀v,(x,v)∉binds)->bindL kindOf binds m x=m x
 |[],_,_=>rfl
 | (n,v)::r,m,h=>by
   unfold bindL;rw[uC λw a=>h w (List.mem_cons_of_mem _ a)];split
   · have:x≠n:=by rintro rfl;exact h v Xk
     simp[this]
   ·rfl
theorem uE{kindOf:Str->Option NameKind}{x:Str}:∀{binds:List (Str×Value)} {m:Str->Option Value},(∀v,(x,v)∉binds)->bindC kindOf binds m x=m x
 |[],_,_=>rfl
 | (n,v)::r,m,h=>by
   unfold bindC;rw[uE λw a=>h w (List.mem_cons_of_mem _ a)];split
   ·rfl
   · have:x≠n:=by rintro rfl;exact h v Xk
     simp[this]
theorem uD{kindOf:Str->Option NameKind}{x:Str}{v:Value}:∀{P:List Str} {vs:List Value} {i:Nat} {m:Str->Option Value},P.Nodup->P[i]?=some x->vs[i]?=some v->kindOf x=some .local->
 bindL kindOf (P.zip vs) m x=some v
 |[],_,_,_,_,h,_,_=>by simp at h
 |_::_,[],_,_,_,_,h,_=>by simp at h
 | p::P,w::vs,0,m,nd,b,a,c=>by
   simp at b a;subst b;subst a;show bindL kindOf ((p,w)::P.zip vs) m p=_;unfold bindL;rw[uC λv d=>(List.nodup_cons.mp nd).1 (List.of_mem_zip d).1,if_pos c];simp
 | p::P,w::vs,i+1,m,nd,b,a,c=>by
   show bindL kindOf ((p,w)::P.zip vs) m x=_;unfold bindL;exact uD (i:=i) (List.nodup_cons.mp nd).2 (by simpa using b) (by simpa using a) c
theorem uF{kindOf:Str->Option NameKind}{x:Str}{v:Value}:∀{P:List Str} {vs:List Value} {i:Nat} {m:Str->Option Value},P.Nodup->P[i]?=some x->vs[i]?=some v->kindOf x≠some .local->
 bindC kindOf (P.zip vs) m x=some v
 |[],_,_,_,_,h,_,_=>by simp at h
 |_::_,[],_,_,_,_,h,_=>by simp at h
 | p::P,w::vs,0,m,nd,b,a,c=>by
   simp at b a;subst b;subst a;show bindC kindOf ((p,w)::P.zip vs) m p=_;unfold bindC;rw[uE λv d=>(List.nodup_cons.mp nd).1 (List.of_mem_zip d).1,if_neg c];simp
 | p::P,w::vs,i+1,m,nd,b,a,c=>by
   show bindC kindOf ((p,w)::P.zip vs) m x=_;unfold bindC;exact uF (i:=i) (List.nodup_cons.mp nd).2 (by simpa using b) (by simpa using a) c
def jQ(N:List Str)(vs:List V):St:=vs.map some++List.replicate (N.length-vs.length) none
def re(CX:BQ)(P:Program)(w:World)(K:L0)(mg:Str->Option Value)(base:Heap)(N:List Str)(qual:Str)(scope:Scope)(f:Addr)(b:Value)(A:Around)(outer:List Env)(s:Shared)(H:Hp)(E:XK):Cx where
 prog:=P
 w:=w
 K:=K
 mg:=mg
 base:=base
 A:=A.deeper (envOfC qual scope s.heap.objs.size f b)
 N:=N
 s₀:=s
 H₀:=H
 env:=envOfC qual scope s.heap.objs.size f b
 outer:=outer
 stack:=envOfC qual scope s.heap.objs.size f b::outer
 ex:=[]
 calm:=true
 fn:=λ_=>true
 pn:=[]
 xe:=λe s'=>wpAny (model P w) (A.deeper (envOfC qual scope s.heap.objs.size f b)) («leaving» (envOfC qual scope s.heap.objs.size f b) e) (λ_ a=>CX outer H s E e a) (λc a=>CX outer H s E c a) s'
theorem zq{sc:Scope}{n:Nat}{x:Str}(h:sc.names.lookup x=some .cell):∃c,(cellsFrom n sc.names []).lookup x=some c:=by
 have q:=ZQ sc.names n [] (.inl h);exact ZE.mp q
theorem EV{CX:BQ}{P:Program}{w:World}{K:L0}{mg:Str->Option Value}{base:Heap}{N ps:List Str}{qual:Str}{scope:Scope}{f:Addr}{t:Value}{A:Around}{outer:List Env}{s B:Shared}{H:Hp}{E:XK}{us:List Value}{vs:List V}
 (S:FnScope N ps scope) (hd:A.handled=none) (g:Env0 P w K mg base A outer s H) (L:vs.length=ps.length) (r:Vals vs us)
 (x:InCallC s s.heap.objs.size (bindL (envOfC qual scope s.heap.objs.size f t).kindOf (ps.zip us) λ_=>none) (cellsFrom (s.heap.objs.size+1) scope.names []) (bindC (envOfC qual scope s.heap.objs.size f t).kindOf (ps.zip us) λ_=>none) B):
 Inv (re CX P w K mg base N qual scope f t A outer s H E) [] (jQ N vs) H B:=by
 have G:ps.length<=N.length:=by have:=congrArg List.length S.pre;rw[Y4]at this;omega
 obtain⟨o,J,rfl,D⟩:=x.done;have j:∀b:Addr,b∉(re CX P w K mg base N qual scope f t A outer s H E).ex:=λb z=>absurd (show b∈([]:List Addr) from z) (by simp)
 refine⟨⟨g.mod,S.kind,rfl,rfl,XD _,λy z c o d=>?_,λy l=>?_,λy c _ h=>?_,λ_=>hd,Around.frames_deeper g.frames,.inr ⟨rfl,rfl⟩,λb z=>absurd z (j b),g.bs,g.bsz,λb _ _=>j b,λb z=>absurd z (j b),g.funs,g.frf⟩,
  rfl,g.bare,Un.kept D,⟨_,x.toInCall.ns,λi y v o d M=>?_⟩,λy c h=>⟨_,x.cell y c h⟩,g.hok.fresh (XD _),λy c h=>?_,λp hp=>absurd (show p∈([]:L1) from hp) (by simp),g.hok.kept D,?_⟩
 ·exact name_of_addr x.apart (YA o) (YA d)
 · have l:scope.names.lookup y=some .cell\/scope.names.lookup y=some .free:=l;rcases l with l|l
   ·exact zq l
   ·exact absurd rfl (S.nofree _ (YA l))
 ·exact X4 (x.above y c (YA h))
 · have hi:i<vs.length:=by
    unfold jQ at d;by_cases hi:i<vs.length
    ·exact hi
    ·rw[Yi (by simpa using hi)]at d;rw[Zc]at d;split at d<;>cases d
   have I:vs[i]?=some v:=by
    unfold jQ at d;rw[List.getElem?_append_left (by simpa using hi),List.getElem?_map]at d;cases e:vs[i]? with
    |none=>rw[e]at d;cases d
    |some a=>rw[e]at d;cases d;rfl
   obtain⟨u,C,F⟩:=r.get I
   have hp:ps[i]?=some y:=by
    rw[<-S.pre,List.getElem?_take_of_lt (by omega)];exact o
   have m:ps.Nodup:=by rw[<-S.pre];exact S.nd.sublist (List.take_sublist _ _)
   refine⟨u,F,?_⟩;rcases S.par y (Yv hp) with k|k
   ·exact .inl ⟨k,uD m hp C k⟩
   ·obtain⟨c,e⟩:=zq (n:=s.heap.objs.size+1) k;refine .inr ⟨.inl k,c,e,?_⟩;have q:=x.cell y c e;rw[uF m hp C (by show scope.names.lookup y≠_;rw[k];decide)]at q;exact q
 ·exact g.hok.fresh (X4 (x.above y c (YA h)))
 ·unfold jQ;show _=N.length;rw[List.length_append,List.length_map,List.length_replicate];omega
theorem fn_of{CX:BQ}{P:Program}{w:World}{K:L0}{mg:Str->Option Value}{base:Heap}{k:Nat}{f:Addr}{name qual:Str}{c:Arguments}{body:List Stmt}{scope:Scope}{L kV p pm a ct oc:Value}{an O:Option Addr}
 {B:Array (Option Value)} {N ps:List Str} {sp:Sp} (lk:K.lookup f=some ⟨oc,O,.func (PySem.W.fnOf name qual c body scope L kV p pm an a ct),B⟩) (F:PySem.W.codeIn K a qual=true) (S:FnScope N ps scope)
 (len:∀vs H Q E,sp vs H Q E->vs.length=ps.length)
 (h:∀(A:Around) (outer:List Env) (s:Shared) (H:Hp) (vs:List V) (Q:VK) (E:XK),Room k (A.deeper (envOfC qual scope s.heap.objs.size f a))->sp vs H Q E->
   ∃t,Ld (re CX P w K mg base N qual scope f a A outer s H E) body t/\t {nx:=λ_ H'=>Q .non H',rt:=Q} (jQ N vs) H):
 FnOk P w K mg base CX (k+1) f (PySem.W.fnOf name qual c body scope L kV p pm an a ct) ps sp:=by
 refine⟨len,λA outer s H args us vs Q E D m Z r j=>?_⟩;have X:=len _ _ _ _ j;have M:K.In s.heap:=m.mod.kin.keeps λb o e=>(m.bs b o e).1;have C:s.heap.NoLimit:=m.mod.nolimit.keeps λb o e=>(m.bs b o e).1
 have g:∀y∈ps.zip us,scope.names.lookup y.1=some .local\/(scope.names.lookup y.1=some .cell/\((cellsFrom (s.heap.objs.size+1) scope.names []).lookup y.1).isSome=true):=λ⟨n,v⟩ R=>by
  rcases S.par n (List.of_mem_zip R).1 with q|q
  ·exact .inl q
  ·exact .inr ⟨q,ZQ _ _ _ (.inl q)⟩
 refine codeAny_call_function D.depth (M _ _ lk) rfl S.co S.gen rfl (PySem.W.codeRec_of M F) (Z _ _ _ _ ?_);refine wpAny_newFunctionEnv_cells S.kind g λenv Y G x=>?_;subst Y;refine⟨C.keeps x.toInCall.keep,codeAny_func ?_⟩;obtain⟨t,T,U⟩:=h A outer s H vs Q E (D.deeper _) j;have I:Inv (re CX P w K mg base N qual scope f a A outer s H E) [] (jQ N vs) H G:=EV S D.hd m X r x;refine Y8 (T [] G (jQ N vs) H _ I U) (λfl s' i=>?_) λe s' i=>i
 have l:∀{d:St} {H':Hp} {v:V} {u:Value},Inv (re CX P w K mg base N qual scope f a A outer s H E) [] d H' s'->RelV v u->Q v H'->CE outer P w H s Q u s':=
  λ{d H' v u} J z q=>⟨v,H',J.os,J.bare,J.base,J.hok,z,q⟩
 cases fl with
 |ret u=>
   obtain⟨v,d,H',J,z,q⟩:=i;exact l J z q
 |next=>
   obtain⟨d,H',J,q⟩:=i;exact l (v:=V.non) (u:=Value.none) J rfl q
 |brk=>
   obtain⟨_,_,_,q⟩:=i;exact False.elim q
 |cont=>
   obtain⟨_,_,_,q⟩:=i;exact False.elim q
section
variable{X:Cx}{x:Str}{p pos:Pos}{e:Expr}{es:List Expr}{t:TA}{id T:String}{r:List V->Hp->VK->Prop}
def Lq(r:List V->Hp->VK->Prop)(t:TA):TE:=λZ H Q=>t Z H λvs H1=>r vs H1 Q
theorem aT(n:fD X (.builtin id) r)(l:Gl X x)(k:X.mg x=none)(i:bootBuiltins x=some (.builtin id))(o:PA X (e::es) t)(j:x ≠ "__name__" := by decide)(c:(x==("__debug__" : Str))=false:=by decide)
 (m:starEach (e::es) X.env=(false,eval e X.env)::starEach es X.env:=by rfl) (b:(backTo pos (starEach es X.env)).any (·.1)=false:=by rfl):PE X (.Call (.Name x p) (e::es) [] pos) (Lq r t):=by
 intro a s Z H Q I h;refine YH (oj I l k i ?_ j c);exact PyProof.Rows.callWith_builtin1 (cQ (o pos a s Z H _ I h) λus d ⟨vs,H1,q,f,g⟩=>n a d Z H1 vs us Q q f g) m b
theorem dZ(n:fD X (.type T) r)(l:Gl X x)(k:X.mg x=none)(i:bootBuiltins x=some (.type T))(o:PA X (e::es) t)(j:x ≠ "__name__" := by decide)(c:(x==("__debug__" : Str))=false:=by decide)
 (m:starEach (e::es) X.env=(false,eval e X.env)::starEach es X.env:=by rfl) (b:(backTo pos (starEach es X.env)).any (·.1)=false:=by rfl):PE X (.Call (.Name x p) (e::es) [] pos) (Lq r t):=by
 intro a s Z H Q I h;refine YH (oj I l k i ?_ j c);exact YY (cQ (o pos a s Z H _ I h) λus d ⟨vs,H1,q,f,g⟩=>n a d Z H1 vs us Q q f g) m b
end
section
variable{X:Type}[DecidableEq X]
def lR(a:List (X×V))(k:X):Option V:=(a.find? λb=>decide (b.1=k)).map (·.2)
def gG(a:List (X×V))(k:X)(v:V):List (X×V):=
 if (a.any λb=>decide (b.1=k))=true then a.map (λb=>if b.1=k then (b.1,v) else b) else a++[(k,v)]
theorem Fy{k:X}:lR ([]:List (X×V)) k=none:=rfl
theorem mQ{p:X×V}{r:List (X×V)}{k:X}(e:p.1=k):lR (p::r) k=some p.2:=by simp[lR,Yr,e]
theorem mR{p:X×V}{r:List (X×V)}{k:X}(e:¬ p.1=k):lR (p::r) k=lR r k:=by simp[lR,Yr,e]
theorem wO(k:X):∀a:List (X×V),(a.any λb=>decide (b.1=k))=(lR a k).isSome
 |[]=>rfl
 | p::r=>by
   rw[YX];by_cases e:p.1=k
   ·simp only[mQ e,X8 e,Bool.true_or,Option.isSome_some]
   ·rw[mR e,X0 e,Bool.false_or];exact wO k r
theorem oW(a:List (X×V))(k:X)(v:V):(gG a k v).length<=a.length+1:=by
 unfold gG;split
 ·rw[on];omega
 ·rw[Xo,Xp,List.length_nil];omega
theorem RelO.isSome_eq{o:Option V}{u:Option Value}(r:RelO o u):o.isSome=u.isSome:=by
 cases o with
 | none=>cases u with
   |none=>rfl
   |some _=>exact(show False from r).elim
 | some _=>cases u with
   |none=>exact(show False from r).elim
   |some _=>rfl
theorem RelO.getD{o:Option V}{u:Option Value}{d:V}{d':Value}(r:RelO o u)(rd:RelV d d'):RelV (o.getD d) (u.getD d'):=by
 cases o with
 | none=>cases u with
   |none=>exact rd
   |some _=>exact(show False from r).elim
 | some _=>cases u with
   |none=>exact(show False from r).elim
   |some _=>exact r
theorem KV.val{a:List (X×V)}{vs:List (X×Value)}(r:KV a vs)(k:X):RelO (lR a k) (valueAt vs k):=by
 unfold KV at r
 induction r with
 |nil=>exact True.intro
 |@cons p q ps c h t g=>
   obtain⟨f,i⟩:=h;by_cases e:p.1=k
   · have d:q.1=k:=f.symm.trans e;have b:valueAt (q::c) k=some q.2:=by simp[valueAt,Yr,d]
     rw[mQ e,b];exact i
   · have d:¬ q.1=k:=λz=>e (f.trans z);have b:valueAt (q::c) k=valueAt c k:=by simp[valueAt,Yr,d]
     rw[mR e,b];exact g
theorem KV.any{a:List (X×V)}{vs:List (X×Value)}(r:KV a vs)(k:X):(a.any λb=>decide (b.1=k))=vs.any λb=>decide (b.1=k):=by
 unfold KV at r
 induction r with
 |nil=>rfl
 |cons h t c=>rw[YX,YX,c,h.1]
theorem KV.repl{b:List (X×V)}{vs:List (X×Value)}(r:KV b vs)(k:X){y:V}{u:Value}(d:RelV y u):
 KV (b.map λa=>if a.1=k then (a.1,y) else a) (vs.map λa=>if a.1=k then (a.1,u) else a):=by
 unfold KV at r ⊢
 induction r with
 |nil=>exact .nil
 |@cons p q ps i h t f=>
   rw[Xm,Xm];refine .cons ?_ f;obtain⟨c,g⟩:=h;by_cases e:p.1=k
   ·rw[Xl e,Xl (c.symm.trans e)];exact⟨c,d⟩
   ·rw[Xj e,Xj (λz=>e (c.trans z))];exact⟨c,g⟩
theorem KV.put{a:List (X×V)}{vs:List (X×Value)}(r:KV a vs)(k:X){y:V}{u:Value}(b:RelV y u):KV (gG a k y) (stored vs k u):=by
 unfold gG stored;rw[r.any k];by_cases e:(vs.any λc=>decide (c.1=k))=true
 ·rw[Xl e,Xl e];exact r.repl k b
 ·rw[Xj e,Xj e];exact Paired.snoc r ⟨rfl,b⟩
theorem KV.length{a:List (X×V)}{vs:List (X×Value)}(r:KV a vs):a.length=vs.length:=ZD r
end
theorem uc{P:Program}{w:World}{k:c9}{u:Value}(r:RelV (kV k) u):(cL P w).is k u=true:=by
 cases k with
 |inl i=>obtain⟨t,e⟩:=(show ∃t,u=Value.int i t from r);subst e;exact xK P w i t
 |inr x=>obtain⟨t,e⟩:=(show ∃t,u=Value.str x t from r);subst e;exact xJ P w x t
theorem ud{P:Program}{w:World}:∀{a:List c9} {us:List Value},Vals (a.map kV) us->ItemsAre (cL P w) a us
 |[],_,r=>by rw[Ym]at r;cases r;exact .nil
 | k::a,_,r=>by
   rw[Xm]at r;cases r with
   |cons h t=>exact .cons (uc h) (ud t)
abbrev KT(H:Hp):List (List c9×V)->List (List c9×Addr×Value)->Prop:=Paired λp q=>p.1=q.1/\H q.2.1=some (.tup (p.1.map kV))/\RelV p.2 q.2.2
theorem KT.val{H:Hp}{a:List (List c9×V)}{xs:List (List c9×Addr×Value)}(r:KT H a xs)(k:List c9):RelO (lR a k) ((atKey xs k).map (·.2)):=by
 induction r with
 |nil=>exact True.intro
 |@cons p q ps c h t g=>
   obtain⟨f,_,i⟩:=h;by_cases e:p.1=k
   · have d:q.1=k:=f.symm.trans e;have b:atKey (q::c) k=some q.2:=by simp[atKey,Yr,d]
     rw[mQ e,b];exact i
   · have d:¬ q.1=k:=λz=>e (f.trans z);have b:atKey (q::c) k=atKey c k:=by simp[atKey,Yr,d]
     rw[mR e,b];exact g
theorem KT.repl{H:Hp}{a:List (List c9×V)}{xs:List (List c9×Addr×Value)}(r:KT H a xs)(k:List c9){y:V}{u:Value}(f:RelV y u):
 KT H (a.map λc=>if c.1=k then (c.1,y) else c) (xs.map (putAt k u)):=by
 induction r with
 |nil=>exact .nil
 |@cons p q ps j h t g=>
   rw[List.map_cons,List.map_cons];refine .cons ?_ g;obtain⟨b,d,i⟩:=h;unfold putAt;by_cases e:p.1=k
   ·rw[Xl e,Xl (b.symm.trans e)];exact⟨b,d,f⟩
   ·rw[Xj e,Xj (λz=>e (b.trans z))];exact⟨b,d,i⟩
theorem KT.put{H:Hp}{a:List (List c9×V)}{xs:List (List c9×Addr×Value)}(r:KT H a xs)(k:List c9){b:Addr}{y:V}{u:Value}(f:H b=some (.tup (k.map kV)))(c:RelV y u):
 KT H (gG a k y) (storedH xs k b u):=by
 have e:(a.any λd=>decide (d.1=k))=(atKey xs k).isSome:=by
  rw[wO,(r.val k).isSome_eq,Option.isSome_map]
 unfold gG storedH;rw[e];by_cases q:(atKey xs k).isSome=true
 ·rw[Xl q,Xl q];exact r.repl k c
 ·rw[Xj q,Xj q];exact Paired.snoc r ⟨rfl,f,c⟩
theorem KT.keeps{H H':Hp}{a:List (List c9×V)}{xs:List (List c9×Addr×Value)}(r:KT H a xs)(d:∀b c,H b=some (.tup c)->H' b=some (.tup c)):KT H' a xs:=
 Paired.mapP r λ_ _ z=>⟨z.1,d _ _ z.2.1,z.2.2⟩
section
variable{P:Program}{w:World}{H:Hp}{h:Heap}{a:Addr}
theorem NU{u:HO}(ok:HOk P w H h)(e:Rd H a u):ObjOk P w H h a u:=e.ok ok
theorem q9{b:List (c9×V)}(ok:HOk P w H h)(e:Rd H a (.dK b)):b.length<=sizeLine/\(a==sysModules)=false/\∃vs,KV b vs/\h.DictOf (cL P w) a vs:=
 show ObjOk P w H h a (.dK b) from NU ok e
theorem Vv{b:List (c9×V)}(ok:HOk P w H h)(e:H a=some (.dK b)):b.length<=sizeLine/\(a==sysModules)=false/\∃vs,KV b vs/\h.DictOf (cL P w) a vs:=q9 ok (.inl e)
theorem iE{b:List c9}(ok:HOk P w H h)(e:H a=some (.tup (b.map kV))):(tupleKind (cL P w)).is h b a:=by
 obtain⟨_,its,r,o,f,d,n,c⟩:=(show ObjOk P w H h a (.tup (b.map kV)) from ok a _ e);exact⟨o,its.toArray,n,f,d,c,by simpa using ud r⟩
theorem q8{b:List (List c9×V)}(ok:HOk P w H h)(e:Rd H a (.dT b)):b.length<=sizeLine/\(a==sysModules)=false/\
 ∃xs,KT H b xs/\h.DictOfH (tupleKind (cL P w)) a xs:=by
 obtain⟨z,y,xs,r,o,s,u,n,k,j,i,g⟩:=(show ObjOk P w H h a (.dT b) from NU ok e);refine⟨z,y,xs,r,o,s,u,n,k,j,i,λx c=>?_,g⟩
 have all:∀{l:List (List c9×V)} {m:List (List c9×Addr×Value)},KT H l m->∀x∈m,(tupleKind (cL P w)).is h x.1 x.2.1:=by
  intro l m q
  induction q with
  |nil=>intro x c;exact nomatch c
  |@cons p q ps v d t f=>
    intro x c;rcases Xv.mp c with e|c
    ·subst e;exact iE ok (by rw[<-d.1];exact d.2.1)
    ·exact f x c
 exact all r x c
theorem Vt{b:List (List c9×V)}(ok:HOk P w H h)(e:H a=some (.dT b)):b.length<=sizeLine/\(a==sysModules)=false/\
 ∃xs,KT H b xs/\h.DictOfH (tupleKind (cL P w)) a xs:=q8 ok (.inl e)
end
def DGet(H:Hp)(a:Addr)(y:V)(r:Option V):Prop:=
 (∃c k,Rd H a (.dK c)/\y=kV k/\r=lR c k)\/∃c k b,Rd H a (.dT c)/\y=.ref b/\H b=some (.tup (k.map kV))/\r=lR c k
def DPut(H:Hp)(a:Addr)(y v:V)(H':Hp):Prop:=
 (∃c k,H a=some (.dK c)/\y=kV k/\c.length<sizeLine/\H'=upd H a (.dK (gG c k v)))\/
 ∃c k b,H a=some (.dT c)/\y=.ref b/\H b=some (.tup (k.map kV))/\c.length<sizeLine/\H'=upd H a (.dT (gG c k v))
theorem DGet.k{H:Hp}{a:Addr}{b:List (c9×V)}{k:c9}(e:H a=some (.dK b)):DGet H a (kV k) (lR b k):=.inl ⟨b,k,.inl e,rfl,rfl⟩
theorem DPut.k{H:Hp}{a:Addr}{b:List (c9×V)}{k:c9}{v:V}(e:H a=some (.dK b))(c:b.length<sizeLine):DPut H a (kV k) v (upd H a (.dK (gG b k v))):=.inl ⟨b,k,e,rfl,c,rfl⟩
theorem DPut.t{H:Hp}{a b:Addr}{c:List (List c9×V)}{k:List c9}{v:V}(e:H a=some (.dT c))(f:H b=some (.tup (k.map kV)))(d:c.length<sizeLine):
 DPut H a (.ref b) v (upd H a (.dT (gG c k v))):=.inr ⟨c,k,b,e,rfl,f,d,rfl⟩
section
variable{X:Cx}{pins:L1}{Z:St}{H:Hp}{s:Shared}{a:Addr}{y v:V}{u r:Value}{o:Option V}{A:Around}{E:L4}
theorem Inv.big(I:Inv X pins Z H s):sysModules<s.heap.objs.size:=by
 have h:mainGlobals<s.heap.objs.size:=(I.mod.glob.keeps I.bk).lt;exact Nat.lt_trans (by decide) h
theorem E7{Q:L4}(r:A.units+1<cLine)(I:Inv X pins Z H s)(g:DGet H a y (some v))(q:RelV y u)(h:∀f s',Inv X pins Z H s'->RelV v f->Q f s'):
 wpAny (model X.prog X.w) A (getItem (.ref a) u) Q E s:=by
 rcases g with ⟨i,k,e,n,l⟩|⟨i,k,b,e,n,t,l⟩
 ·subst n;obtain⟨z,hd,vs,d,dd⟩:=q9 I.hok e;obtain⟨f,j,c⟩:=RelO.some_of (v:=v) (o:=valueAt vs k) (by rw[l];exact d.val k);exact wpAny_getItem_of (uc q) dd.mapOf j (h f _ (I.tok _) c)
 ·subst n;cases(show u=Value.ref b from q);obtain⟨z,hd,xs,d,dd⟩:=q8 I.hok e;obtain⟨f,j,c⟩:=RelO.some_of (v:=v) (o:=(atKey xs k).map (·.2)) (by rw[l];exact d.val k);obtain⟨p,hp,m⟩:=XR.mp j;refine wpAny_getItem_heap (YT r) (iE I.hok t) dd hp ?_;rw[m];exact h f _ (I.tok _) c
theorem W7{Q:L4}(j:A.units+1<cLine)(I:Inv X pins Z H s)(g:DGet H a y o)(i:RelV y u)(h:∀s',Inv X pins Z H s'->Q (.bool o.isSome) s'):
 wpAny (model X.prog X.w) A (compareOp .In u (.ref a)) Q E s:=by
 rcases g with ⟨d,k,e,f,l⟩|⟨d,k,b,e,f,m,l⟩
 ·subst f;obtain⟨z,hd,vs,c,dd⟩:=q9 I.hok e;refine wpAny_in_of (uc i) hd dd.mapOf ?_;rw[<-(c.val k).isSome_eq,<-l];exact h _ (I.tok _)
 ·subst f;cases(show u=Value.ref b from i);obtain⟨z,hd,xs,c,dd⟩:=q8 I.hok e;refine wpAny_in_heap (YT j) (iE I.hok m) hd dd ?_;have q:=(c.val k).isSome_eq;rw[Option.isSome_map]at q;rw[<-q,<-l];exact h _ (I.tok _)
theorem Da{h':Heap}{t':Nat}{ob:HO}(I:Inv X pins Z H s)(c:Wq (H a))(d:Heap.SameBut a s.heap h')(f:∃q,h'.get? a=some q)(new:ObjOk X.prog X.w (upd H a ob) h' a ob):
 Inv X pins Z (upd H a ob) {s with heap:=h',toks:=t'}:=
 I.write (x:=a) (e:=a) c (.inl rfl) (λb q g z=>(d.2 b g).trans z) f new
theorem RF{P:Program}{w:World}{H':Hp}{h':Heap}{b:List (c9×V)}{vs:List (c9×Value)}(z:b.length<=sizeLine)(hd:(a==sysModules)=false)(c:KV b vs)(dd:h'.DictOf (cL P w) a vs):
 ObjOk P w H' h' a (.dK b):=⟨z,hd,vs,c,dd⟩
theorem E6{H':Hp}{Q:Unit->Shared->Prop}(F:A.units+1<cLine)(I:Inv X pins Z H s)(g:DPut H a y v H')(x:RelV y u)(B:RelV v r)(h:∀s',Inv X pins Z H' s'->Q () s'):
 wpAny (model X.prog X.w) A (setItem (.ref a) u r) Q E s:=by
 rcases g with ⟨f,k,e,p,l,t⟩|⟨f,k,b,e,p,D,l,t⟩
 · subst p t;obtain⟨z,hd,vs,d,dd⟩:=Vv I.hok e;have m:vs.length<=sizeLine:=by rw[<-d.length];exact z
   have o:(gG f k v).length<=sizeLine:=by have:=oW f k v;omega
   refine wpAny_setItem_pairs (hsz:=m) (uc x) dd λh' i n=>h _ ?_;have G:∃q,h'.get? a=some q:=let ⟨q,_,_,j,_⟩:=i;⟨q,j⟩
   exact Da I (by rw[e];exact True.intro) n G (RF o hd (d.put k B) i)
 · subst p t;cases(show u=Value.ref b from x);obtain⟨z,hd,xs,d,dd⟩:=Vt I.hok e;have m:xs.length<=sizeLine:=by rw[<-ZD d];exact z
   have o:(gG f k v).length<=sizeLine:=by have:=oW f k v;omega
   refine wpAny_setItem_heap (hsz:=m) (YT F) (iE I.hok D) dd λh' i n=>h _ ?_;obtain⟨q,N,O,j,M,L,K,_,J⟩:=i;refine Da I (by rw[e];exact True.intro) n ⟨q,j⟩ ⟨o,hd,_,(d.put k D B).keeps λc P C=>?_,q,N,O,j,M,L,K,J⟩;rw[a7 (UA C e (λz=>nomatch z))];exact C
end
def Wp(i:Expr):Prop:=∀ov a,subscripted i false ov a=operate [ov,a] (getItem ov a)
theorem LC{prog:Program}{w:World}{A:Around}{E:L4}{s:Shared}{env:Env}{b a:Expr}{pos:Pos}{T id:String}{Q:L4}
 (n:typeLookup (.type T) "__getitem__" = pure (some (.builtin id))) (m:Wp a)
 (h:wpAny (model prog w) A (eval b env) (λo f=>wpAny (model prog w) A (eval a env) (λi c=>c.TypeIs o T/\wpAny (model prog w) A (getItem o i) Q E c) E f) E s):
 wpAny (model prog w) A (eval (.Subscript b a pos) env) Q E s:=by
 refine Subscript_ (wpAny_mono h (λo f k=>wpAny_mono k (λi c d=>?_) λ_ _ x=>x) λ_ _ x=>x);obtain⟨l,d⟩:=d;unfold subscriptTail;refine wpAny_bind ?_;rw[getitemInPython_of_ne l.not_modules];refine wpAny_bind (wpAny_specialOf l n ?_)
 have g:wpAny (model prog w) A (subscripted a false o i) (λr e=>wpAny (model prog w) A (letTemporaryGo b o r >>= λ_=>pure r) Q E e) E c:=by
  rw[m o i];exact wpAny_operating (Y8 d (λr e j=>Xn (wpAny_letTemporaryGo (XC j))) λ_ _ x=>x)
 first
  |exact XC (Xn g)
  |exact Xn (XC (Xn g))
  |exact Xn g
theorem yh{X:Cx}{c:L1}{Z:St}{H:Hp}{s:Shared}{a:Addr}{y:V}{o:Option V}(I:Inv X c Z H s)(g:DGet H a y o):s.TypeIs (.ref a) "dict" := by
 rcases g with ⟨d,k,e,_,_⟩|⟨d,k,b,e,_,_,_⟩
 ·obtain⟨_,_,vs,_,dd⟩:=q9 I.hok e;exact dd.typeIs
 ·obtain⟨_,_,xs,_,dd⟩:=q8 I.hok e;exact dd.typeIs
def NI(c ty:TE):TE:=λZ H Q=>c Z H λx H1=>ty Z H1 λy b=>∃a v,x=.ref a/\DGet b a y (some v)/\Q v b
def Te(ty c:TE):TE:=λZ H Q=>ty Z H λy H1=>c Z H1 λx b=>∃a o,x=.ref a/\DGet b a y o/\Q (.bl o.isSome) b
def NT(d ty c:TE):TS:=λD Z H=>c Z H λv H1=>d Z H1 λx f=>ty Z f λy e=>∃a b,x=.ref a/\DPut e a y v b/\D.nx Z b
section
variable{X:Cx}{o i e value:Expr}{pos pos' tpos:Pos}{td ty tv:TE}
theorem vm(m:X.A.units+1<cLine)(p:PE X o td)(hi:PE X i ty)(n:Wp i):PE X (.Subscript o i pos) (NI td ty):=by
 intro b s Z H Q I h;refine LC PySem.F.slot_dict_getitem.lookup n (cQ (p b s Z H _ I h) λu e ⟨x,H1,r,j,l⟩=>cQ (hi b e Z H1 _ r l) λB s2 ⟨y,t,d,f,a,v,ex,g,k⟩=>?_);subst ex;obtain rfl:u=Value.ref a:=j;exact⟨yh d g,E7 m d g f λw z q c=>⟨v,t,q,c,k⟩⟩
theorem vp(k:X.A.units+1<cLine)(hi:PE X i ty)(l:PE X o td):PC X .In i o (Te ty td):=by
 intro b s Z H Q I h;refine cQ (hi b s Z H _ I h) λt c ⟨y,H1,p,d,j⟩=>cQ (l b c Z H1 _ p j) λu s2 ⟨x,q,n,e,a,ov,ex,g,f⟩=>?_;subst ex;obtain rfl:u=Value.ref a:=e;exact W7 k n g d λr m=>⟨.bl ov.isSome,q,m,rfl,f⟩
theorem fZ(n:X.A.units+1<cLine)(q:PE X o td)(hi:PE X i ty)(m:PE X value tv)(p:swapsWith value (some (.Subscript o i pos')) pos.line X.env=pure false):
 PS X (.Assign [.Subscript o i pos'] value pos) (NT td ty tv):=by
 intro b s Z H D I h;refine wpAny_Assign_Subscript (cQ (m b s Z H _ I h) λr c ⟨v,H1,B,f,l⟩=>cQ (q b c Z H1 _ B l) λu s2 ⟨x,E,z,e,k⟩=>cQ (hi b s2 Z E _ z k) λJ G ⟨y,K,w,d,a,C,ex,g,j⟩=>?_) p;subst ex;obtain rfl:u=Value.ref a:=e;exact E6 n w g d f λF t=>⟨Z,C,t,j⟩
end
theorem JY{P:Program}{w:World}{H:Hp}(h:Heap)(a:sysModules<h.objs.size):ObjOk P w H (h.push {cls:=.type "dict",data:=.dict #[]}) h.objs.size (.dT []):=
 ⟨YS _,Yd.mpr (Y2 (XN a)),[],.nil,_,#[],0,XI _ rfl,⟨rfl,rfl,rfl⟩,rfl,rfl,Yl⟩
def FK:TE:=λ_ H Q=>∀p,H p=none->Q (.ref p) (upd H p (.dT []))
section
variable{X:Cx}{pos:Pos}
theorem iY:PE X (.Dict [] [] pos) FK:=λb s Z H Q I h=>
 wpAny_Dict_empty ⟨.ref s.heap.objs.size,_,I.laid (a:=s.heap.objs.size) (o:=.dT []) (t':=s.toks) (λ_ _ q=>Xq _ q) (XD _) (JY s.heap I.big),rfl,h _ (I.hok.fresh (XD _))⟩
end
structure M1 (X:Cx) (o:Expr) (m:Str) (apos:Pos) (e:Expr) (cpos:Pos):Prop where
 base:attributeBase o m X.env (eval o X.env)=eval o X.env
 few:((backTo cpos (starEach [e] X.env)).all (λx=>!x.1)&&(backToKw cpos (keywordEach [] X.env)).all (λx=>x.1.isSome)
  && decide (([e]:List Expr).length+([]:List Keyword).length+(if ([]:List Keyword).isEmpty then 0 else 1)<30))=true
 line:(apos.endLine==cpos.line)=true
 trees:backTo cpos (starEach [e] X.env)=[(false,eval e X.env)]
structure M2 (X:Cx) (o:Expr) (m:Str) (apos:Pos) (e f:Expr) (cpos:Pos):Prop where
 base:attributeBase o m X.env (eval o X.env)=eval o X.env
 few:((backTo cpos (starEach [e,f] X.env)).all (λx=>!x.1)&&(backToKw cpos (keywordEach [] X.env)).all (λx=>x.1.isSome)
  && decide (([e,f]:List Expr).length+([]:List Keyword).length+(if ([]:List Keyword).isEmpty then 0 else 1)<30))=true
 line:(apos.endLine==cpos.line)=true
 trees:backTo cpos (starEach [e,f] X.env)=[(false,eval e X.env),(false,eval f X.env)]
def Wt(H:Hp)(a:Addr):Prop:=(∃b,Rd H a (.dK b))\/∃b,Rd H a (.dT b)
theorem JJ{X:Cx}{c:L1}{Z:St}{H:Hp}{s:Shared}{a:Addr}(I:Inv X c Z H s)(d:Wt H a):
 s.TypeIs (.ref a) "dict" /\ (∀b,Value.ref a=.ref b->∃ob,s.heap.get? b=some ob/\ob.dict=none)/\(a==sysModules)=false:=by
 rcases d with ⟨f,e⟩|⟨f,e⟩
 ·obtain⟨_,hd,vs,_,dd⟩:=q9 I.hok e;refine⟨dd.typeIs,λb q=>?_,hd⟩;cases q;obtain⟨ob,_,_,h,g,_⟩:=dd;exact⟨ob,h,g.2.1⟩
 ·obtain⟨_,hd,xs,_,dd⟩:=q8 I.hok e;refine⟨dd.typeIs,λb q=>?_,hd⟩;cases q;obtain⟨ob,_,_,h,g,_⟩:=dd;exact⟨ob,h,g.2.1⟩
section
variable{X:Cx}{pins:L1}{Z:St}{H:Hp}{s:Shared}{a:Addr}{y d:V}{u r:Value}{o:Option V}{A:Around}{E:L4}
theorem RH{Q:L4}(m:A.units+1<cLine)(I:Inv X pins Z H s)(g:DGet H a y o)(j:RelV y u)(h:∀i s',Inv X pins Z H s'->RelV (o.getD .non) i->Q i s'):
 wpAny (model X.prog X.w) A (call (.builtin "dict.get") [.ref a,u]) Q E s:=by
 rcases g with ⟨d,k,e,f,l⟩|⟨d,k,b,e,f,n,l⟩
 ·subst f;obtain⟨z,hd,vs,c,dd⟩:=q9 I.hok e;refine ZR Yt dd.typeIs YU (ZI _ _) (meets_dict_get (cL X.prog X.w) a (uc j) hd) ⟨_,dd.mapOf,h _ _ (I.tok _) ?_⟩;rw[l];exact(c.val k).getD rfl
 ·subst f;cases(show u=Value.ref b from j);obtain⟨z,hd,xs,c,dd⟩:=q8 I.hok e;refine ZR Yt dd.typeIs YU (ZI _ _) (meetsH_dict_get (tupleKind (cL X.prog X.w)) a b hd) ⟨YT m,k,xs,iE I.hok n,dd,h _ _ (I.tok _) ?_⟩;rw[l];exact(c.val k).getD rfl
theorem RG{Q:L4}(n:A.units+1<cLine)(I:Inv X pins Z H s)(g:DGet H a y o)(m:RelV y u)(rd:RelV d r)(h:∀j s',Inv X pins Z H s'->RelV (o.getD d) j->Q j s'):
 wpAny (model X.prog X.w) A (call (.builtin "dict.get") [.ref a,u,r]) Q E s:=by
 rcases g with ⟨f,k,e,i,l⟩|⟨f,k,b,e,i,p,l⟩
 ·subst i;obtain⟨z,hd,vs,c,dd⟩:=q9 I.hok e;refine ZR Yt dd.typeIs YU (ZJ _ _ _) (meets_dict_get_default (cL X.prog X.w) a (uc m) hd r) ⟨_,dd.mapOf,h _ _ (I.tok _) ?_⟩;rw[l];exact(c.val k).getD rd
 ·subst i;cases(show u=Value.ref b from m);obtain⟨z,hd,xs,c,dd⟩:=q8 I.hok e;refine ZR Yt dd.typeIs YU (ZJ _ _ _) (meetsH_dict_get_default (tupleKind (cL X.prog X.w)) a b hd r) ⟨YT n,k,xs,iE I.hok p,dd,h _ _ (I.tok _) ?_⟩;rw[l];exact(c.val k).getD rd
end
def FM(c ty:TE):TE:=λZ H Q=>c Z H λx H1=>∃a,x=.ref a/\Wt H1 a/\ty Z H1 λy b=>∃o,DGet b a y o/\Q (o.getD .non) b
def FL(d ty c:TE):TE:=λZ H Q=>d Z H λx H1=>∃a,x=.ref a/\Wt H1 a/\ty Z H1 λy e=>c Z e λz b=>∃o,DGet b a y o/\Q (o.getD z) b
section
variable{X:Cx}{o e f:Expr}{apos cpos:Pos}{td ty tx:TE}
theorem Hi(r:X.A.units+1<cLine)(t:PE X o td)(v:PE X e ty)(m:M1 X o "get" apos e cpos):PE X (.Call (.Attribute o "get" apos) [e] [] cpos) (FM td ty):=by
 intro b s Z H Q I h;refine wpAny_Call_method m.base m.few m.line ZK Yt Z3 (cQ (t b s Z H _ I h) λu k ⟨x,H1,f,n,a,ex,d,q⟩=>?_);subst ex;obtain rfl:u=Value.ref a:=n;obtain⟨j,i,_⟩:=JJ f d;refine⟨j,i,?_⟩;rw[m.trees];refine Zf rfl (Y0 (Za (cQ (v b k Z H1 _ f q) λE s2 ⟨y,B,z,l,ov,g,p⟩=>Zy ?_)));exact RH r z g l λC D w c=>⟨_,B,w,c,p⟩
theorem xr(w:X.A.units+1<cLine)(B:PE X o td)(D:PE X e ty)(C:PE X f tx)(m:M2 X o "get" apos e f cpos):PE X (.Call (.Attribute o "get" apos) [e,f] [] cpos) (FL td ty tx):=by
 intro b s Z H Q I h;refine wpAny_Call_method m.base m.few m.line ZK Yt Z3 (cQ (B b s Z H _ I h) λu l ⟨x,H1,i,q,a,ex,d,v⟩=>?_);subst ex;obtain rfl:u=Value.ref a:=q;obtain⟨k,j,_⟩:=JJ i d;refine⟨k,j,?_⟩;rw[m.trees]
 refine Zf rfl (Y0 (Za (cQ (D b l Z H1 _ i v) λO s2 ⟨y,K,G,p,t⟩=>
  Za (cQ (C b s2 Z K _ G t) λP N ⟨z,J,F,n,ov,g,r⟩=>Zy ?_))))
 exact RG w F g p n λL M E c=>⟨_,J,E,c,r⟩
end
end L2
namespace HT
open PySem PyProof.Rows
def eV:List Int->List Int->Bool
 |[],[]=>false
 |[],_::_=>true
 |_::_,[]=>false
 |x::xs,y::a=>if x=y then eV xs a else decide (x<y)
theorem eJ(x y:Int)(xs a:List Int):eV (x::xs) (y::a)=if x=y then eV xs a else decide (x<y):=rfl
theorem G2(A:Around)(s:Shared)(a:Int)(t:Tok)(c:Int)(u:Tok)(prog:Program)(w:World)(E:L4)(Q:L4)(h:Q (.bool (decide (a<c))) s):
 wpAny (model prog w) A (richCompare .Lt (.int a t) (.int c u)) Q E s:=
 (PyProof.Rows.lt_int h:wpAny (model prog w) A (compareOp .Lt (.int a t) (.int c u)) Q E s)
section
variable{prog:Program}{w:World}{A:Around}{E:L4}{s:Shared}
def xj(n d:Nat):Option Int->Nat
 |none=>d
 |some v=>if v<0 then (v+(n:Int)).toNat else min v.toNat n
theorem Gz(n d:Nat):xj n d none=d:=rfl
end
end HT
namespace L2
open PySem PySem.Spec PyProof.Rows
abbrev TO:=St->Hp->(Option Int->Hp->Prop)->Prop
def PO(X:Cx)(e:Option Expr)(t:TO):Prop:=
 ∀(a:L1) (s:Shared) (Z:St) (H:Hp) (Q:Option Int->Hp->Prop),Inv X a Z H s->t Z H Q->
  wpAny (model X.prog X.w) X.A (evalPart e X.env) (λu s'=>∃o H',Inv X a Z H' s'/\IsPart u o/\Q o H') X.xe s
def uO:TO:=λ_ H Q=>Q none H
def FI(t:TE):TO:=λZ H Q=>t Z H λx H1=>∃i,x=.int i/\Q (some i) H1
theorem A6{ns:List Int}:∀{us:List Value},Vals (ns.map V.int) us->IntsAre us ns:=by
 induction ns with
 |nil=>intro us r;rw[Ym]at r;cases r;exact .nil
 |cons n ns c=>
   intro us r;rw[Xm]at r;cases r with
   |cons b a=>
     obtain⟨t,e⟩:=b;subst e;exact .cons n t (c a)
section
variable{X:Cx}{e:Expr}{te:TE}{lo hi:Option Expr}{tl th:TO}{pos p2:Pos}
theorem CG:PO X none uO:=by
 intro a s Z H Q I h;rw[evalPart_none];exact XC ⟨none,H,I,.none,h⟩
theorem CF(h:PE X e te):PO X (some e) (FI te):=by
 intro a s Z H Q I d;rw[evalPart_some];refine cQ (h a s Z H _ I d) λu g ⟨x,H1,f,b,c⟩=>?_;obtain⟨i,rfl,q⟩:=c;obtain⟨t,rfl⟩:=b;exact⟨some i,H1,f,.int i t,q⟩
def Xd(X:Cx)(r:V->Option Int->Option Int->Hp->VK->Prop):Prop:=
 ∀(a:L1) (s:Shared) (Z:St) (H:Hp) (x:V) (v c b:Value) (lo hi:Option Int) (d:Addr) (Q:VK),Inv X a Z H s->RelV x v->s.heap.IsSliceOf d c b .none->IsPart c lo->IsPart b hi->r x lo hi H Q->
  ∃T id,typeLookup (.type T) "__getitem__" = pure (some (.builtin id))/\s.TypeIs v T/\wpAny (model X.prog X.w) X.A (getItem v (.ref d)) (EP X a Z Q) X.xe s
def WQ(r:V->Option Int->Option Int->Hp->VK->Prop)(te:TE)(tl th:TO):TE:=λZ H Q=>te Z H λx H1=>tl Z H1 λl b=>th Z b λu a=>r x l u a Q
theorem xq{r:V->Option Int->Option Int->Hp->VK->Prop}(y:Xd X r)(C:PE X e te)(z:PO X lo tl)(p:PO X hi th):PE X (.Subscript e (.Slice lo hi none p2) pos) (WQ r te tl th):=by
 intro a s Z H Q I h;refine Subscript_ (cQ (C a s Z H _ I h) λv i ⟨x,H1,J,j,n⟩=>?_);refine wpAny_Slice (cQ (z a i Z H1 _ J n) λf s2 ⟨l,K,G,pl,m⟩=>cQ (p a s2 Z K _ G m) λd c ⟨u,g,F,o,k⟩=>?_);rw[evalPart_none];refine wpAny_pure ?_;have E:Inv X a Z g {c with heap:=c.heap.push {cls:=.type "slice",data:=.fields #[f,d,.none]}}:=F.kept (t':=c.toks) λb ob q=>Heap.get?_push_of_some _ q;obtain⟨T,id,D,t,B⟩:=y a {c with heap:=c.heap.push {cls:=.type "slice",data:=.fields #[f,d,.none]}} Z g x v f d l u c.heap.objs.size Q E j (Heap.IsSliceOf.new ..) pl o k;show wpAny (model X.prog X.w) X.A (subscriptTail e (.Slice lo hi none p2) v (.ref c.heap.objs.size)) (EP X a Z Q) X.xe {c with heap:=c.heap.push {cls:=.type "slice",data:=.fields #[f,d,.none]}};exact tail_any (ops:=[.ref c.heap.objs.size,v]) t D B (by with_unfolding_all rfl)
def E8(xs:List V)(lo hi:Option Int):List V:=(xs.drop (HT.xj xs.length 0 lo)).take (HT.xj xs.length xs.length hi-HT.xj xs.length 0 lo)
theorem yk(xs:List V)(lo hi:Option Int):(E8 xs lo hi).length<=xs.length:=by
 unfold E8;rw[List.length_take,List.length_drop];omega
end
def JG(n:Nat)(i:Int):Option Nat:=if 0<=i then (if i<n then some i.toNat else none) else if -(n:Int)<=i then some (i+n).toNat else none
def nJ{X:Type}(xs:List X)(i:Int):Option X:=(JG xs.length i).bind λj=>xs[j]?
theorem CY{n:Nat}{i:Int}{j:Nat}(h:JG n i=some j):seqIndex? i n=some j/\j<n/\-(n:Int)<=i/\i<n:=by
 unfold JG at h;by_cases h0:0<=i
 · rw[Xl h0]at h;by_cases a:i<n
   ·rw[Xl a]at h;have e:i.toNat=j:=XQ h;exact⟨by rw[seqIndex_of h0 a,e],by omega,by omega,a⟩
   ·rw[Xj a]at h;cases h
 · rw[Xj h0]at h;by_cases a:-(n:Int)<=i
   ·rw[Xl a]at h;have e:(i+n).toNat=j:=XQ h;exact⟨by rw[seqIndex_neg (by omega) a,e],by omega,a,by omega⟩
   ·rw[Xj a]at h;cases h
theorem DY{X:Type}{xs:List X}{i:Int}{v:X}(h:nJ xs i=some v):∃j,seqIndex? i xs.length=some j/\xs[j]?=some v/\j<xs.length/\-(xs.length:Int)<=i/\i<xs.length:=by
 unfold nJ at h;cases e:JG xs.length i with
 |none=>rw[e]at h;cases h
 |some j=>
   rw[e]at h;obtain⟨d,c,b,a⟩:=CY e;exact⟨j,d,h,c,b,a⟩
theorem sI{X:Type}(xs:List X)(v:X):nJ (xs++[v]) (-1)=some v:=by
 have a:(xs++[v]).length=xs.length+1:=by simp
 have e:JG (xs++[v]).length (-1)=some xs.length:=by
  unfold JG;rw[a,if_neg (by decide),if_pos (by omega)];congr 1;omega
 unfold nJ;rw[e];show(xs++[v])[xs.length]?=some v;simp
def Nq(b:Expr):Prop:=∀o i,subscripted b false o i=operate [o,i] (getItem o i)
def Wr(X:Cx)(r:R2):Prop:=
 ∀(c a:Expr) (b:L1) (s:Shared) (Z:St) (H:Hp) (x y:V) (v u:Value) (Q:VK),Inv X b Z H s->RelV x v->RelV y u->r x y H Q->
  subscripted a false v u=operate [v,u] (getItem v u)->wpAny (model X.prog X.w) X.A (subscriptTail c a v u) (EP X b Z Q) X.xe s
def MtR(X:Cx)(id:String)(r:V->List V->Hp->VK->Prop):Prop:=
 ∀(a:L1) (s:Shared) (Z:St) (H:Hp) (x:V) (xs:List V) (v:Value) (us:List Value) (Q:VK),Inv X a Z H s->RelV x v->Vals xs us->r x xs H Q->
  wpAny (model X.prog X.w) X.A (call (.builtin id) (v::us)) (EP X a Z Q) X.xe s
section
variable{X:Cx}{a b:Expr}{ta tb:TE}{pos:Pos}
theorem b8{r:R2}(g:Wr X r)(j:PE X a ta)(i:PE X b tb)(f:Nq b):PE X (.Subscript a b pos) (Lp r ta tb):=by
 intro c s Z H Q I h;exact Subscript_ (SG j i I h λv u s2 x y l k e d q=>g a b c s2 Z l x y v u Q k e d q (f _ _))
def Mh(K:L0):R2:=λx y H Q=>∃p xs i v,x=.ref p/\y=.int i/\SqL K H p xs/\nJ xs i=some v/\Q v H
def PX(K:L0):R2:=λx y H Q=>∃p xs i v,x=.ref p/\y=.int i/\SqT K H p xs/\nJ xs i=some v/\Q v H
theorem MT:Wr X (Mh X.K):=by
 intro d e a s Z H x y v u Q I n m h k;obtain⟨p,xs,i,z,rfl,rfl,o,B,q⟩:=h;cases n;obtain⟨t,rfl⟩:=m;obtain⟨its,r,pl,F⟩:=I.list o;obtain⟨j,c,E,J,D,C⟩:=DY B;obtain⟨w,l,f⟩:=r.get E;have A:=r.length;have G:=AY;have b:EP X a Z Q w s:=⟨z,H,I,f,q⟩;by_cases h0:0<=i
 · have g:i.toNat=j:=by
    rw[seqIndex_of h0 C]at c;exact XQ c
   exact item_listR pl.isList h0 (by omega) (by rw[g];simpa using l) b k
 · have g:(i+(its.toArray.size:Int)).toNat=j:=by
    rw[seqIndex_neg (by omega) D]at c;rw[XB,<-A];exact XQ c
   exact subscriptTail_builtinR (x:=w) pl.isList.typeIs slot_list_getitem.lookup
    (wpAny_getItem_list_neg (Q:=λr s'=>r=w/\EP X a Z Q r s') pl.isList (by omega) (by rw[XB]<;>omega) (by omega) (by rw[g];simpa using l) ⟨rfl,b⟩) k
theorem Rw:Wr X (PX X.K):=by
 intro b c a s Z H x y v u Q I g f h k;obtain⟨p,xs,i,z,rfl,rfl,l,n,q⟩:=h;cases g;obtain⟨t,rfl⟩:=f;obtain⟨its,r,pl,C⟩:=I.tuple l;obtain⟨j,A,o,G,F,E⟩:=DY n;obtain⟨w,B,d⟩:=r.get o;have m:=r.length;have D:=AY;have e:EP X a Z Q w s:=⟨z,H,I,d,q⟩
 exact subscriptTail_builtinR (x:=w) pl.typeIs slot_tuple_getitem.lookup
  (getItem_tuple (j:=j) (Q:=λr s'=>r=w/\EP X a Z Q r s') pl (by omega) (by omega) (by rw[XB,<-m];exact A) (by simpa using B) ⟨rfl,e⟩) k
theorem uT(lo hi:Option Int)(n:Nat):(sliceBounds lo hi none n).1=((HT.xj n 0 lo:Nat):Int)/\(sliceBounds lo hi none n).2.1=((HT.xj n n hi:Nat):Int)/\(sliceBounds lo hi none n).2.2=1:=by
 refine⟨?_,?_,rfl⟩
 · cases lo with
   |none=>simp[sliceBounds,HT.xj]
   |some i=>
     simp only[sliceBounds,HT.xj,Option.getD_none,show(1:Int)>0 by decide,if_true];by_cases h:i<0
     ·simp only[h,if_true]<;>omega
     ·simp only[h,ZL]<;>omega
 · cases hi with
   |none=>simp[sliceBounds,HT.xj]
   |some i=>
     simp only[sliceBounds,HT.xj,Option.getD_none,show(1:Int)>0 by decide,if_true];by_cases h:i<0
     ·simp only[h,if_true]<;>omega
     ·simp only[h,ZL]<;>omega
theorem sZ(its:List Value)(lo hi:Option Int):slicePick its.toArray lo hi none=((its.drop (HT.xj its.length 0 lo)).take (HT.xj its.length its.length hi-HT.xj its.length 0 lo)).toArray:=by
 obtain⟨c,b,a⟩:=uT lo hi its.toArray.size;unfold slicePick;rw[c,b,a];simp only[sliceRange_one,pick_run,List.size_toArray]<;>rfl
def Mg(K:L0):V->Option Int->Option Int->Hp->VK->Prop:=λx lo hi H Q=>∃a xs,x=.ref a/\SqL K H a xs/\∀p,H p=none->Q (.ref p) (upd H p (.lst (E8 xs lo hi)))
theorem LW:Xd X (Mg X.K):=by
 intro d s Z H x v m l lo hi n Q I f k pl g h;obtain⟨a,xs,rfl,j,q⟩:=h;cases f;obtain⟨its,r,e,i⟩:=I.list j;have c:=r.length;refine⟨"list",_,slot_list_getitem.lookup,e.isList.typeIs,?_⟩;refine wpAny_getItem_list_slice e.isList k pl g .none (by simp) ?_ (by rw[XB]<;>omega);rw[sZ,<-c];refine⟨.ref s.heap.objs.size,_,I.laid (t':=s.toks) (o:=.lst (E8 xs lo hi)) (λb ob q=>Xq _ q) (XD _) ?_,rfl,q _ (I.hok.fresh (XD _))⟩;exact⟨XY (yk xs lo hi) i,_,0,(r.drop (HT.xj xs.length 0 lo)).take (HT.xj xs.length xs.length hi-HT.xj xs.length 0 lo),XI _ rfl⟩
theorem wD:fD X (.builtin "len") (λxs H Q=>∃p b,xs=[.ref p]/\(SqL X.K H p b\/SqT X.K H p b)/\Q (.int b.length) H):=by
 intro e s Z H xs us Q I r h;obtain⟨p,b,rfl,c,q⟩:=h;obtain⟨u,rfl,f⟩:=Fx r;cases f;have i:=AY;rcases c with c|c
 ·obtain⟨its,d,pl,g⟩:=I.list c;have a:=d.length;exact Calls.call_len_list pl.isList (by simp only[XB]<;>omega) ⟨.int b.length,H,I.tok _,⟨s.toks+1,by rw[XB,a]⟩,q⟩
 ·obtain⟨its,d,pl,g⟩:=I.tuple c;have a:=d.length;exact len_tuple pl (by simp only[XB]<;>omega) ⟨.int b.length,H,I.tok _,⟨s.toks+1,by rw[XB,a]⟩,q⟩
theorem wC:fD X (.type "list") (λxs H Q=>∃p a,xs=[.ref p]/\(SqL X.K H p a\/SqT X.K H p a)/\∀l,H l=none->Q (.ref l) (upd H l (.lst a))):=by
 intro f s Z H xs us Q I r h;obtain⟨p,a,rfl,i,q⟩:=h;obtain⟨u,rfl,v⟩:=Fx r;cases v
 have k:∀(its:List Value),Vals a its->a.length<=sizeLine->∀(h':Heap) (d:Nat),(∀b o',s.heap.get? b=some o'->h'.get? b=some o')->
  h'.get? s.heap.objs.size=some {cls:=.type "list",dict:=none,data:=.seq its.toArray d,slots:=#[]}->EP X f Z Q (.ref s.heap.objs.size) {s with heap:=h'}:=λits c g h' d kp e=>
  ⟨.ref s.heap.objs.size,_,I.laid (t':=s.toks) kp (XD _) (show ObjOk X.prog X.w _ h' _ (.lst a) from⟨g,its,d,c,e⟩),rfl,q _ (I.hok.fresh (XD _))⟩
 rcases i with i|i
 ·obtain⟨its,c,pl,g⟩:=I.list i;have j:=c.length;obtain⟨o,m,t,n,hd⟩:=pl.isList;exact call_list_seq p (.inl rfl) m t hd (λh' d kp e=>k its c g h' d kp e) (by simp only[XB]<;>omega)
 ·obtain⟨its,c,pl,g⟩:=I.tuple i;have j:=c.length;obtain⟨o,m,t,n,hd⟩:=pl;exact call_list_seq p (.inr rfl) m t hd (λh' d kp e=>k its c g h' d kp e) (by simp only[XB]<;>omega)
theorem tE:fD X (.type "tuple") (λxs H Q=>∃p c,xs=[.ref p]/\((SqL X.K H p c/\∀l,H l=none->Q (.ref l) (upd H l (.tup c)))\/(SqT X.K H p c/\Q (.ref p) H))):=by
 intro a s Z H xs us Q I r h;obtain⟨p,c,rfl,h⟩:=h;obtain⟨u,rfl,k⟩:=Fx r;cases k;rcases h with ⟨f,q⟩|⟨f,q⟩
 · obtain⟨its,d,pl,g⟩:=I.list f;have i:=d.length;refine call_tuple_list pl.isList (λh' kp=>?_) (by simp only[XB]<;>omega);have j:Inv X a Z H {s with heap:=h'}:=I.kept (t':=s.toks) kp
   have m:Inv X a Z (upd H h'.objs.size (.tup c)) {s with heap:=h'.push {cls:=.type "tuple",data:=.seq its.toArray}}:=
    j.laid (t':=s.toks) (λb o e=>Xq _ e) (XD _) (show ObjOk X.prog X.w _ _ _ (.tup c) from⟨g,its,d,IsTup.new _ _⟩)
   exact⟨.ref h'.objs.size,_,m,rfl,q _ (j.hok.fresh (XD _))⟩
 ·obtain⟨its,d,pl,g⟩:=I.tuple f;exact call_tuple_same pl ⟨.ref p,H,I,rfl,q⟩
def tyV(K:L0)(T:String)(x:V)(H:Hp):Prop:=match x with
 |.str _=>T = "str"
 |.int _=>T = "int"
 | .ref p=>(T = "list" /\ ∃xs,SqL K H p xs)\/(T = "tuple" /\ ∃o,K.lookup p=some o/\o.cls=.type "tuple" /\ o.dict=none)\/
    (T = "dict" /\ ((∃a,H p=some (.dK a))\/∃a,H p=some (.dT a)))\/(T = "set" /\ ∃S n,H p=some (.set S n))
 |_=>False
theorem O1{d:L1}{Z:St}{H:Hp}{s:Shared}{T:String}{x:V}{v:Value}(I:Inv X d Z H s)(r:RelV x v)(ty:tyV X.K T x H):
 s.TypeIs v T/\∀a,v=.ref a->∃ob,s.heap.get? a=some ob/\ob.dict=none:=by
 cases x with
 |str z=>
   obtain⟨t,rfl⟩:=r;cases(show T = "str" from ty);exact⟨typeIs_str s z t,λ_ e=>nomatch e⟩
 |int i=>
   obtain⟨t,rfl⟩:=r;cases(show T = "int" from ty);exact⟨typeIs_int s i t,λ_ e=>nomatch e⟩
 |ref p=>
   cases r;rcases ty with ⟨rfl,xs,h⟩|⟨rfl,o,b,j,hd⟩|⟨rfl,b⟩|⟨rfl,S,n,b⟩
   ·obtain⟨its,_,pl,_⟩:=I.list h;refine⟨pl.isList.typeIs,λa e=>?_⟩;cases e;obtain⟨o,n,e,c,hd,_⟩:=pl;exact⟨o,e,hd⟩
   ·refine⟨⟨o,I.kIn p o b,j⟩,λa e=>?_⟩;cases e;exact⟨o,I.kIn _ o b,hd⟩
   · have z:∃o,s.heap.get? p=some o/\o.ExactDict:=by
      rcases b with ⟨f,b⟩|⟨f,b⟩
      ·obtain⟨_,_,_,_,o,_,_,e,ex,_⟩:=I.hok p _ b;exact⟨o,e,ex⟩
      ·obtain⟨_,_,_,_,o,_,_,e,ex,_⟩:=I.hok p _ b;exact⟨o,e,ex⟩
     obtain⟨o,e,ex⟩:=z;refine⟨⟨o,e,ex.1⟩,λa g=>?_⟩;cases g;exact⟨o,e,ex.2.1⟩
   ·obtain⟨o,_,_,_,e,ex,_⟩:=I.hok p _ b;refine⟨⟨o,e,ex.1⟩,λa g=>?_⟩;cases g;exact⟨o,e,ex.2.1⟩
 |_=>exact False.elim ty
def NL(K:L0)(T:String)(r:V->List V->Hp->VK->Prop)(to:TE)(t:TA):TE:=λZ H Q=>to Z H λx H1=>tyV K T x H1/\t Z H1 λxs a=>r x xs a Q
variable{o e:Expr}{es:List Expr}{to:TE}{t:TA}{name:Str}{apos cpos:Pos}{T id:String}{r:V->List V->Hp->VK->Prop}
theorem im(q:PlainAttrs T)(slot:Slot T name id)(g:typeOf (.builtin id)=pure (.type "method_descriptor"))(y:MtR X id r)(w:PE X o to)(z:PA X (e::es) t)
 (d:attributeBase o name X.env (eval o X.env)=eval o X.env:=by rfl)
 (f:((backTo cpos (starEach (e::es) X.env)).all (λx=>!x.1)&&(backToKw cpos (keywordEach [] X.env)).all (λx=>x.1.isSome)
   && decide ((e::es).length+([]:List Keyword).length+(if ([]:List Keyword).isEmpty then 0 else 1)<30))=true:=by rfl)
 (c:(apos.endLine==cpos.line)=true:=by rfl) (u:starEach (e::es) X.env=(false,eval e X.env)::starEach es X.env:=by rfl) (b:(backTo cpos (starEach es X.env)).any (·.1)=false:=by rfl):
 PE X (.Call (.Attribute o name apos) (e::es) [] cpos) (NL X.K T r to t):=by
 intro a s Z H Q I h;refine wpAny_Call_method_late d f c rfl (cQ (w a s Z H _ I h) λv l ⟨x,H1,k,i,ty,p⟩=>?_);obtain⟨B,A⟩:=O1 k i ty;refine⟨T,id,q,slot,g,B,A,?_⟩;have j:=z cpos a l Z H1 _ k p;rw[u]at j ⊢;refine Zf (by show(false||(backTo cpos (starEach es X.env)).any (·.1))=false;rw[b]<;>rfl) (Y0 ?_);exact cQ j λus s2 ⟨vs,D,C,m,n⟩=>y a s2 Z D x vs v us Q C i m n
end
def Xe(X:Cx)(id:String)(r:V->List V->Hp->VK->Prop):Prop:=
 ∀(a:L1) (s:Shared) (Z:St) (H:Hp) (x:V) (xs:List V) (v:Value) (us:List Value) (Q:VK),Inv X a Z H s->RelV x v->Vals xs us->r x xs H Q->
  wpAny (model X.prog X.w) X.A (call (.builtin id) (v::us)) (EP X a Z Q) X.xe s
theorem Vals.one:∀{x:V} {us:List Value},Vals [x] us->∃u,us=[u]/\RelV x u
 |_,_,.cons r .nil=>⟨_,rfl,r⟩
theorem Vals.eraseIdx:∀{xs:List V} {us:List Value} (i:Nat),Vals xs us->Vals (xs.eraseIdx i) (us.eraseIdx i)
 |_,_,_,.nil=>.nil
 |_,_,0,.cons _ t=>t
 |_,_,i+1,.cons r t=>.cons r (Vals.eraseIdx i t)
theorem t7{X:Type}:∀(l:List X) (i:Nat),(l.eraseIdx i).length<=l.length
 |[],_=>XD _
 |_::_,0=>Nat.le_succ _
 |_::r,i+1=>Nat.succ_le_succ (t7 r i)
section
variable{X:Cx}{pins:L1}{Z:St}{H:Hp}{s:Shared}{l b:Addr}{xs ys zs:List V}
theorem Inv.lset{its its':List Value}{n:Nat}{f:Array Value->Array Value}{t':Nat}(I:Inv X pins Z H s)(h:H l=some (.lst xs))
 (e:s.heap.get? l=some {cls:=.type "list",data:=.seq its.toArray n}) (d:f its.toArray=its'.toArray) (b:Vals ys its') (a:ys.length<=sizeLine):
 Inv X pins Z (upd H l (.lst ys)) {s with heap:=s.heap.update l (Obj.mapSeq f),toks:=t'}:=by
 have q:=PySem.IsL.update e f;rw[d]at q;refine I.write (x:=l) (e:=l) (by rw[h];exact trivial) (.inl rfl) (λi u g c=>(X9 s.heap (Obj.mapSeq f) (Y2 g)).trans c) ⟨_,q⟩ ?_;exact⟨a,its',_,b,q⟩
theorem Inv.lnew{its:List Value}{t':Nat}(I:Inv X pins Z H s)(b:Vals ys its)(a:ys.length<=sizeLine):
 Inv X pins Z (upd H s.heap.objs.size (.lst ys)) {s with heap:=s.heap.push {cls:=.type "list",data:=.seq its.toArray},toks:=t'}:=
 I.laid (λ_ _ q=>Xq _ q) (XD _) ⟨a,its,0,b,XI _ rfl⟩
theorem Inv.fresh(I:Inv X pins Z H s):H s.heap.objs.size=none:=I.hok.fresh (XD _)
theorem Inv.lstM(I:Inv X pins Z H s)(a:H l=some (.lst xs)):xs.length<=sizeLine/\∃(its:List Value) (n:Nat),Vals xs its/\xs.length=its.length/\s.heap.get? l=some {cls:=.type "list",data:=.seq its.toArray n}:=by
 obtain⟨z,its,n,r,e⟩:=I.hok l _ a;exact⟨z,its,n,r,r.length,e⟩
theorem HH{n:Nat}(h:n<=sizeLine):Builtin.List.listTooLong n=false:=by
 unfold Builtin.List.listTooLong;exact decide_eq_false (by omega)
end
section
variable{X:Cx}
def mW:V->List V->Hp->VK->Prop:=λx vs H Q=>∃l xs y,x=.ref l/\vs=[y]/\H l=some (.lst xs)/\xs.length<sizeLine/\Q .non (upd H l (.lst (xs++[y])))
theorem cO:Xe X "list.append" mW:=by
 intro a s Z H x vs v us Q I c d h;obtain⟨l,xs,y,rfl,rfl,b,g,q⟩:=h;cases c;obtain⟨u,rfl,f⟩:=d.one;obtain⟨z,its,n,r,i,e⟩:=I.lstM b;refine call_meets F.slot_list_append ⟨_,e,rfl⟩ F.entry_list_append (F.args_list_append_2 _ _) (PySem.list_append l its.toArray n u (by rw[XB];omega)) ⟨e,?_⟩;refine⟨.non,_,I.lset (its':=its++[u]) b e (by simp) (r.append (.cons f .nil)) ?_,rfl,q⟩;rw[Xo,Ye];omega
def CC:V->List V->Hp->VK->Prop:=λx vs H Q=>∃l b xs a,x=.ref l/\vs=[.ref b]/\H l=some (.lst xs)/\H b=some (.lst a)/\xs.length+a.length<=sizeLine/\Q .non (upd H l (.lst (xs++a)))
theorem EF:Xe X "list.extend" CC:=by
 intro d s Z H x vs v us Q I g i h;obtain⟨l,b,xs,w,rfl,rfl,f,p,A,q⟩:=h;cases g;obtain⟨u,rfl,j⟩:=i.one;cases j;obtain⟨z,its,n,r,B,e⟩:=I.lstM f;obtain⟨y,a,m,k,o,t⟩:=I.lstM p;have hsz:its.toArray.size+a.toArray.size<=sizeLine:=by rw[XB,XB];omega
 have c:¬ (!its.toArray.isEmpty&&Builtin.List.listTooLong (its.toArray.size+a.toArray.size))=true:=by
  rw[HH hsz,Bool.and_false];exact Xw
 refine call_meets F.slot_list_extend ⟨_,e,rfl⟩ F.entry_list_extend (F.args_list_extend_2 _ _)
  (AutoSeq1.list_extend_list_list_0 l its.toArray n b a.toArray m c (by rw[XB];omega) (by omega)) ⟨e,t,?_⟩
 refine⟨.non,_,I.lset (its':=its++a) f e (by simp) (r.append k) ?_,rfl,q⟩;rw[Xo];omega
def G5:V->List V->Hp->VK->Prop:=λx vs H Q=>∃l xs i k y,x=.ref l/\vs=[.int i]/\H l=some (.lst xs)/\-(2 ^ 63)<=i/\i<2 ^ 63/\seqIndex? i xs.length=some k/\xs[k]?=some y/\Q y (upd H l (.lst (xs.eraseIdx k)))
theorem HR:Xe X "list.pop" G5:=by
 intro b s Z H x vs v us Q I d f h;obtain⟨l,xs,i,k,y,rfl,rfl,c,B,A,p,j,q⟩:=h;cases d;obtain⟨u,rfl,g⟩:=f.one;obtain⟨t,rfl⟩:=g;obtain⟨z,its,n,r,o,e⟩:=I.lstM c;obtain⟨w,m,a⟩:=r.get j
 refine call_meets F.slot_list_pop ⟨_,e,rfl⟩ F.entry_list_pop (F.args_list_pop_2 _ _)
  (MeetsSeq.list_pop_at l its.toArray n i t k w (fitsIndex_both B A) (by rw[XB,<-o];exact p) (by rw[<-Zi];exact m) (by rw[XB];omega)) ⟨e,?_⟩
 refine⟨y,_,I.lset (its':=its.eraseIdx k) c e ?_ (r.eraseIdx k) ?_,a,q⟩
 ·show its.toArray.eraseIdxIfInBounds k=(its.eraseIdx k).toArray;rw[List.eraseIdxIfInBounds_toArray]
 · have:=t7 xs k
   omega
def PY:R2:=λx y H Q=>∃l b xs a,x=.ref l/\y=.ref b/\H l=some (.lst xs)/\H b=some (.lst a)/\xs.length+a.length<=sizeLine/\∀p,H p=none->Q (.ref p) (upd H p (.lst (xs++a)))
theorem ki:mP X (binaryOp .Add) PY:=by
 intro c s Z H x y v u Q I f d h;obtain⟨l,b,xs,p,rfl,rfl,j,k,A,q⟩:=h;cases f;cases d;obtain⟨z,its,n,r,B,e⟩:=I.lstM j;obtain⟨t,a,w,g,i,o⟩:=I.lstM k;refine PySem.P.add_list e o ?_ (by rw[XB,XB];omega);have m:its.toArray++a.toArray=(its++a).toArray:=by simp
 rw[m];exact⟨.ref _,_,I.lnew (t':=s.toks) (r.append g) (by rw[Xo];omega),rfl,q _ I.fresh⟩
end
end L2
namespace Att
open PySem PySem.W PySem.Calls PyProof.Rows
theorem pJ{P:Params}{h:Heap}:∀(ns:List Int) (vs:List Value),WellAll P h vs (ns.map WData.int)->IntsAre vs ns:=by
 intro ns
 induction ns with
 |nil=>
   intro vs w;rw[Ym]at w;cases w;exact .nil
 |cons n ns c=>
   intro vs w;rw[Xm]at w;cases w with
   |cons a b=>
     cases a;exact .cons _ _ (c _ b)
theorem Ev{l:OpenLaw}{n:Nat}(u:l.most=some n){P:Params}{h:Heap}{args:List WData}{b:List Value}
 (c:l.row.toRowW.claim.pre args=true) (j:WellAll P h b args):
 ∃a vs ns,b=[Value.ref a]/\args=[WData.list (ns.map WData.int)]/\h.get? a=some {cls:=.type "list",data:=.seq vs.toArray}/\IntsAre vs ns/\ns.length<=n:=by
 have k:WShape.hasAll [] args [.list .int]=true:=(pre_splitW c).1;have m:l.pre.holds [] {args:=args}=true:=(pre_splitW c).2;obtain⟨d,r,rfl,x,w⟩:=hasAllW_cons k;obtain rfl:=hasAllW_nil w;obtain⟨xs,rfl,v⟩:=hasW_list x;obtain⟨ns,rfl⟩:=items_int v
 have e:ns.length<=n:=by
  unfold OpenLaw.pre at m
  have i:(WTm.not (.lt (.lit (.int (n:Int))) (.len (.arg 0)))).holds [] {args:=[.list (ns.map .int)]}=true:=by
   have i:=(holds_andW m).1;rw[u]at i;exact i
  have g:=condW_of i (w_not (w_lt w_lit (w_len_list (w_arg rfl))));rw[on]at g;refine Nat.le_of_not_lt λq=>?_;have s:(n:Int)<((ns.length:Nat):Int):=by omega
  first
   |(rw[X8 s]at g;exact absurd g (by decide))
   |(simp at g;omega)
 cases j with
 |cons p o=>
   cases o;cases p with
   |list t f=>exact⟨_,_,ns,rfl,rfl,t,pJ ns _ f,e⟩
theorem EA(l:OpenLaw)(args:List WData):l.row.toRowW.claim.post args (.bool true) args=true:=
 postW_of (r:=l.row.toRowW) (X:=(true==true))
  (show WShape.has [] (.bool true) .bool=true by first | rfl | decide | simp[WShape.has,WShape.arms,WShape.armsAll])
  (show(WTm.eq .res (.lit (.bool true))).value [] {args:=args,res:=some (.bool true),after:=args}=some (.bool (true==true)) from w_eq_bool (w_res rfl) w_lit) rfl
theorem zw{l:OpenLaw}{n:Nat}{q:Program}{loose:List Str}{XP:(Str->Option Value)->Heap->Prop}{z:World->Heap->Prop}{d:DefRec}
 (D:l.most=some n) (t:d.params.defaults=[])
 (call:∀(w:World) (s₀ b:Shared) (mg m:Str->Option Value) (j:Addr) (o:Obj) (pm k e:Value) (a:Addr) (vs:List Value) (ns:List Int),
   Ground q loose [] XP w s₀ mg m b.heap->z w b.heap->
   b.heap.get? j=some o->o.data=.func (docDef d.name d.params d.body d.scope pm k e)->b.heap.CodeRec k d.name->mg d.name=some (.ref j)->
   b.heap.get? a=some {cls:=.type "list",data:=.seq vs.toArray}->IntsAre vs ns->ns.length<=n->b.gens=#[]->
   codeAny (model l.prog w) callerA (.call (.ref j) ⟨[.ref a],[]⟩) (λr s'=>r=.ok (.ret (.bool true))/\OldK b.heap s'.heap/\s'.os=b.os/\AllBare s'.gens) b):
 WalkO q loose XP z l.row.toRowW d [] (λf vs=>PySem.call f vs):=by
 intro w s₀ b mg m G Y j o pm k e L kV C hd u y s H args v as g x A p F;obtain rfl:L=.none:=Dflts.none y t;obtain rfl:kV=.none:=Dflts.noKw y;obtain⟨a,vs,ns,rfl,rfl,h,c,i⟩:=Ev D g p;refine enter_call (Ze (call w s₀ b mg m j o pm k e a vs ns G Y C (fd_plain hd) u s h c i H) λr s' B=>?_);obtain⟨rfl,K,J,I⟩:=B;exact⟨.inl ⟨.bool true,.bool true,[],rfl,λ_=>rfl,.bool true,EA l _,λ_=>⟨List.Pairwise.nil,λ_ E=>(nomatch E)⟩⟩,K,J,I⟩
end Att
namespace L2
open PySem PySem.Spec PyProof.Rows
theorem tI:∀{vs:List Value} {ns:List Int},IntsAre vs ns->Vals (ns.map V.int) vs
 |_,_,.nil=>.nil
 |_,_,.cons n t h=>.cons ⟨t,rfl⟩ (tI h)
abbrev Tbs:=List (Addr×Pos×Str)
def Tbs.at(T:Tbs)(b:Addr):List (Pos×Str):=(T.filter λp=>p.1==b).map (·.2)
def Tbs.ok(T:Tbs):Prop:=∀y∈T,∀z∈T,y.2.1.line=z.2.1.line->y.2.1.col=z.2.1.col->y.2.2=z.2.2
theorem Tbs.mem{T:Tbs}{b:Addr}{y:Pos×Str}:y∈T.at b↔(b,y)∈T:=by
 unfold Tbs.at;simp only[List.mem_map,List.mem_filter,beq_iff_eq];constructor
 ·rintro⟨⟨c,x⟩,⟨e,d⟩,a⟩;dsimp only at d a;subst d a;exact e
 ·intro h;exact⟨(b,y),⟨h,rfl⟩,rfl⟩
def Le(T:Tbs)(H:Hp):Prop:=(∀p∈T,H p.1=some (.tbl (T.at p.1)))/\∀b,H b=none\/(∃o xs,H b=some (.frz o (.lst xs)))\/H b=some (.tbl (T.at b))
theorem JE{P:Program}{w:World}{K:L0}{mg mb:Str->Option Value}{CX:BQ}{k:Nat}{fa a:Addr}{fd:FuncData}{x:Str}{sp:Sp}{f:Shared}{vs:List Value}{ns:List Int}{T:Tbs}
 (KX:K.In f.heap) (Y:f.heap.Ns mainGlobals mg) (i:f.heap.Ns builtinsNs mb) (hbb:∀x:Str,x ≠ "__name__" -> mb x=bootBuiltins x) (Z:f.heap.NoLimit) (hg:f.gens=#[])
 (hbm:∃bm ob,mg "__builtins__" = some (.ref bm)/\bm≠builtinsNs/\f.heap.get? bm=some ob/\ob.cls=.type "module" /\ ob.dict=some builtinsNs/\ob.data=.plain)
 (hT:∀p∈T,∃c,PySem.W.CodeHd f.heap c p.1/\f.heap.get? p.1=some (PySem.W.tabObj #[])) (hTK:∀p∈T,K.lookup p.1=none) (hTo:T.ok)
 (N:f.heap.get? a=some {cls:=.type "list",data:=.seq vs.toArray}) (hi:IntsAre vs ns) (hl:ns.length<=sizeLine) (hr:Room k callerA)
 (F:∀base:Heap,K.In base->base.Ns mainGlobals mg->(∀c P,PySem.W.CodeHd f.heap c P->PySem.W.CodeHd base c P)->FnOk P w K mg base CX k fa fd [x] sp) (I:∀(s:Shared) (u:Value),BindsTo s fd ⟨[u],[]⟩ [(x,u)])
 (hsp:∀H:Hp,Le T H->SqL K H a (ns.map V.int)->sp [.ref a] H (λv _=>v=.bl true) λ_ _ _=>False)
 (hCX:∀H e s',CX [] H f (λ_ _ _=>False) e s'->False):
 codeAny (model P w) callerA (.call (.ref fa) ⟨[.ref a],[]⟩) (λr s'=>r=.ok (.ret (.bool true))/\OldK f.heap s'.heap/\s'.os=f.os/\AllBare s'.gens) f:=by
 have rv:=tI hi;have X:=hi.length
 -- from an O heap in which U but the C and the tables may be Q
 have core:∀H:Hp,Le T H->SqL K H a (ns.map V.int)->HOk P w H f.heap->(∀b,H b≠none->b=a\/∃p∈T,p.1=b)->(H a≠none->K.lookup a=none)->
  codeAny (model P w) callerA (.call (.ref fa) ⟨[.ref a],[]⟩) (λr s'=>r=.ok (.ret (.bool true))/\OldK f.heap s'.heap/\s'.os=f.os/\AllBare s'.gens) f:=by
  intro H hO hS hok hA hK;have g:∀{b:Addr} {o:Obj},f.heap.get? b=some o->H b=none->(qR f.heap H).get? b=some o:=λe n=>JM e n
  have noB:∀{b:Addr} {o:Obj},f.heap.get? b=some o->o≠{cls:=.type "list",data:=.seq vs.toArray}->o≠PySem.W.tabObj #[]->H b=none:=λ{b o} e J d2=>by
   cases q:H b with
   |none=>rfl
   |some u=>
     rcases hA b (by rw[q];simp) with j | ⟨p,hp,j⟩
     ·subst j;rw[N]at e;exact absurd (XQ e).symm J
     ·subst j;obtain⟨_,_,e2⟩:=hT p hp;rw[e2]at e;exact absurd (XQ e).symm d2
  have noA:∀{b:Addr} {o:Obj} {es:Array DictEntry} {ep:Nat},f.heap.get? b=some o->o.data=.dict es ep->H b=none:=λ{b o es ep} e d=>
   noB e (λz=>by rw[z]at d;cases d) (λz=>by rw[z]at d;cases d)
  have D:∀{b:Addr} {m:Str->Option Value},f.heap.Ns b m->(qR f.heap H).Ns b m:=λ{b m} ⟨o,es,ep,e,d,r⟩=>⟨o,es,ep,g e (noA e d),d,r⟩
  have hKb:K.In (qR f.heap H):=λb o e=>g (KX b o e) (by
   cases q:H b with
   |none=>rfl
   |some u=>
     rcases hA b (by rw[q];simp) with j | ⟨p,hp,j⟩
     ·subst j;rw[hK (by rw[q];simp)]at e;cases e
     · subst j
       rw[hTK p hp]at e;cases e)
  have hbm':∃bm ob,mg "__builtins__" = some (.ref bm)/\bm≠builtinsNs/\(qR f.heap H).get? bm=some ob/\ob.cls=.type "module" /\ ob.dict=some builtinsNs/\ob.data=.plain:=by
   obtain⟨bm,ob,h1,h2,h3,h4,h5,h6⟩:=hbm;exact⟨bm,ob,h1,h2,g h3 (noB h3 (λz=>by rw[z]at h6;cases h6) λz=>by rw[z]at h6;cases h6),h4,h5,h6⟩
  have hcd:∀c P,PySem.W.CodeHd f.heap c P->PySem.W.CodeHd (qR f.heap H) c P:=λc P h=>by
   obtain⟨o,vs',file,tf,L,tg,Vg,R,tt,e,A,r⟩:=h;exact⟨o,vs',file,tf,L,tg,Vg,R,tt,g e (noB e (λz=>by rw[z]at A;simp at A) λz=>by rw[z]at A;simp at A),A,r⟩
  have hM:Mod K mg (qR f.heap H):=⟨hKb,D Y,⟨mb,D i,hbb⟩,(let ⟨mc,h1,h2⟩:=Z;⟨mc,D h1,h2⟩),hbm'⟩;have e0:Env0 P w K mg (qR f.heap H) callerA [] f H:=⟨rfl,hM,λb o e=>Ms e,Nat.le_of_eq (EZ _ _),trivial,λb i=>absurd (show b∈([]:List Addr) from i) (by simp),hok,.of_eq hg⟩;refine Ze ((F _ hKb (D Y) hcd).run callerA [] f H ⟨[.ref a],[]⟩ [.ref a] [.ref a] _ _ hr e0 (I f (.ref a)) (.cons rfl .nil) (hsp H hO hS)) λr s' h=>?_;cases r with
  |error e=>exact(hCX H e s' h).elim
  |ok fl=>
    cases fl with
    |next=>exact False.elim h
    |brk=>exact False.elim h
    |cont=>exact False.elim h
    |ret u=>
      obtain⟨v,H',os,bare,un,E,r',q⟩:=h;have q':v=.bl true:=q;subst q';obtain rfl:u=Value.bool true:=r';refine⟨rfl,⟨λb o e=>?_,λb o e=>un.there b o e (by simp)⟩,os,bare⟩;cases q:H b with
      |none=>exact .inl (un.keep b o e q (by intro z;exact absurd (show b∈([]:List Addr) from z) (by simp)) (by simp))
      |some u=>
        rcases hO.2 b with z|⟨ob,xs,z⟩|z
        ·rw[q]at z;cases z
        ·have z2:=un.frzs b ob _ z;obtain⟨e1,_⟩:=hok b _ z;obtain⟨e2,_⟩:=E b _ z2;rw[e]at e1;cases e1;exact .inl e2
        · have z2:=(un.tbls b _ z).1;obtain⟨_,ps,e2,_⟩:=E b _ z2
          have hb':∃p∈T,p.1=b:=by
           rcases hA b (by rw[q];simp) with j | j
           ·subst j;obtain⟨_,ps',l,_⟩:=hok b _ z;rw[N]at l;cases l
           ·exact j
          obtain⟨p,hp,j⟩:=hb';obtain⟨c,A,l⟩:=hT p hp;rw[j]at l A;rw[e]at l;cases l;refine .inr (.inl ⟨(A.tab (ps:=#[]) e).isCodeTable,rfl,#[],ps,rfl,?_⟩);rw[e2];simp
 have t:∀(H:Hp) (b:Addr),(∃p∈T,p.1=b)->ObjOk P w H f.heap b (.tbl (T.at b)):=λH b ⟨p,hp,e⟩=>by
  obtain⟨c,A,l⟩:=hT p hp;rw[e]at l;exact⟨λy hy z hz h1 h2=>hTo _ (Tbs.mem.mp hy) _ (Tbs.mem.mp hz) h1 h2,#[],l,trivial,λy hy=>.inl rfl⟩
 have G:∀p∈T,p.1≠a:=λp hp z=>by
  obtain⟨c,A,l⟩:=hT p hp;rw[z,N]at l;cases l
 cases hk:K.lookup a with
 |some o=>
   -- the C is one of the M own S
   have e:=KX a o hk;rw[N]at e;cases e;have hTa:¬ ∃p∈T,p.1=a:=λ⟨p,hp,z⟩=>G p hp z;have dec:∀b,Decidable (∃p∈T,p.1=b):=λb=>Classical.propDecidable _;refine core (λb=>if ∃p∈T,p.1=b then some (.tbl (T.at b)) else none) ⟨λp hp=>Xl ⟨p,hp,rfl⟩,λb=>?_⟩ (.inr ⟨_,vs.toArray,_,hk,rfl,rfl,rfl,by rw[XB,X];exact hl,by simpa using rv⟩) (λb u z=>?_) (λb z=>?_) λz=>absurd (Xj hTa) z
   · by_cases h:∃p∈T,p.1=b
     ·exact .inr (.inr (Xl h))
     ·exact .inl (Xj h)
   · by_cases h:∃p∈T,p.1=b
     ·have B:=(Xl h).symm.trans z;cases B;exact t _ b h
     ·have B:=(Xj h).symm.trans z;cases B
   · by_cases h:∃p∈T,p.1=b
     ·exact .inr h
     ·exact absurd (Xj h) z
 |none=>
   have dec:∀b,Decidable (∃p∈T,p.1=b):=λb=>Classical.propDecidable _;have hTa:∀{b},(∃p∈T,p.1=b)->b≠a:=λ⟨p,hp,z⟩ e=>G p hp (z.trans e);refine core (λb=>if b=a then some (.frz {cls:=.type "list",data:=.seq vs.toArray} (.lst (ns.map V.int))) else if ∃p∈T,p.1=b then some (.tbl (T.at b)) else none) ⟨λp hp=>(Xj (G p hp)).trans (Xl ⟨p,hp,rfl⟩),λb=>?_⟩ (.inl (.inr ⟨{cls:=.type "list",data:=.seq vs.toArray},Xl rfl⟩)) (λb u z=>?_) (λb z=>?_) λ_=>hk
   · by_cases i:b=a
     ·exact .inr (.inl ⟨_,_,Xl i⟩)
     · by_cases h:∃p∈T,p.1=b
       ·exact .inr (.inr ((Xj i).trans (Xl h)))
       ·exact .inl ((Xj i).trans (Xj h))
   · by_cases i:b=a
     ·have B:=(Xl i).symm.trans z;cases B;subst i;exact⟨N,by rw[on];exact hl,vs,_,rv,N⟩
     · by_cases h:∃p∈T,p.1=b
       ·have B:=((Xj i).trans (Xl h)).symm.trans z;cases B;exact t _ b h
       ·have B:=((Xj i).trans (Xj h)).symm.trans z;cases B
   · by_cases i:b=a
     ·exact .inl i
     · by_cases h:∃p∈T,p.1=b
       ·exact .inr h
       ·exact absurd ((Xj i).trans (Xj h)) z
abbrev Tns:=List (Str×Pos×Str)
structure TabsOf (mg:Str->Option Value) (h:Heap) (N:Tns) (T:Tbs):Prop where
 all:∀n∈N,∃P,(P,n.2)∈T/\∃a o fd c,mg n.1=some (.ref a)/\h.get? a=some o/\o.data=.func fd/\fd.code=.ref c/\PySem.W.CodeHd h c P
theorem tN{p:Program}{loose:List Str}{b:ExcName->Option Value}{mg s:Str->Option Value}{h:Heap}(l:PyProof.Rows.Top p loose b mg s h):∀(N:Tns),(∀n∈N,n.1∈(PyProof.Rows.recsOf p).map (·.name))->
 ∃T:Tbs,TabsOf mg h N T/\(∀q∈T,∃c,PySem.W.CodeHd h c q.1/\h.get? q.1=some (PySem.W.tabObj #[]))/\∀q∈T,∃n∈N,n.2=q.2
 |[],_=>⟨[],⟨λ_ h=>nomatch h⟩,λ_ h=>(nomatch h),λ_ h=>(nomatch h)⟩
 | n::N,j=>by
   obtain⟨T,w,v,u⟩:=tN l N λm f=>j m (no _ f);obtain⟨d,hd,e⟩:=X5.mp (j n Xk);obtain⟨a,o,fd,c,P,C,B,A,y,x,k⟩:=l.tab d hd;have i:=PySem.W.CodeHd.of x k;refine⟨(P,n.2)::T,⟨λm f=>?_⟩,λq g=>?_,λq g=>?_⟩
   · rcases Xv.mp f with z|z
     ·subst z;exact⟨P,Xk,a,o,fd,c,by rw[<-e];exact C,B,A,y,i⟩
     ·obtain⟨D,t,r⟩:=w.all m z;exact⟨D,no _ t,r⟩
   · rcases Xv.mp g with z|z
     ·subst z;exact⟨c,i,k.2⟩
     ·exact v q z
   · rcases Xv.mp g with z|z
     ·subst z;exact⟨n,Xk,rfl⟩
     ·obtain⟨m,f,e⟩:=u q z;exact⟨m,no _ f,e⟩
def Tns.ok(N:Tns):Prop:=∀y∈N,∀z∈N,y.2.1.line=z.2.1.line->y.2.1.col=z.2.1.col->y.2.2=z.2.2
def HL(K:L0):Bool:=K.all λp=>match p.2.cls,p.2.data with
 |.none,.fields vs=>!vs.isEmpty
 |_,_=>true
theorem qI{X:Type}:∀{K:List (Nat×X)} {b:Nat} {o:X},K.lookup b=some o->(b,o)∈K
 | (c,x)::r,b,o,h=>by
   rw[X7]at h;by_cases z:b=c
   ·subst z;rw[YQ]at h;cases h;exact Xk
   ·rw[beq_false_of_ne z]at h;exact no _ (qI h)
theorem tj{K:L0}{h:Heap}{b:Addr}(X:K.In h)(c:HL K=true)(e:h.get? b=some (PySem.W.tabObj #[])):K.lookup b=none:=by
 cases q:K.lookup b with
 |none=>rfl
 |some o=>
   have a:=X b o q;rw[e]at a;cases a
   have:=YE.mp c (b,PySem.W.tabObj #[]) (qI q)
   cases this
theorem Lv{l:PySem.W.OpenLaw}{n k:Nat}{q:Program}{loose:List Str}{XP:(Str->Option Value)->Heap->Prop}{YP:World->Heap->Prop}{d:DefRec}{K:Params->L0}{CX:World->BQ}{sp:World->Tbs->Sp}{x:Str}(N:Tns)
 (hn:l.most=some n) (E:n<=sizeLine) (M:d.params.defaults=[]) (hr:Room k callerA)
 (hY:∀(w:World) (h:Heap),YP w h->(K w.params).In h) (hK:∀w:World,N≠[]->HL (K w.params)=true) (hN:∀n∈N,n.1∈(PyProof.Rows.recsOf q).map (·.name)) (Q:Tns.ok N)
 (F:∀(w:World) (mg:Str->Option Value) (C:Addr) (h:Heap) (T:Tbs),(K w.params).In h->h.Ns mainGlobals mg->mg d.name=some (.ref C)->TabsOf mg h N T->
   ∃fd:FuncData,(∀(s:Shared) (u:Value),BindsTo s fd ⟨[u],[]⟩ [(x,u)])/\
    ∀base:Heap,(K w.params).In base->base.Ns mainGlobals mg->(∀c P,PySem.W.CodeHd h c P->PySem.W.CodeHd base c P)->FnOk l.prog w (K w.params) mg base (CX w) k C fd [x] (sp w T))
 (D:∀(w:World) (T:Tbs) (H:Hp) (a:Addr) (ns:List Int),ns.length<=n->Le T H->SqL (K w.params) H a (ns.map V.int)->sp w T [.ref a] H (λv _=>v=.bl true) λ_ _ _=>False)
 (R:∀(w:World) (H:Hp) (s:Shared) (e:Value) (s':Shared),CX w [] H s (λ_ _ _=>False) e s'->False):
 PySem.W.WalkO q loose XP YP l.row.toRowW d [] (λf vs=>PySem.call f vs):=by
 refine Att.zw hn M λw s₀ t mg mb C o pm cd doc a vs ns G Y ho hd hcd I A j i hg=>?_;have X:=hY w _ Y;obtain⟨T,O,B,r⟩:=tN G.T N hN;obtain⟨fd,hb,hF⟩:=F w mg C _ T X G.T.g I O;refine JE (T:=T) X G.T.g G.T.b G.T.builtins G.T.nolimit hg G.T.bmain B (λp hp=>?_) (λy hy z hz h1 h2=>?_) A j (XY i E) hr hF hb (λH hO hS=>D w T H a ns i hO hS) λH e s'=>R w H t e s'
 ·obtain⟨c,_,e⟩:=B p hp;obtain⟨m,Z,_⟩:=r p hp;exact tj X (hK w (λz=>by rw[z]at Z;cases Z)) e
 ·obtain⟨m1,L,U⟩:=r y hy;obtain⟨m2,J,S⟩:=r z hz;rw[<-U,<-S];exact Q m1 L m2 J (by rw[U];exact h1 |>.trans (by rw[S])) (by rw[U];exact h2 |>.trans (by rw[S]))
def dE(s:Stmt)(j:Nat):Stmt:=match s with
 |.ClassDef _ _ _ body _ _ _ _ _ _ _=>body.getD j (.Pass ⟨0,0,0,0⟩)
 |_=> .Pass ⟨0,0,0,0⟩
def nr(s:Stmt):Arguments:=match s with
 |.FunctionDef _ a _ _ _ _ _ _ _ _=>a
 |_=>{posonlyargs:=[],args:=[],vararg:=none,kwonlyargs:=[],kw_defaults:=[],kwarg:=none,defaults:=[]}
def dh(s:Stmt):List Stmt:=match s with
 |.FunctionDef _ _ b _ _ _ _ _ _ _=>b
 |_=>[]
def ao(s:Stmt):Scope:=match s with
 |.FunctionDef _ _ _ _ _ _ sc _ _ _=>sc
 |_=>{kind:=.function,names:=[],isGenerator:=false,isCoroutine:=false}
abbrev Xi:BQ:=λ_ _ _ _ _ _=>False
abbrev E0:XK:=λ_ _ _=>False
structure Fun (K:L0) (x qual:Str) (st:Stmt) (f:Addr) (fd:FuncData):Prop where
 ex:∃(oc:Value) (od:Option Addr) (kV doc pm:Value) (an:Option Addr) (cdv ct:Value) (osl:Array (Option Value)),
  fd=PySem.W.fnOf x qual (nr st) (dh st) (ao st) .none kV doc pm an cdv ct/\K.lookup f=some ⟨oc,od,.func fd,osl⟩/\PySem.W.codeIn K cdv qual=true
 kp:PySem.W.keepIn K (.ref f)=true
section
variable{P:Program}{w:World}{K:L0}{mg:Str->Option Value}{base:Heap}
theorem Fun.binds{x qual:Str}{st:Stmt}{f:Addr}{fd:FuncData}{ps:List Str}(F:Fun K x qual st f fd)
 (h:∀(kV a pm:Value) (an:Option Addr) (b ct:Value) (us:List Value),us.length=ps.length->bindArgs (PySem.W.fnOf x qual (nr st) (dh st) (ao st) .none kV a pm an b ct) ⟨us,[]⟩=pure (ps.zip us)):Binds K fd ps []:=by
 obtain⟨oc,e,kV,a,pm,an,b,ct,c,rfl,lk,d⟩:=F.ex;exact .all (h kV a pm an b ct)
theorem Ry{x qual:Str}{st:Stmt}{f:Addr}{oc:Value}{e an:Option Addr}{d:Array (Option Value)}{kV b pm a ct:Value}(l:K.lookup f=some ⟨oc,e,.func (PySem.W.fnOf x qual (nr st) (dh st) (ao st) .none kV b pm an a ct),d⟩)
 (c:PySem.W.codeIn K a qual=true) (k:PySem.W.keepIn K (.ref f)=true):Fun K x qual st f (PySem.W.fnOf x qual (nr st) (dh st) (ao st) .none kV b pm an a ct):=⟨⟨oc,e,kV,b,pm,an,a,ct,d,rfl,l,c⟩,k⟩
end
theorem i7{A:Around}{k:Nat}(a:Room k A):A.units+1<cLine:=YI (Nat.add_le_add_left (by decide:1<=64) _) a.units
theorem Et{n:Nat}(h:n<=1000):n<sizeLine:=YI h (by decide)
section
variable{X:Cx}
theorem pv(i:Nat){x:Str}{pos:Pos}(c:X.N[i]?=some x:=by rfl)(b:Xb X.env.scope x:=by first | exact Or.inl rfl | exact Or.inr (Or.inl rfl) | exact Or.inr (Or.inr rfl))(hd:(x == ("__debug__" : Str))=false:=by decide)
 (a:(x==("__classdict__" : Str))=false:=by decide):PE X (.Name x pos) (dF i):=P0 c b hd a
end
def Same(H H':Hp):Prop:=∀b o,H b=some o->H' b=some o
theorem Same.refl(H:Hp):Same H H:=λ_ _ h=>h
theorem Same.trans{H H1 d:Hp}(a:Same H H1)(b:Same H1 d):Same H d:=λc o h=>b c o (a c o h)
theorem Same.free{H H':Hp}(e:Same H H'){l:Addr}(h:H' l=Option.none):H l=Option.none:=by
 cases q:H l with
 |none=>rfl
 |some o=>
   rw[e l o q]at h;cases h
def dk(env:Env):List (Str×NameKind)->List (Str×Addr)->List (Str×Addr)
 |[],acc=>acc
 |(n,k)::r,acc=>if (k==NameKind.free)=true then dk env r ((n,(env.cells.lookup n).getD 0)::acc) else dk env r acc
theorem jH{env:Env}{y:Str}{c:Addr}:∀{l:List (Str×NameKind)} {acc:List (Str×Addr)},(∀z∈l,z.2=.free->∃c,env.cells.lookup z.1=some c)->(dk env l acc).lookup y=some c->
 acc.lookup y=some c\/env.cells.lookup y=some c
 |[],acc,_,h=>.inl h
 | (n,k)::r,acc,b,h=>by
   unfold dk at h;split at h
   · rename_i f;rcases jH (λz a=>b z (no _ a)) h with e|e
     · by_cases q:(y==n)=true
       · have g:y=n:=by simpa using q
         subst g;obtain⟨i,d⟩:=b (y,k) List.mem_cons_self (by simpa using f);dsimp only at d;rw[List.lookup_cons,beq_self_eq_true,d]at e;exact .inr (d.trans e)
       ·rw[Bool.not_eq_true]at q;rw[X7,q]at e;exact .inl e
     ·exact .inr e
   ·exact jH (λz a=>b z (no _ a)) h
theorem jI{env:Env}{y:Str}:∀{l:List (Str×NameKind)} {acc:List (Str×Addr)},((y,NameKind.free)∈l\/∃c,acc.lookup y=some c)->∃c,(dk env l acc).lookup y=some c
 | [],acc,h=>by
   rcases h with h|h
   ·cases h
   ·exact h
 | (n,k)::r,acc,h=>by
   unfold dk;split
   · rename_i a;refine jI ?_;by_cases q:(y==n)=true
     ·exact .inr ⟨_,by rw[X7,q]⟩
     · rw[Bool.not_eq_true]at q;rcases h with h|⟨c,h⟩
       · rcases Xv.mp h with e|e
         ·cases e;rw[YQ]at q;cases q
         ·exact .inl e
       ·exact .inr ⟨c,by rw[X7,q];exact h⟩
   · rename_i a;refine jI ?_;rcases h with h|h
     · rcases Xv.mp h with e|e
       ·cases e;exact absurd (by rfl) a
       ·exact .inl e
     ·exact .inr h
theorem ka{scope:Scope}{env:Env}{y:Str}{k:NameKind}(h:(relabel scope env).names.lookup y=some k):∃k',(y,k')∈scope.names/\(k'=k\/(k'= .free/\k=.cell)):=by
 obtain⟨⟨n,k0⟩,a,e⟩:=List.mem_map.mp (PySem.mem_of_lookup h);dsimp only at e;split at e
 ·rename_i b;simp only[YF,Zl]at b;cases e;exact⟨k0,a,.inr ⟨b.1.1,rfl⟩⟩
 ·cases e;exact⟨_,a,.inl rfl⟩
structure CompSc (osc sc:Scope) (x:Str) (cs:List Str):Prop where
 kind:sc.kind=.function
 cell:∀y∈sc.names,y.2≠ .cell
 loc:∀y∈sc.names,y.2=.local->sc.names.lookup y.1=some .local
 var:sc.names.lookup x=some .local
 cap:∀y∈cs,(osc.names.lookup y=some .cell\/osc.names.lookup y=some .free)/\sc.names.lookup y=some .free
 free:∀y∈sc.names,y.2=.free->osc.names.lookup y.1=some .cell\/osc.names.lookup y.1=some .free
 nd:(x::cs).Nodup
def kF(X:Cx)(scope:Scope)(b:List (Str×Addr))(C:Addr)(N:List Str)(a:List Addr)(s₀:Shared)(H₀:Hp):Cx where
 prog:=X.prog
 w:=X.w
 K:=X.K
 mg:=X.mg
 base:=X.base
 A:=X.A
 N:=N
 s₀:=s₀
 H₀:=H₀
 env:=compEnvC scope b C X.env
 outer:=X.stack
 stack:=X.stack
 ex:=a
 fn:=λ_=>false
 calm:=X.calm
 pn:=[]
 xe:=λ_ _=>False
def jY(Z:St)(ix:List Nat):St:=ix.map λj=>(Z[j]?).join
section
variable{X:Cx}{pins:L1}{Z:St}{H:Hp}{s:Shared}{scope:Scope}{x:Str}{cs:List Str}{ix:List Nat}{fp:List Addr}
theorem zm(I:Inv X pins Z H s)(a:CompSc X.env.scope scope x cs):∀y∈scope.names,y.2=.free->∃c,X.env.cells.lookup y.1=some c:=λy b d=>I.ok.has _ (a.free y b d)
theorem JK{g:Heap}{t₁:Nat}{U:Str->Option Value}(I:Inv X pins Z H s)(n:CompSc X.env.scope scope x cs)(D:ix.map (λi=>X.N[i]?)=cs.map some)(K:∀b∈fp,sR X pins H b)
 (P:∀b∈fp,b<s.heap.objs.size) (hn:g.Ns s.heap.objs.size U) (J:∀b o,s.heap.get? b=some o->g.get? b=some o):
 Inv (kF X scope (dk X.env scope.names []) s.heap.objs.size (x::cs) fp s H) [] (none::jY Z ix) H {s with heap:=g,toks:=t₁}:=by
 have T:=zm I n
 have d:∀y c,(dk X.env scope.names []).lookup y=some c->X.env.cells.lookup y=some c:=λy c e=>by
  rcases jH T e with z|z
  ·cases z
  ·exact z
 have t:ix.length=cs.length:=by
  have:=congrArg List.length D
  rwa [on,on]at this
 refine⟨⟨I.ok.mod,n.kind,I.ok.glob,I.ok.blt,XD _,λy z c R E=>I.ok.inj y z c (d y c R) (d z c E),λy hy=>?_,λy c h=>(nomatch h),I.ok.hd,I.ok.frames,.inl rfl,λb A=>⟨XN (P b A),λy c e=>(K b A).2.2.2.2.1 y c (d y c e)⟩,
  I.bs,XY I.ok.bsz I.sz,λb o e A=>?_,λb A Q=>?_,I.stack,I.stkFree⟩,rfl,I.bare,Un.kept J,⟨U,hn,λi y v R E h3=>?_⟩,λy c e=>?_,I.hok.fresh (XD _),λy c e=>I.freeC y c (d y c e),λp hp=>absurd (show p∈([]:L1) from hp) (by simp),I.hok.kept J,?_⟩
 · have M:(relabel scope X.env).names.lookup y=some .cell\/(relabel scope X.env).names.lookup y=some .free:=hy
   have:(y,NameKind.free)∈scope.names:=by
    rcases M with q|q
    · obtain⟨k',B,e|⟨e,_⟩⟩:=ka q
      ·subst e;exact absurd rfl (n.cell _ B)
      ·subst e;exact B
    · obtain⟨k',B,e|⟨_,e⟩⟩:=ka q
      ·subst e;exact B
      ·cases e
   exact jI (.inl this)
 · rcases(K b A).2.2.2.1 with z|z
   ·exact I.ok.noex b o e z
   ·exact absurd (XG (Xu e) (XY I.ok.bsz z)) (Yj _)
 · rcases Xv.mp (I.stkSub b Q) with z|z
   ·exact(K b A).2.1 z
   ·exact(K b A).2.2.1 z
 · -- a C name
   cases i with
   |zero=>
     have:(none::jY Z ix:St)[0]?=some none:=rfl
     rw[this]at E;cases E
   |succ j=>
     have F:cs[j]?=some y:=R;have f:(jY Z ix)[j]?=some (some v):=E;unfold jY at f;rw[List.getElem?_map]at f;cases S:ix[j]? with
     |none=>rw[S]at f;cases f
     |some k=>
       rw[S]at f;have L:(Z[k]?).join=some v:=XQ f
       have h5:Z[k]?=some (some v):=by
        cases e:Z[k]? with
        |none=>rw[e]at L;cases L
        |some w=>rw[e]at L;exact congrArg some L
       have h6:X.N[k]?=some y:=by
        have q:=congrArg (λl=>l[j]?) D;simp only[X3,S,F,Zo]at q;exact XQ q
       obtain⟨c1,Y⟩:=n.cap y (Yv F);obtain⟨m,hn',hl⟩:=I.loc;obtain⟨u,r,l⟩:=hl k y v h6 h5 (c1.elim (λz=>.inr (.inl z)) λz=>.inr (.inr z));refine⟨u,r,?_⟩;rcases l with ⟨l,_⟩|⟨_,c,ec,hc⟩
       ·have V:X.env.scope.names.lookup y=some .local:=l;rcases c1 with z|z<;>(rw[z]at V;cases V)
       · obtain⟨c',G⟩:=jI (env:=X.env) (y:=y) (l:=scope.names) (acc:=[]) (.inl (YA Y));have W:=d y c' G;rw[ec]at W;cases W;refine .inr ⟨?_,c,G,?_⟩
         · rcases h3 with z|z|z
           · have z':(relabel scope X.env).names.lookup y=some .local:=z;obtain ⟨k',B,e | ⟨_,e⟩⟩:=ka z'
             · subst e
               have:=n.loc _ B rfl
               dsimp only at this;rw[Y]at this;cases this
             ·cases e
           ·exact .inl z
           ·exact .inr z
         ·obtain⟨o,O,hd⟩:=hc;exact⟨o,J c o O,hd⟩
 ·obtain⟨v,o,O,hd⟩:=I.cell y c (d y c e);exact⟨v,o,J c o O,hd⟩
 ·show(none::jY Z ix:St).length=(x::cs).length;rw[Xp,Xp,jY,on,t]
end
def S5(X:Cx)(b:List Expr)(t:TT):Prop:=
 ∀(a:L1) (s:Shared) (Z:St) (H:Hp) (Q:Bool->Hp->Prop),Inv X a Z H s->t Z H Q->
  wpAny (model X.prog X.w) X.A (forIn b true λc r=>if r=true then do let ok <-isTrue c X.env (eval c X.env);pure (ForInStep.yield ok) else pure (ForInStep.yield r)) (TP X a Z Q) X.xe s
def Tb:TT:=λ_ H Q=>Q true H
theorem fY{X:Cx}:S5 X [] Tb:=λ_ _ _ H _ I h=>wpAny_tests_nil ⟨H,I,h⟩
theorem mX{X:Cx}{c:Expr}{t:TT}(h:PT X c t):S5 X [c] t:=λa s Z H Q I b=>wpAny_tests_one (h a s Z H Q I b)
section
variable{prog:Program}{w:World}{A:Around}{R:Result->Shared->Prop}{s:Shared}
theorem zk{o a iter:Expr}{k:List Expr}{scope:Scope}{pos:Pos}{B acc:Value}{env:Env}(I:Nat->Shared->Prop)
 (p:∀n s,I n s->wpAny (model prog w) A (pyNext B) (λr b=>match r with
   |none=>R (.ok .next) b
   |some v=>wpAny (model prog w) A (letOwnedTupleGo a B v) (λ_ b=>wpAny (model prog w) A (assign a env v) (λ_ g=>
      wpAny (model prog w) A (forIn k true λc r=>if r=true then do let ok <-isTrue c env (eval c env);pure (ForInStep.yield ok) else pure (ForInStep.yield r)) (λok d=>
       if ok=true then wpAny (model prog w) A (eval o env) (λx f=>
        wpAny (model prog w) A (call (.builtin "list.append") [acc,x]) (λ_ e=>∃m,m<n/\I m e) (λ_ _=>False) f) (λ_ _=>False) d
       else ∃m,m<n/\I m d) (λ_ _=>False) g) (λ_ _=>False) b) (λ_ _=>False) b) (λ_ _=>False) s)
 (n:Nat) (h:I n s):codeAny (model prog w) A (.compLoop (.ListComp o [⟨a,iter,k,0⟩] scope pos) 0 B acc env) R s:=by
 refine codeAny_loop rfl I (λn s D=>?_) n h;have up:∀{X:Type} {t:Sem X} {Q:X->Shared->Prop} {E:L4} {s:Shared},wpAny (model prog w) A t Q (λ_ _=>False) s->wpAny (model prog w) A t Q E s:=λh=>Y8 h (λ_ _ z=>z) λ_ _ z=>z.elim;show wpAny _ A ((compTurn (.ListComp o [⟨a,iter,k,0⟩] scope pos) 0 B acc env).onRaise _) _ _ s;refine wpAny_noted (up ?_);rw[compTurn_list];refine Xn (wpAny_standAt (Xn (cQ (p n s D) λr b j=>?_)));cases r with
 |none=>exact XC j
 |some v=>
   refine Xn (cQ j λ_ C l=>Xn (cQ l λ_ g y=>Xn (cQ y λok d i=>?_)));cases ok with
   |false=>exact XC ⟨rfl,i⟩
   |true=>exact Xn (Xn (cQ i λx f u=>Xn (cQ u λ_ e q=>XC (XC ⟨rfl,q⟩))))
end
def Lf(J:It)(τ:V->St)(h:TT)(te:TE)(p:Addr)(H1:Hp)(Q:VK):Prop:=
 ∃W:Nat->Nat->List V->Hp->Prop,(∃m,W 0 m [] (upd H1 p (.lst [])))/\∀i m a c,W i m a c->c p=some (.lst a)/\a.length<sizeLine/\
  ((J.stop i c/\Q (.ref p) c)\/(J.go i c/\∀v g,J.yld i c v g->h (τ v) g λb f=>if b=true then te (τ v) f λy e=>e p=some (.lst a)/\∃d,d<m/\W (i+1) d (a++[y]) (upd e p (.lst (a++[y])))
    else ∃d,d<m/\W (i+1) d a f))
def qc(a:TI)(ix:List Nat)(b:TT)(te:TE):TE:=λZ H Q=>a Z H λJ H1=>∀p,H1 p=none->Lf J (λv=>some v::jY Z ix) b te p H1 Q
section
variable{X:Cx}{pins:L1}{Z:St}{H:Hp}{s:Shared}{scope:Scope}{x:Str}{px pos:Pos}{cs:List Str}{ix:List Nat}{fp:List Addr}{elt iter:Expr}{ifs:List Expr}{ti:TT}{te:TE}
theorem sw{J:It}{it:Addr}{Q:Nat->Heap->Prop}{Qe:VK}{RR:Value->Addr->Result->Shared->Prop}{E:L4}(O:X.calm=true)(I2:Inv X pins Z H s)(f:CompSc X.env.scope scope x cs)(hix:ix.map (λi=>X.N[i]?)=cs.map some)
 (T:Turn X.prog X.w X.K (.Name x px) J fp it Q) (st0:Q 0 s.heap) (t:∀b∈fp,sR X pins H b)
 (hti:∀C fp s₀ H₀,S5 (kF X scope (dk X.env scope.names []) C (x::cs) fp s₀ H₀) ifs ti) (hte:∀C fp s₀ H₀,PE (kF X scope (dk X.env scope.names []) C (x::cs) fp s₀ H₀) elt te)
 (hW:∀p,H p=none->Lf J (λv=>some v::jY Z ix) ti te p H Qe)
 (hRR:∀p C H' s',Inv X pins Z H' s'->sR X pins H' C->(∃m,s'.heap.Ns C m)->Qe (.ref p) H'->RR (.ref p) C (.ok .next) s'):
 wpAny (model X.prog X.w) X.A (newList []) (λacc S=>wpAny (model X.prog X.w) X.A (newFunctionEnv scope X.env.globals (dk X.env scope.names []) [] X.env.qual none .none (some X.env)) (λG R=>
  codeAny (model X.prog X.w) X.A (.compStart (.ListComp elt [⟨.Name x px,iter,ifs,0⟩] scope pos) 0 (.ref it) acc { G with scope:=relabel scope X.env }) (RR acc G.locals) R) E S) E s:=by
 refine wpAny_newObj_type (wpAny_newFunctionEnv f.cell (by intro y hy;simp at hy) (λg j h=>?_) f.kind);dsimp only at j h ⊢;have hD:H s.heap.objs.size=none:=I2.hok.fresh (Nat.le_refl _)
 have I3:Inv X pins Z (upd H s.heap.objs.size (.lst [])) {s with heap:=s.heap.push {cls:=.type "list",dict:=none,data:=.seq ([]:List Value).toArray}}:=
  I2.laid (t':=s.toks) (λb u e=>Xq _ e) (XD _) ⟨YS _,[],0,.nil,XI _ rfl⟩
 obtain⟨W,⟨m0,w0⟩,P⟩:=hW _ hD
 have F:∀b∈fp,b<s.heap.objs.size:=λb a=>by
  obtain⟨o,e,_⟩:=T.obj 0 _ st0 b a;exact Xu e
 have hlt:∀b∈fp,b<(s.heap.push {cls:=.type "list",dict:=none,data:=.seq ([]:List Value).toArray}).objs.size:=λb a=>by
  rw[YZ];exact Zz (F b a)
 have hf3:∀b∈fp,sR X pins (upd H s.heap.objs.size (.lst [])) b:=λb a=>⟨by rw[a7 (XN (F b a))];exact(t b a).1,(t b a).2⟩
 have kept:∀b o,(s.heap.push {cls:=.type "list",dict:=none,data:=.seq ([]:List Value).toArray}).get? b=some o->g.get? b=some o:=λb o e=>
  h.extBut b o (XN (Xu e)) (Xq _ e)
 have M:∀b o,s.heap.get? b=some o->g.get? b=some o:=λb o e=>kept b o (Xq _ e);have I4:=JK (t₁:=s.toks+([]:List (Str×Value)).length) I3 f hix hf3 hlt j kept;have st4:Q 0 g:=T.keep 0 _ _ st0 λb _ o e=>M b o e
 have D:codeAny (model X.prog X.w) X.A (.compLoop (.ListComp elt [⟨.Name x px,iter,ifs,0⟩] scope pos) 0 (.ref it) (.ref s.heap.objs.size) (compEnvC scope (dk X.env scope.names []) (s.heap.push {cls:=.type "list",dict:=none,data:=.seq ([]:List Value).toArray}).objs.size X.env))
  (RR (.ref s.heap.objs.size) (s.heap.push {cls:=.type "list",dict:=none,data:=.seq ([]:List Value).toArray}).objs.size) {s with heap:=g,toks:=s.toks+([]:List (Str×Value)).length}:=by
  generalize k:kF X scope (dk X.env scope.names []) (s.heap.push {cls:=.type "list",dict:=none,data:=.seq ([]:List Value).toArray}).objs.size (x::cs) fp {s with heap:=s.heap.push {cls:=.type "list",dict:=none,data:=.seq ([]:List Value).toArray}} (upd H s.heap.objs.size (.lst []))=Y at I4;have hti':S5 Y ifs ti:=by rw[<-k];exact hti _ _ _ _
  have hte':PE Y elt te:=by rw[<-k];exact hte _ _ _ _
  have hcY:Y.calm=true:=by rw[<-k];exact O
  have hg:PG Y (.Name x px) (eZ 0):=by
   rw [<-k];exact bf f.nd rfl (.inl (lookup_relabel_local f.var)) (.inr (lookup_relabel_local f.var))
  have f4:∀{H':Hp},(∀b∈fp,H' b=none)->∀b∈fp,sR Y [] H' b:=λ{H'} hn b a=>by
   rw[<-k];refine⟨hn b a,XN (hlt b a),λz=>?_,.inl a,λy c e z=>?_,λp hp=>absurd (show p∈([]:L1) from hp) (by simp)⟩
   · rcases Xv.mp (I3.stkSub b z) with q|q
     ·exact(t b a).2.1 q
     ·exact(t b a).2.2.1 q
   · rcases jH (zm I2 f) e with q|q
     ·cases q
     ·exact(t b a).2.2.2.2.1 y c q z
  have fin:∀{B:Option V} {H':Hp} {s':Shared},Inv Y [] (B::jY Z ix) H' s'->Qe (.ref s.heap.objs.size) H'->RR (.ref s.heap.objs.size) (s.heap.push {cls:=.type "list",dict:=none,data:=.seq ([]:List Value).toArray}).objs.size (.ok .next) s':=λ{B H' s'} J q=>by
   rw[<-k]at J;have Ix:Inv X pins Z H' s':=I3.call' (ch:=fp) J.os J.base J.hok J.bare λb a=>⟨(t b a).2.2.2.1,(t b a).2.1,(t b a).2.2.2.2.1,(t b a).2.2.2.2.2⟩;refine hRR _ _ H' s' Ix (I3.fpOk (XD _) J.free) ?_ q;obtain⟨m,hm,_⟩:=J.loc;exact⟨m,hm⟩
  have eY:compEnvC scope (dk X.env scope.names []) (s.heap.push {cls:=.type "list",dict:=none,data:=.seq ([]:List Value).toArray}).objs.size X.env=Y.env:=by rw[<-k];rfl
  have eP:X.prog=Y.prog:=by rw[<-k];rfl
  have eW:X.w=Y.w:=by rw[<-k];rfl
  have eK:X.K=Y.K:=by rw[<-k];rfl
  have eA:X.A=Y.A:=by rw[<-k];rfl
  have eX:Y.xe=λ_ _=>False:=by rw[<-k];rfl
  rw[eP,eW,eK]at T;rw[eY,eP,eW,eA];refine zk (λn s'=>∃i I B H',Inv Y [] (B::jY Z ix) H' s'/\Q i s'.heap/\(∀b∈fp,H' b=none)/\W i n I H') ?_ m0 ⟨0,[],none,_,I4,st4,λb a=>(hf3 b a).1,w0⟩;rintro n s' ⟨i,I,B,H',I',st',fr',w'⟩;obtain⟨hp,hlen,U⟩:=P i n I H' w';rcases U with ⟨stop,q⟩|⟨go,step⟩
  ·refine cQ (T.done Y rfl rfl rfl hcY i [] s' (B::jY Z ix) H' (λ_ _=>False) I' (f4 fr') st' stop) λr s1 ⟨hr,I1⟩=>?_;subst hr;exact fin I1 q
  · refine cQ (T.item Y rfl rfl rfl hcY i [] s' (B::jY Z ix) H' (λ_ _=>False) I' (f4 fr') st' go) λr s1 ⟨u,hr,h4⟩=>?_;subst hr;refine cQ h4 λ_ s2 ⟨v,H2,J2,r2,y2,L,fr2⟩=>?_;have J2p:=J2.pinned (f4 fr2) (T.obj _ _ L)
    have again:∀{l:St} {H7:Hp} {s7:Shared},Inv Y ([]++qv fp s2.heap) l H7 s7->Q (i+1) s7.heap/\∀b∈fp,H7 b=none:=λ{l H7 s7} I7=>by
     refine⟨T.keep _ _ _ L λb a o e=>(I7.pin (b,o) (Xr _ (Xr _ (js a e)))).1,λb a=>?_⟩;obtain⟨o,e,d⟩:=T.obj _ _ L b a;exact(I7.pin (b,o) (Xr _ (Xr _ (js a e)))).2.1
    have hga:=hg _ s2 (B::jY Z ix) H2 v u (λl H'=>l=some v::jY Z ix/\H'=H2) J2p r2 ⟨rfl,rfl⟩;rw[eX]at hga;refine cQ hga λ_ s3 ⟨σ3,H3,J3,e3,e3'⟩=>?_;subst e3 e3';have htt:=hti' _ s3 _ H3 _ J3 (step v H3 y2);rw[eX]at htt;refine cQ htt λb s4 ⟨H4,J4,q4⟩=>?_;cases b with
    |false=>
      rw[Xj Xw]at q4 ⊢;obtain⟨m',hm,w4⟩:=q4;exact⟨m',hm,i+1,I,some v,H4,J4.unpinned,(again J4).1,(again J4).2,w4⟩
    |true=>
      rw[Xl rfl]at q4 ⊢;have hee:=hte' _ s4 _ H4 _ J4 q4;rw[eX]at hee;refine cQ hee λy s5 ⟨yv,H5,J5,r5,hp5,m',hm,w5⟩=>?_;have hap:=cO (X:=Y) _ s5 _ H5 (.ref s.heap.objs.size) [yv] (.ref s.heap.objs.size) [y] (λ_ H6=>H6=upd H5 s.heap.objs.size (.lst (I++[yv]))) J5 rfl (.cons r5 .nil) ⟨_,I,yv,rfl,rfl,hp5,hlen,rfl⟩;rw[eX]at hap;refine cQ hap λ_ s6 ⟨_,H6,J6,_,e6⟩=>?_;subst e6;exact⟨m',hm,i+1,I++[yv],some v,_,J6.unpinned,(again J6).1,(again J6).2,w5⟩
 exact codeAny_compStart_list D (T.self _ 0 _ _ _ st4 D)
theorem gH{n:TI}(c:X.calm=true)(hi:PI X (.Name x px) iter n)(a:CompSc X.env.scope scope x cs)(k:ix.map (λi=>X.N[i]?)=cs.map some)
 (f:∀C fp s₀ H₀,S5 (kF X scope (dk X.env scope.names []) C (x::cs) fp s₀ H₀) ifs ti) (g:∀C fp s₀ H₀,PE (kF X scope (dk X.env scope.names []) C (x::cs) fp s₀ H₀) elt te)
 (l:closureFor scope X.env=pure (dk X.env scope.names []):=by rfl) (t:∀x,foldedSetIterable iter X.env x=pure x:=by intro _;rfl):
 PE X (.ListComp elt [⟨.Name x px,iter,ifs,0⟩] scope pos) (qc n ix ti te):=by
 intro pins s Z H Q I h;rw[eval_ListComp];refine wpAny_comprehension_free (use:=none) rfl t l a.kind a.loc (cQ (hi pins s Z H _ I h) λv S D=>cQ D λr s2 B=>?_);obtain⟨U,fp,R,J,V,e,O,T,d,K,z⟩:=B;subst e;refine sw (RR:=λacc C=>compPost (model X.prog X.w) X.A X.xe none (EP X pins Z Q) acc C) c O a k T d K f g z ?_;rintro p C H' s' P ⟨M,L,_,G,F,E⟩ ⟨m,u⟩ q;exact⟨m,u,λh' j=>⟨.ref p,H',P.turned (t':=s'.toks) (λb o y e=>j.extBut b o y e) M L G F E,rfl,q⟩⟩
theorem fM{L:TI}{y:Str}{py a:Pos}{i:Nat}(f:X.calm=true)(hN:X.N.Nodup)(F:X.N[i]?=some y)(W:S6 X.env.scope y)(hi:PI X (.Name x px) iter L)(d:CompSc X.env.scope scope x cs)(E:ix.map (λi=>X.N[i]?)=cs.map some)
 (n:∀C fp s₀ H₀,S5 (kF X scope (dk X.env scope.names []) C (x::cs) fp s₀ H₀) ifs ti) (r:∀C fp s₀ H₀,PE (kF X scope (dk X.env scope.names []) C (x::cs) fp s₀ H₀) elt te)
 (t:swapsWith (.ListComp elt [⟨.Name x px,iter,ifs,0⟩] scope pos) (some (.Name y py)) a.line X.env=pure true:=by rfl)
 (G:closureFor scope X.env=pure (dk X.env scope.names []):=by rfl) (Y:∀x,foldedSetIterable iter X.env x=pure x:=by intro _;rfl)
 (hf:X.fn y=true\/X.env.scope.names.lookup y=some .local:=by first | exact .inl rfl | exact .inr rfl | assumption):
 PS X (.Assign [.Name y py] (.ListComp elt [⟨.Name x px,iter,ifs,0⟩] scope pos) a) (uP (qc L ix ti te) (eZ i)):=by
 intro pins s Z H D I h;rw[exec_Assign_Name_used _ _ _ _ t];refine Xn (wpAny_standAt (Xn ?_));show wpAny _ X.A (do let _ <-comprehension (.ListComp elt [⟨.Name x px,iter,ifs,0⟩] scope pos) scope X.env _ (newList []) false (eval iter X.env) (some (assign (.Name y py) X.env))) _ _ s;refine Xn (cQ (wpAny_comprehension_free (Q:=λ_ s'=>SP X pins D .next s') rfl Y G d.kind d.loc (cQ (hi pins s Z H _ I h) λv s1 h1=>cQ h1 λV s2 h2=>?_)) λ_ s' hq=>XC (XC hq));obtain⟨it,fp,tn,J,H2,e,I2,T,l,f2,hW⟩:=h2;subst e;refine sw (RR:=λacc C=>compPost (model X.prog X.w) X.A X.xe (some (assign (.Name y py) X.env)) (λ_ s'=>SP X pins D .next s') acc C) f I2 d E T l f2 n r hW ?_;rintro p C H' s' P ⟨f0,M,K,f3,f4,f5⟩ ⟨m,hm⟩ q;obtain⟨j,es,ep,B,g,S⟩:=hm
 have Ip:Inv X (pins++[(C,j)]) Z H' s':=P.pins_of λp hp=>(XE.mp hp).elim (λz=>P.pin p (Xr _ z)) λz=>by
  have e:p=(C,j):=by simpa using z
  subst e;exact⟨B,f0,M,K,λv z=>by rw[g]at z;cases z⟩
 have hg:PG X (.Name y py) (eZ i):=bf hN F W hf;refine cQ (hg _ s' Z H' (.ref p) (.ref p) D.nx Ip rfl q) λ_ R ⟨k,H3,O,U⟩=>?_;have c:=O.pin (C,j) (Xr _ (Xr _ (by simp)));refine⟨m,⟨j,es,ep,c.1,g,S⟩,λh' u=>?_⟩;exact⟨k,H3,(O.unpinned).turned (t':=R.toks) (λb o hb e=>u.extBut b o hb e) c.2.1 M f3 f4 f5,U⟩
end
mutual
def Den(K:L0)(H:Hp):PyData->V->Prop
 |.none,v=>v=.non
 |.bool b,v=>v=.bl b
 |.int i,v=>v=.int i
 |.str x,v=>v=.str x
 |.list ds,v=>∃a xs,v=.ref a/\SqL K H a xs/\Dens K H ds xs
 |.tuple ds,v=>∃a xs,v=.ref a/\SqT K H a xs/\Dens K H ds xs
 |.dict _,_=>False
def Dens(K:L0)(H:Hp):List PyData->List V->Prop
 |[],xs=>xs=[]
 |d::ds,xs=>∃x r,xs=x::r/\Den K H d x/\Dens K H ds r
end
section
variable{X:Cx}{pins:L1}{Z:St}{H:Hp}{s:Shared}
mutual
theorem den_reads(I:Inv X pins Z H s):∀(d:PyData) {v:V} {u:Value},Den X.K H d v->RelV v u->∃as,Reads s.heap u d as
 | .none,v,u,h,r=>by
   rw[Den]at h;subst h;have c:u=Value.none:=r;subst c;exact⟨_,.none⟩
 | .bool b,v,u,h,r=>by
   rw[Den]at h;subst h;have c:u=Value.bool b:=r;subst c;exact⟨_,.bool b⟩
 | .int i,v,u,h,r=>by
   rw[Den]at h;subst h;obtain⟨t,c⟩:=(show ∃t,u=Value.int i t from r);subst c;exact⟨_,.int i t⟩
 | .str x,v,u,h,r=>by
   rw[Den]at h;subst h;obtain⟨t,c⟩:=(show ∃t,u=Value.str x t from r);subst c;exact⟨_,.str x t⟩
 | .list ds,v,u,h,r=>by
   rw[Den]at h;obtain⟨a,xs,rfl,j,hd⟩:=h;have c:u=Value.ref a:=r;subst c;obtain⟨its,f,p,m⟩:=I.list j;obtain⟨as,g⟩:=dens_reads I ds hd f;obtain⟨o,k,l,n,e⟩:=p.isList;exact⟨_,.list k l e (by simpa using g)⟩
 | .tuple ds,v,u,h,r=>by
   rw[Den]at h;obtain⟨a,xs,rfl,j,hd⟩:=h;have c:u=Value.ref a:=r;subst c;obtain⟨its,f,p,m⟩:=I.tuple j;obtain⟨as,g⟩:=dens_reads I ds hd f;obtain⟨o,k,l,n,e⟩:=p;exact⟨_,.tuple k l e (by simpa using g)⟩
 | .dict _,v,u,h,r=>by
   rw[Den]at h;exact h.elim
theorem dens_reads(I:Inv X pins Z H s):∀(ds:List PyData) {xs:List V} {us:List Value},Dens X.K H ds xs->Vals xs us->∃as,ReadsAll s.heap us ds as
 | [],xs,us,h,r=>by
   rw[Dens]at h;subst h;cases r;exact⟨_,.nil⟩
 | d::ds,xs,us,h,r=>by
   rw[Dens]at h;obtain⟨x,t,rfl,f,g⟩:=h;cases r with
   |cons e c=>
     obtain⟨as,b⟩:=den_reads I d f e;obtain⟨bs,a⟩:=dens_reads I ds g c;exact⟨_,.cons b a⟩
end
end
theorem uo{K:L0}{H:Hp}:∀ns:List Int,Dens K H (ns.map PyData.int) (ns.map V.int)
 |[]=>by rw[Ym,Ym,Dens]
 | n::r=>by
   rw[Xm,Xm,Dens];exact⟨_,_,rfl,by rw[Den],uo r⟩
theorem yi{K:L0}{H:Hp}{a:Addr}{ns:List Int}(h:SqL K H a (ns.map V.int)):Den K H (.list (ns.map PyData.int)) (.ref a):=by
 rw[Den];exact⟨a,_,rfl,h,uo ns⟩
theorem JT(ns M:List Int):PyData.eqv (.list (ns.map PyData.int)) (.list (M.map PyData.int))=decide (ns=M):=by
 rw[<-SeqAt.same_eq_eqv _ _ (by simp only[SeqAt.noMix];exact PySem.W.noMix_ints ns M)];simp only[same];exact PySem.W.same_ints ns M
section
variable{X:Cx}
def G7(K:L0)(neg:Bool):R2:=λx y H Q=>∃d e,Den K H d x/\Den K H e y/\SeqAt.shaped d=true/\SeqAt.shaped e=true/\Q (.bl (if neg then !PyData.eqv d e else PyData.eqv d e)) H
theorem Qn(k:X.A.units+64<cLine):mP X (compareOp .Eq) (G7 X.K false):=by
 intro a s Z H x y v u Q I g f h;obtain⟨d,e,hd,l,c,b,q⟩:=h;obtain⟨as,j⟩:=den_reads I d hd g;obtain⟨bs,i⟩:=den_reads I e l f;exact eq_dataH j i c b k ⟨.bl _,H,I,rfl,q⟩
theorem Qk(k:X.A.units+64<cLine):mP X (compareOp .NotEq) (G7 X.K true):=by
 intro a s Z H x y v u Q I g f h;obtain⟨d,e,hd,l,c,b,q⟩:=h;obtain⟨as,j⟩:=den_reads I d hd g;obtain⟨bs,i⟩:=den_reads I e l f;exact ne_dataH j i c b k ⟨.bl _,H,I,rfl,q⟩
theorem Qm(j:X.A.units+65<cLine):mP X (compareOp .In) (λx y H Q=>∃d xs,Den X.K H d x/\Den X.K H (.list xs) y/\SeqAt.shaped d=true/\SeqAt.shaped (.list xs)=true/\(∀z∈xs,SeqAt.noMix z d=true)/\Q (.bl (decide (countIn d xs≠0))) H):=by
 intro a s Z H x y v u Q I f e h;obtain⟨d,xs,hd,k,c,b,nm,q⟩:=h;obtain⟨as,i⟩:=den_reads I d hd f;obtain⟨bs,g⟩:=den_reads I _ k e;exact in_list_dataH g i b c j nm ⟨.bl _,H,I,rfl,q⟩
end
section
variable{X:Cx}
theorem K4:fD X (.builtin "isinstance") (λxs H Q=>∃x c t b,xs=[x,.ty c]/\TyOf X.K H x t/\PySem.W.kitOne X.K t (.type c)=some b/\Q (.bl b) H):=by
 intro a s Z H xs us Q I r h;obtain⟨x,c,t,b,rfl,ty,e,q⟩:=h;obtain⟨u,d,rfl,j,i⟩:=BS r;have g:d=Value.type c:=i;subst g;exact ET I j ty e λf=>⟨.bl b,H,I.tok f,rfl,q⟩
end
def Vb(g:Bool):String:=cond g "max.loop" "min.loop"
def SX(g:Bool):String:=cond g "max" "min"
def WM(g:Bool):CmpOp:=cond g .Gt .Lt
theorem Ro:∀g,plainId (Vb g)=true|false=>PySem.F.plain_min_loop|true=>PySem.F.plain_max_loop
theorem W0:∀g,entryFor table (Vb g)=some (cond g Builtin.«max.loop» Builtin.«min.loop»)|false=>PySem.F.entry_min_loop|true=>PySem.F.entry_max_loop
theorem xmE:∀g,entryFor table (SX g)=some (cond g Builtin.«max» Builtin.«min»)|false=>PySem.F.entry_min|true=>PySem.F.entry_max
theorem xmP:∀g,builtinKind (SX g)=none/\plainId (SX g)=true|false=>⟨PySem.F.kind_min,PySem.F.plain_min⟩|true=>⟨PySem.F.kind_max,PySem.F.plain_max⟩
theorem Nh(a d:Value):∀g,argsOk (SX g) ⟨[a],[(Str.ofString "default",d)]⟩|false=>by unfold argsOk;kernel_rfl|true=>by unfold argsOk;kernel_rfl
theorem WD:(toString "min" ++ toString ".loop" : String)=Vb false:=by decide
theorem WC:(toString "max" ++ toString ".loop" : String)=Vb true:=by decide
section
variable{prog:Program}{w:World}{A:Around}{R:Result->Shared->Prop}{I:Addr}{fp wr:List Addr}{n:Nat}{P:Nat->Value->Prop}{St:Nat->Heap->Prop}
theorem J1(g:Bool)(W:Walks prog w A.in1 I fp wr n P St)(T:List (Str×Value))(x:Nat->Nat->Bool)(S:Addr)(L:S∉fp)(G:Shared->Prop)
 (N:∀(s:Shared) h' l,G s->(∀b o,b∉wr->b≠S->s.heap.get? b=some o->h'.get? b=some o)->G {s with heap:=h',toks:=l})
 (F:∀i j J H (s:Shared) (Q:L4) (E:L4),G s->P i J->P j H->Q (.bool (x i j)) s->wpAny (model prog w) A.in1 (richCompare (WM g) J H) Q E s):∀(k j:Nat) (s:Shared) (h:Value) (c:Nat),
 n-(j+1)=k->j+1<=n->G s->St (j+1) s.heap->P (argBest x j) h->s.heap.get? S=some {cls:=.type "list",dict:=none,data:=.seq #[h,h] c,slots:=#[]}->
 (∀v h' l,P (argBest x (n-1)) v->(∀b o,b∉wr->b≠S->s.heap.get? b=some o->h'.get? b=some o)->R (.ok (.ret v)) {s with heap:=h',toks:=l})->
 codeAny (model prog w) A (.builtin (Vb g) ⟨[.ref I,.none,.ref S],T⟩) R s:=by
 have K:S∉wr:=λz=>L (W.sub _ z);cases g
 all_goals
  intro k
  induction k with
  |zero=>
    intro j s h c X V g st C B p;refine Y7 (W0 _) ?_;rw[YM (Ro _) _];refine Xn (m:=seqItems? (.ref S)) (wpAny_seqItems B rfl ?_);refine Xn (m:=tryCatch (pyNext (.ref I)) _) (Zg (W.done s _ _ ((show j+1=n by omega)▸st) λh' l kp=>?_));refine Xn (m:=updateSeq S (λ_=>#[])) ?_;refine ZX (kp S _ K B) rfl (Xn (Aa3 (XC ?_)));exact p h _ l (by rw[show n-1=j by omega];exact C) λb o f q e=>(X9 _ _ (Y2 q)).trans (kp b o f e)
  |succ k M=>
    intro j s h c X V g st C B p;have lt:j+1<n:=by omega
    refine Y7 (W0 _) ?_;rw[YM (Ro _) _];refine Xn (m:=seqItems? (.ref S)) (wpAny_seqItems B rfl ?_);refine Xn (m:=tryCatch (pyNext (.ref I)) _) (Zg (W.item (j+1) s _ _ lt st λv h' l pv y kp=>?_));have t:=kp S _ K B;have g':G {s with heap:=h',toks:=l}:=N s h' l g λb o f _ e=>kp b o f e;refine Xn (m:=tryCatch (holding [v,v] (richCompare _ v h >>= _)) _) (Zg (wpAny_holding (Xn (F (j+1) (argBest x j) v h _ _ _ g' pv C ?_))));refine Xn (wpAny_holding (Yq (Xn (Aa3 (XC ?_)))));cases O:x (j+1) (argBest x j) with
    |true=>
      rw[Xl rfl];refine Xn ?_;refine ZX t rfl (Xn (Aa3 ?_))
      first | rw[WD] | rw[WC]
      refine XC ⟨Y6 (Ro _) _,M (j+1) _ v _ (by omega) lt (N _ _ l g' λb o f q e=>(X9 _ _ (Y2 q)).trans e) (W.frame _ _ _ y λb U o e=>?_) (by simp only[argBest,O,if_true];exact pv) (Zj _ t rfl) λD u a r d=>?_⟩
      ·exact(X9 _ _ (λz:S=b=>L (by rw[z];exact U))).trans e
      ·exact p D u a r λb o f q e=>d b o f q ((X9 _ _ (Y2 q)).trans (kp b o f e))
    |false=>
      rw[Xj Xw];refine Xn (Aa3 ?_)
      first | rw[WD] | rw[WC]
      exact XC ⟨Y6 (Ro _) _,M (j+1) _ h c (by omega) lt g' y (by simp only[argBest,O,Zw,ZL];exact C) t λD u a r d=>p D u a r λb o f q e=>d b o f q (kp b o f e)⟩
end
section
variable{prog:Program}{w:World}{A:Around}{E:L4}{s:Shared}
theorem zv(g:Bool){x d:Value}{Q:L4}
 (h:wpAny (model prog w) A.in1 (pyIter x) (λO a=>∃I u f n P St y,∃G:Shared->Prop,O=.ref I/\Walks prog w A.in1 I u f n P St/\St 0 a.heap/\(∀b∈u,b<a.heap.objs.size)/\
   G a/\(∀(s:Shared) h' c,G s->(∀b o,b∉f->b≠a.heap.objs.size->s.heap.get? b=some o->h'.get? b=some o)->G {s with heap:=h',toks:=c})/\
   (∀i j M L (s:Shared) (Q:L4) (E:L4),G s->P i M->P j L->Q (.bool (y i j)) s->wpAny (model prog w) A.in1 (richCompare (WM g) M L) Q E s)/\
   (n=0->∀h' c,(∀b o,b∉f->a.heap.get? b=some o->h'.get? b=some o)->Q d {a with heap:=h',toks:=c})/\
   (0<n->∀v h' c,P (argBest y (n-1)) v->(∀b o,b∉f->a.heap.get? b=some o->h'.get? b=some o)->Q v {a with heap:=h',toks:=c})) E s):
 wpAny (model prog w) A (call (.builtin (SX g)) [x] [(Str.ofString "default",d)]) Q E s:=by
 cases g
 all_goals
  refine kmk_tree (xmP _).1 (xmP _).2 (xmE _) (Nh _ _ _) ?_;refine Xn (m:=Builtin.Builtins.bindParams _ ["key","default"] 0 ⟨[],[(Str.ofString "default",d)]⟩) (wpAny_of_eq (show _=pure [none,some d] from rfl) ?_);refine Xn (XC (Xn (Y8 h (λO a t=>?_) λ_ _ e=>e)));obtain⟨I,u,f,n,P,St,y,G,rfl,W,st,F,Z,R,K,U,T⟩:=t;refine Xn (ZA ?_);have D:a.heap.objs.size∉u:=λz=>Yj _ (F _ z);have V:a.heap.objs.size∉f:=λz=>D (W.sub _ z)
  first | rw[WD] | rw[WC]
  have p:=W.frame _ _ (a.heap.push {cls:=.type "list",dict:=none,data:=.seq ([]:List Value).toArray}) st λb _ o e=>Xq _ e;have N:(a.heap.push {cls:=.type "list",dict:=none,data:=.seq ([]:List Value).toArray}).get? a.heap.objs.size=some {cls:=.type "list",dict:=none,data:=.seq ([]:List Value).toArray}:=XI _ rfl;refine XC ⟨Y6 (Ro _) _,Y7 (W0 _) ?_⟩;rw[YM (Ro _) _];refine Xn (m:=seqItems? (.ref a.heap.objs.size)) (wpAny_seqItems N rfl ?_);by_cases H:n=0
  ·refine Xn (m:=tryCatch (pyNext (.ref I)) _) (Zg (W.done _ _ _ (H▸p) λh' c kp=>?_));refine Xn (m:=rule _) (wpAny_rule (XC ?_));exact U H h' c λb o k e=>kp b o k (Xq _ e)
  · have lt:0<n:=Nat.pos_of_ne_zero H;refine Xn (m:=tryCatch (pyNext (.ref I)) _) (Zg (W.item 0 _ _ _ lt p λv h' c pv B kp=>?_));have q:=kp _ _ V N;refine Xn (m:=updateSeq a.heap.objs.size (λ_=>#[v,v])) ?_;refine ZX q rfl ?_
    first | rw[WD] | rw[WC]
    refine XC ⟨Y6 (Ro _) _,J1 _ W _ y _ D G R K _ 0 _ v _ rfl lt (R a _ _ Z λb o k Y e=>(X9 _ _ (Y2 Y)).trans (kp b o k (Xq _ e))) (W.frame _ _ _ B λb X o e=>?_) pv (Zj _ q rfl) λS J l C r=>?_⟩
    ·exact(X9 _ _ (λz:a.heap.objs.size=b=>D (by rw[z];exact X))).trans e
    ·exact T lt S J l C λb o k e=>r b o k (XN (Xu e)) ((X9 _ _ (Nat.ne_of_gt (Xu e))).trans (kp b o k (Xq _ e)))
end
def kW(X:Cx)(f:Value)(d:List Str)(r:List V->List V->Hp->VK->Prop):Prop:=
 ∀(a:L1) (s:Shared) (Z:St) (H:Hp) (xs b:List V) (us c:List Value) (Q:VK),Inv X a Z H s->Vals xs us->Vals b c->r xs b H Q->
  wpAny (model X.prog X.w) X.A (call f us (d.zip c)) (EP X a Z Q) X.xe s
def FN(r:List V->List V->Hp->VK->Prop)(t b:TA):TE:=λZ H Q=>t Z H λvs H1=>b Z H1 λa c=>r vs a c Q
section
variable{X:Cx}{x:Str}{p pos:Pos}{e:Expr}{es:List Expr}{kws:List Keyword}{t tk:TA}{id:String}{ks:List Str}{r:List V->List V->Hp->VK->Prop}
theorem n6(A:kW X (.builtin id) ks r)(y:Gl X x)(v:X.mg x=none)(q:bootBuiltins x=some (.builtin id))(B:PA X (e::es) t)(w:PK X kws tk)
 (d:(backToKw pos (keywordEach kws X.env)).filterMap (·.1)=ks:=by rfl) (u:x ≠ "__name__" := by decide) (g:(x==("__debug__" : Str))=false:=by decide)
 (z:backTo pos (starEach (e::es) X.env)=(false,eval e X.env)::backTo pos (starEach es X.env):=by rfl) (c:(backTo pos (starEach (e::es) X.env)).any (·.1)=false:=by rfl)
 (b:(backToKw pos (keywordEach kws X.env)).all (·.1.isSome)=true:=by rfl) (f:(backToKw pos (keywordEach kws X.env)).any (·.1.isNone)=false:=by rfl):
 PE X (.Call (.Name x p) (e::es) kws pos) (FN r t tk):=by
 intro a s Z H Q I h;refine YH (oj I y v q ?_ u g);refine PyProof.Rows.callWith_kw (cQ (B pos a s Z H _ I h) λus k ⟨vs,H1,D,m,o⟩=>cQ (w pos a k Z H1 _ D o) λj s2 ⟨i,E,C,l,n⟩=>?_) z c b f;rw[d];exact A a s2 Z E vs i us j Q C m l n
end
theorem f9:∀{ns:List Int} {us:List Value} {i:Nat} {u:Value},Vals (ns.map V.int) us->us[i]?=some u->∃t,u=.int (ns.getD i 0) t
 | [],us,i,u,r,e=>by
   cases r;cases e
 | n::ns,us,i,u,r,e=>by
   rw[Xm]at r;cases r with
   |cons b a=>
     cases i with
     |zero=>
       cases e;exact b
     |succ i=>
       show ∃t,u=.int (ns.getD i 0) t;exact f9 (ns:=ns) (i:=i) a (by simpa using e)
theorem Sf{P:Program}{w:World}{A:Around}{R:Nat->Value->Prop}(v:Nat->Int)(h:∀i u,R i u->∃t,u=.int (v i) t):∀g,CmpOf P w A (WM g) R (cond g (λi j=>decide (v i>v j)) λi j=>decide (v i<v j))|false=>CmpOf.ints_lt v h|true=>CmpOf.ints_gt v h
theorem Nb(v:Nat->Int)(k:Nat):∀g,argBest (cond g (λi j=>decide (v i>v j)) λi j=>decide (v i<v j)) k<=k/\∀j,j<=k->cond g (v j<=v (argBest (cond g (λi j=>decide (v i>v j)) λi j=>decide (v i<v j)) k)) (v (argBest (cond g (λi j=>decide (v i>v j)) λi j=>decide (v i<v j)) k)<=v j)|false=>argBest_lt v k|true=>argBest_gt v k
theorem zt(g:Bool){X:Cx}(U:X.calm=true):kW X (.builtin (SX g)) ["default"] (λxs y H Q=>∃p ns d,xs=[.ref p]/\y=[d]/\SqL X.K H p (ns.map V.int)/\(ns=[]->Q d H)/\∀m∈ns,(∀x∈ns,cond g (x<=m) (m<=x))->Q (.int m) H):=by
 intro B s Z H xs y us ws Q I r J h;obtain⟨p,ns,d,rfl,rfl,S,N,M⟩:=h;obtain⟨u,rfl,L⟩:=Vals.one r;have l:u=Value.ref p:=L;subst l;obtain⟨dv,rfl,rd⟩:=Vals.one J;obtain⟨its,k,pl,hz⟩:=I.list S;have C:ns.length=its.length:=by rw[<-k.length,on]
 obtain⟨O,c,w,n⟩:=id pl.isList;have f:p<s.heap.objs.size:=Xu c;refine zv g (Zd pl.isList ⟨s.heap.objs.size,_,_,_,_,_,_,λ_=>True,rfl,Walks.list (A:=X.A.in1) (I.ok.hd U) _ p (XN f) its.toArray,⟨⟨_,XI _ rfl,rfl,rfl⟩,⟨O,Xq _ c,w,n⟩⟩,λb W=>?_,trivial,λ_ _ _ _ _=>trivial,λi j F D s Q E _=>Sf (R:=λi v=>its.toArray[i]?=some v) (λi=>ns.getD i 0) (λi v e=>f9 k (by simpa using e)) g i j F D s Q E,λe h' G kp=>?_,λe v h' G pv kp=>?_⟩)
 · rw[YZ];rcases Xv.mp W with z|z
   ·rw[z];exact Y3 _
   · have a:b=p:=by simpa using z
     rw[a];exact Zz f
 · have Y:ns=[]:=Yn.mp (by rw[C];simpa using e);refine⟨d,H,I.kept λb o q=>kp b o (λz=>?_) (Xq _ q),rd,N Y⟩;have a:b=s.heap.objs.size:=by simpa using z
   exact absurd (Xu q) (by rw[a];exact Yj _)
 · have e':0<its.length:=by simpa using e
   have e1:its.toArray.size-1=ns.length-1:=by rw[XB,C]
   rw[e1]at pv;obtain⟨b1,b2⟩:=Nb (λi=>ns.getD i 0) (ns.length-1) g;rw[Z4]at pv;obtain⟨t,rfl⟩:=f9 k pv
   have up:∀i,i<ns.length->ns.getD i 0∈ns:=λi hi=>by
    rw[Xx,Xy hi];exact YG hi
   refine⟨.int _,H,I.kept λb o q=>kp b o (λz=>?_) (Xq _ q),⟨t,rfl⟩,M _ (up _ (by omega)) λx P=>?_⟩
   · have a:b=s.heap.objs.size:=by simpa using z
     exact absurd (Xu q) (by rw[a];exact Yj _)
   · obtain⟨j,T,rfl⟩:=List.getElem_of_mem P
     have:=b2 j (by omega)
     rwa [show ns.getD j 0=ns[j] by rw[Xx,Xy T];rfl]at this
theorem Fl{X:Cx}(b:X.calm=true):kW X (.builtin "min") ["default"] (λxs a H Q=>∃p ns d,xs=[.ref p]/\a=[d]/\SqL X.K H p (ns.map V.int)/\(ns=[]->Q d H)/\∀m∈ns,(∀x∈ns,m<=x)->Q (.int m) H):=zt false b
theorem Fm{X:Cx}(b:X.calm=true):kW X (.builtin "max") ["default"] (λxs a H Q=>∃p ns d,xs=[.ref p]/\a=[d]/\SqL X.K H p (ns.map V.int)/\(ns=[]->Q d H)/\∀m∈ns,(∀x∈ns,x<=m)->Q (.int m) H):=zt true b
def dd(ns:List Int):List Int:=ns.foldl step_dedup []
theorem Ab(ns:List Int):(List.range ns.length).map (λi=>ns.getD i 0)=ns:=by
 apply ZB;intro i;rw[X3];by_cases h:i<ns.length
 ·rw[Zr h,Xy h,Zo,Xx,Xy h];rfl
 ·rw[XO (by rw[List.length_range];omega),XO (by omega)];rfl
theorem yc(ns:List Int):firstMet (λi=>ns.getD i 0) ns.length=dd ns:=by
 unfold firstMet dd;rw[Ab]
theorem OO:∀(ns acc:List Int),ns.Nodup->(∀x∈ns,x∉acc)->ns.foldl step_dedup acc=acc++ns
 |[],acc,_,_=>by rw[List.foldl_nil,XZ]
 | n::r,acc,h,hd=>by
   have c:=XH.mp h
   have e:step_dedup acc n=acc++[n]:=by
    unfold step_dedup;rw[if_neg];intro z;obtain⟨y,d,e⟩:=List.any_eq_true.mp z;have a:y=n:=by simpa using e
    subst a;exact hd y Xk d
   rw[ZY,e,OO r (acc++[n]) c.2 λx b z=>?_,Yh]
   ·rfl
   · rcases XE.mp z with z|z
     ·exact hd x (no _ b) z
     · have a:x=n:=by simpa using z
       subst a;exact c.1 b
theorem J8{ns:List Int}(h:ns.Nodup):dd ns=ns:=by
 unfold dd;rw[OO ns [] h λ_ _ z=>nomatch z];rfl
section
variable{X:Cx}
theorem Ff(l:X.calm=true):fD X (.type "set") (λxs H Q=>∃p ns,xs=[.ref p]/\SqL X.K H p (ns.map V.int)/\ns.length<4000/\∀q,H q=none->Q (.ref q) (upd H q (.set (λk=>(dd ns).any (·==k)) (dd ns).length))):=by
 intro d s Z H xs us Q I r h;obtain⟨p,ns,rfl,j,v,q⟩:=h;obtain⟨u,rfl,i⟩:=Vals.one r;have a:u=Value.ref p:=i;subst a;obtain⟨its,c,pl,t⟩:=I.list j;have f:its.length=ns.length:=by rw[<-c.length,on]
 refine PySem.call_set_list (ns:=ns) (I.ok.hd l) pl.isList (by simpa using A6 c) (by rw[List.size_toArray,f];unfold scanBound;omega) λh' n g kp=>?_;have m:its.toArray.size=ns.length:=by rw[List.size_toArray,f]
 rw[m,yc]at g;exact⟨.ref s.heap.objs.size,_,I.laid (o:=.set _ _) (λb o e=>kp b o (Xu e) e) (XD _) g,rfl,q _ (I.hok.fresh (XD _))⟩
theorem Fi:fD X (.builtin "len") (λxs H Q=>∃a S n,xs=[.ref a]/\H a=some (.set S n)/\Q (.int n) H):=by
 intro c s Z H xs us Q I r h;obtain⟨a,S,n,rfl,j,q⟩:=h;obtain⟨u,rfl,d⟩:=Vals.one r;have b:u=Value.ref a:=d;subst b;obtain⟨o,k,l,t,e,hex,hd,_,_,i,g,f⟩:=(show s.heap.SetOf (intKind X.prog X.w) a S n from I.hok a _ j);refine call_len_set e hex hd g (Int.lt_of_lt_of_le (Int.ofNat_lt.mpr i) (by unfold scanBound;decide)) ?_;rw[f];exact⟨.int n,H,I.tok _,⟨_,rfl⟩,q⟩
end
def RawD(h:Heap)(d:Addr)(a:Array DictEntry)(b:Nat):Prop:=∃o,h.get? d=some o/\o.ExactDict/\o.data=.dict a b
section
variable{prog:Program}{w:World}{A:Around}{E:L4}{s:Shared}{d it:Addr}{es:Array DictEntry}{ep i:Nat}
theorem RawD.typeIs(x:RawD s.heap d es ep):s.TypeIs (.ref d) "dict" := by
 obtain⟨o,b,a,_⟩:=x;exact⟨o,b,a.1⟩
theorem G3{Q:L4}(c:(d==sysModules)=false)(x:RawD s.heap d es ep)
 (e:Q (.ref s.heap.objs.size) {s with heap:=s.heap.push {cls:=.type "dict_keyiterator",data:=.fields #[.ref d,.int 0 0,.int es.size 0,.int ep 0]}}):wpAny (model prog w) A (pyIter (.ref d)) Q E s:=by
 have a:=x.typeIs;obtain⟨o,b,f,hd⟩:=x;refine wpAny_pyIter_slot a PySem.F.slot_dict_iter (wpAny_call_entry PySem.F.slot_dict_iter a PySem.F.entry_dict_iter ?_ (PySem.F.args_dict_iter_1 _));unfold Builtin.«dict.__iter__» Builtin.Dict.dictSlotNone;refine wpAny_bind (wpAny_bind (wpAny_notOrdered_dict a (wpAny_pure ?_)));refine wpAny_bind (m:=Builtin.Dict.showsAll d) ?_;unfold Builtin.Dict.showsAll;rw[if_neg (by rw[c];exact Bool.false_ne_true)];refine wpAny_pure (wpAny_bind (wpAny_dictEntries b hd (wpAny_bind (wpAny_dictEpoch b hd ?_))));exact wpAny_bind (wpAny_newObj_type (wpAny_pure ⟨_,rfl, "dict_keyiterator",_,⟨_,Heap.get?_push_size _ rfl,rfl⟩,PySem.F.slot_dict_keyiterator_next.lookup,e⟩))
theorem G4{Q:Option Value->Shared->Prop}(a:s.heap.IsKeyIter it d i es.size ep)(x:RawD s.heap d es ep)(g:i<es.size)
 (j:∀h',h'.IsKeyIter it d (i+1) es.size ep->Heap.SameBut it s.heap h'->Q (some es[i].key) {s with heap:=h'}):wpAny (model prog w) A (pyNext (.ref it)) Q E s:=by
 obtain⟨o,f,h,hd⟩:=id a;obtain⟨k,c,_,e⟩:=id x;unfold pyNext;refine wpAny_bind (wpAny_attempt (wpAny_callSpecial?_slot (name:=Str.ofString "__next__") a.typeIs PySem.F.slot_dict_keyiterator_next (wpAny_call_entry PySem.F.slot_dict_keyiterator_next a.typeIs PySem.F.entry_dict_keyiterator_next ?_ (PySem.F.args_dict_keyiterator_next_1 _))));refine wpAny_bind (wpAny_pure (wpAny_bind (wpAny_bind ?_)))
 first | refine Xn (Yw a.typeIs (XC ?_)) | refine Xn (YN a.typeIs (XC ?_))
 refine Xn (wpAny_fieldsOf f hd ?_);simp only[show Builtin.Dict_items.ownsTuple "dict_keyiterator" = false from by decide,Zw,ZL];show wpAny _ _ (if (Value.ref d==Value.none)=true then _ else _) _ _ s;rw[Xj (show ¬ ((Value.ref d==Value.none)=true) from Xw)];refine Xn (XC (Xn (wpAny_dictEntries c e ?_)));rw[Xj (by simp)];refine Xn (XC (Xn (wpAny_dictEpoch c e ?_)));rw[Xj (by simp)];refine XC ?_;simp only[show ¬ ((i:Int)<0) from by omega,ZL,Int.toNat_natCast,YJ g];refine Xn ?_
 first | refine Xn (Yw a.typeIs (XC ?_)) | refine Xn (YN a.typeIs (XC ?_))
 refine Xn (wpAny_isOneOf_keyiter a.typeIs ?_);refine Xn (m:=setField (.ref it) 1 (rawInt ((i:Int)+1))) (wpAny_setField f hd (by simp) ?_)
 have b:(s.heap.update it (Obj.mapFields (·.setIfInBounds 1 (rawInt ((i:Int)+1))))).IsKeyIter it d (i+1) es.size ep:=
  ⟨_,Zj _ f (Obj.isFreed_of_fields (Obj.data_mapFields hd _)),(Obj.cls_mapFields ..).trans h,by rw[Obj.data_mapFields hd];simp[rawInt]⟩
 refine Xn (wpAny_holding ?_);refine Xn (wpAny_isOneOf_keyiter (s:={s with heap:=s.heap.update it (Obj.mapFields (·.setIfInBounds 1 (rawInt ((i:Int)+1))))}) b.typeIs ?_);exact XC (XC ⟨_,rfl,XC (j _ b (Heap.SameBut.update ..))⟩)
theorem Mf{Q:Option Value->Shared->Prop}(h:A.handled=none)(c:s.heap.IsKeyIter it d es.size es.size ep)(x:RawD s.heap d es ep)
 (i:∀h',Heap.ExtBut it s.heap h'->Q none {s with heap:=h'}):wpAny (model prog w) A (pyNext (.ref it)) Q E s:=by
 obtain⟨o,g,k,hd⟩:=id c;obtain⟨j,e,_,f⟩:=id x;unfold pyNext;refine wpAny_bind (wpAny_attempt (wpAny_callSpecial?_slot (name:=Str.ofString "__next__") c.typeIs PySem.F.slot_dict_keyiterator_next (wpAny_call_entry PySem.F.slot_dict_keyiterator_next c.typeIs PySem.F.entry_dict_keyiterator_next ?_ (PySem.F.args_dict_keyiterator_next_1 _))));refine wpAny_bind (wpAny_pure (wpAny_bind (wpAny_bind ?_)))
 first | refine Xn (Yw c.typeIs (XC ?_)) | refine Xn (YN c.typeIs (XC ?_))
 refine Xn (wpAny_fieldsOf g hd ?_);simp only[show Builtin.Dict_items.ownsTuple "dict_keyiterator" = false from by decide,Zw,ZL];show wpAny _ _ (if (Value.ref d==Value.none)=true then _ else _) _ _ s;rw[Xj (show ¬ ((Value.ref d==Value.none)=true) from Xw)];refine Xn (XC (Xn (wpAny_dictEntries e f ?_)));rw[Xj (by simp)];refine Xn (XC (Xn (wpAny_dictEpoch e f ?_)));rw[Xj (by simp)];refine XC ?_;simp only[show ¬ ((es.size:Int)<0) from by omega,ZL,Int.toNat_natCast,Array.getElem?_eq_none (XD _)];refine Xn ?_
 first | refine Xn (Yw c.typeIs (XC ?_)) | refine Xn (YN c.typeIs (XC ?_))
 refine Xn (m:=setField (.ref it) 0 .none) (wpAny_setField g hd (by simp) ?_);refine Xn (m:=newExc (.type "StopIteration") []) ?_;simp only[newExc,newTuple];refine Xn (ZA ?_ (by size_fits));refine Xn (m:=firstArgMember _ _) (wpAny_of_eq (a:=Value.none) (by first | rfl | (simp only[firstArgMember];rfl)) ?_);refine ZA ?_ (by size_fits);simp only[raiseNew];refine Xn (wpAny_handled ?_);rw[show A.in1.handled=none from h];refine Xn (XC (wpAny_throw ?_));refine Xn (wpAny_isInstance (T := "StopIteration") (b:=true) ⟨_,XI _ rfl,rfl⟩ isSubtype_stop ?_);exact XC (i _ (((Heap.SameBut.update ..).extBut.push _).push _))
theorem Ez(n:A.handled=none)(I d:Addr)(k:d≠I)(es:Array DictEntry)(ep:Nat):
 Walks prog w A I [I,d] [I] es.size (λi v=>∃e,es[i]?=some e/\v=e.key) (λi h=>h.IsKeyIter I d i es.size ep/\RawD h d es ep) where
 sub:=λb f=>by
  have e:b=I:=by simpa using f
  rw[e];exact Xk
 frame:=λ_ _ _ st m=>⟨st.1.at λo e=>m I (by simp) o e,let ⟨o,j,r⟩:=st.2;⟨o,m d (by simp) o j,r⟩⟩
 item:=λi s Q E hi st g=>G4 st.1 st.2 hi λh' c a=>by
  obtain⟨o,j,r⟩:=st.2;exact g _ h' s.toks ⟨es[i],YJ hi,rfl⟩ ⟨c,o,a.extBut d o k j,r⟩ λb o f e=>a.extBut b o (λz=>f (by simp[z])) e
 done:=λs Q E st g=>Mf n st.1 st.2 λh' l=>g h' s.toks λb o f e=>l b o (λz=>f (by simp[z])) e
 self:=λ_ _ _ _ st g=>wpAny_pyIter_keyiter st.1 g
theorem Me(lo:(d==sysModules)=false):PySem.W.KdlSrc prog w "dict" d d es.size (λi v=>∃e,es[i]?=some e/\v=e.key) (λh=>RawD h d es ep) where
 type:=λ_ x=>x.typeIs
 there:=λ_ x=>let ⟨_,a,_⟩:=x;⟨Xu a,Xu a⟩
 keep:=λ_ _ x c=>let ⟨o,a,r⟩:=x;⟨o,c d (.inl rfl) o a,r⟩
 notList:=by decide
 notTuple:=by decide
 hint:=λ_ _ _ _ x b=>PySem.W.kdl_hint_dict x.typeIs b
 iter:=λ_ _ f x=>⟨_,_,(λ_ _ b=>G3 lo x b),Ez f _ d (let ⟨_,a,_⟩:=x;XN (Xu a)) es ep,⟨⟨_,XI _ rfl,rfl,rfl⟩,let ⟨o,a,r⟩:=x;⟨o,Xq _ a,r⟩⟩⟩
end
theorem ER{P:Program}{w:World}{x:List c9×Addr×Value}:(entryOfKey (tupleKind (cL P w)) x).key=.ref x.2.1:=rfl
theorem sF{X:Cx}(hc:X.calm=true):fD X (.type "list") (λxs H Q=>∃a d,xs=[.ref a]/\Rd H a (.dT d)/\
 ∀(L:List Addr) (l:Addr),L.length=d.length->(∀(i:Nat) k v b,d[i]?=some (k,v)->L[i]?=some b->H b=some (.tup (k.map kV)))->H l=none->Q (.ref l) (upd H l (.lst (L.map V.ref)))):=by
 intro N s Z H xs us Q I r h;obtain⟨a,d,rfl,ha,q⟩:=h;obtain⟨u,rfl,R⟩:=Vals.one r;have J:u=Value.ref a:=R;subst J;obtain⟨z,hd,j,B,o,O,ep,Y,T,F,D,hnd⟩:=(show ObjOk X.prog X.w H s.heap a (.dT d) from ha.ok I.hok);have f:d.length=j.length:=ZD B
 have m:O.size=j.length:=by
  have e:=congrArg List.length D
  rwa [on,Yz]at e
 refine PySem.W.kdl_call (Me hd) (I.ok.hd hc) ⟨o,Y,T,F⟩ (by rw[m,<-f];exact z) λh' tk c c' kp hD g=>?_
 have keys:c.toList=(j.map λy=>y.2.1).map Value.ref:=by
  apply ZB;intro i;rw[X3,X3];cases A:j[i]? with
  |none=>
    have hi:j.length<=i:=YK.mp A;rw[XO (by rw[Yz,g.1];omega)];rfl
  |some y=>
    have hi:i<j.length:=(XF.mp A).1;have C:i<c.size:=by rw[g.1,m];exact hi
    obtain⟨e,he,U⟩:=g.2 i c[i] (YJ C);have E:O.toList[i]?=some e:=by rw[Zi];exact he
    rw[D,X3,A]at E;have ee:entryOfKey (tupleKind (cL X.prog X.w)) y=e:=XQ E;rw[Zi,YJ C,U,<-ee,ER];rfl
 have P:∀l:List Addr,Vals (l.map V.ref) (l.map Value.ref):=λl=>by
  induction l with
  |nil=>exact .nil
  |cons x t M=>exact .cons rfl M
 refine⟨.ref s.heap.objs.size,_,I.laid kp (XD _) ?_,rfl,q (j.map λy=>y.2.1) _ (by rw[on];exact f.symm) (λi k v b G n=>?_) (I.hok.fresh (XD _))⟩
 ·refine⟨by rw[on,on,<-f];exact z,c.toList,c',by rw[keys];exact P _,?_⟩;rw[Array.toArray_toList];exact hD
 · rw[X3]at n;cases A:j[i]? with
   |none=>rw[A]at n;cases n
   |some y=>
     rw[A]at n;have eb:y.2.1=b:=XQ n
     have S:∀{K:List (List c9×V)} {l2:List (List c9×Addr×Value)},Paired (λ(p:List c9×V) (q:List c9×Addr×Value)=>p.1=q.1/\H q.2.1=some (.tup (p.1.map kV))/\RelV p.2 q.2.2) K l2->
      ∀{i:Nat} {p q},K[i]?=some p->l2[i]?=some q->H q.2.1=some (.tup (p.1.map kV)):=by
      intro K l2 hp
      induction hp with
      |nil=>intro i p q e;cases e
      |cons h1 _ M=>
        intro i p q G n;cases i with
        |zero=>cases G;cases n;exact h1.2.1
        |succ i=>exact M G n
     rw[<-eb];exact S B G A
end L2
namespace HT
open PySem PyProof.Rows
open PySem.SeqAt
open PySem.AutoSeq1 (wpAny_loadPart')
open PySem.MeetsSeq PySem.MeetsSeq2 PySem.MeetsSeq3 PySem.SeqRoads2
def LtAt(A:Around)(s:Shared)(y x:Value)(b:Bool):Prop:=
 ∀(prog:Program) (w:World) (E:L4) (Q:L4),Q (.bool b) s->wpAny (model prog w) A (richCompare .Lt y x) Q E s
def jt(p:Nat->Bool×Bool)(t:Bool):Nat->Nat->Bool
 |0,_=>t
 |k+1,i=>if (p i).1=true then jt p t k (i+1) else (p i).2
theorem AX(l b:Addr)(items items2:Array Value)(n n2:Nat)(dd dd2:Option Addr)(sl sl2:Array (Option Value))(p:Nat->Bool×Bool)(k:Nat):
 ∀i:Nat,min items.size items2.size-i=k->i<=min items.size items2.size->Meets (Builtin.«list.__eq__.loop» ⟨[.ref l,.ref b,rawInt i,rawInt 0],[]⟩)
  (λA R s=>s.heap.get? l=some {cls:=.type "list",dict:=dd,data:=.seq items n,slots:=sl}/\s.heap.get? b=some {cls:=.type "list",dict:=dd2,data:=.seq items2 n2,slots:=sl2}/\
    (∀j (h1:j<items.size) (h2:j<items2.size),EqAt A.in1 s items[j] items2[j] (p j).1/\((p j).1=false->LtAt A.in1 s items[j] items2[j] (p j).2))/\
    R (.ok (.ret (.bool (jt p (decide (items.size<items2.size)) k i)))) s):=by
 induction k with
 |zero=>
   intro i hk hi prog w A R s h;obtain⟨hp,g,d,tk,os⟩:=s;obtain⟨hl,hb,he,h⟩:=h
   wp_walk using wpAny_loadPart' hl,wpAny_loadPart' hb
   by_cases hlt:i<items.size
   · have hi1:items[((i:Nat):Int).toNat]?=some items[i]:=by simp[hlt]
     have hi2:items2[((i:Nat):Int).toNat]?=none:=by simp;omega
     rw[hi1,hi2]
     wp_walk using wpAny_loadPart' hl,wpAny_loadPart' hb
     exact h
   · have hi1:items[((i:Nat):Int).toNat]?=none:=by simp;omega
     rw[hi1]
     wp_walk using wpAny_loadPart' hl,wpAny_loadPart' hb
     exact h
 |succ k ih=>
   intro i hk hi prog w A R s h;obtain⟨hp,g,d,tk,os⟩:=s;obtain⟨hl,hb,he,h⟩:=h
   wp_walk using wpAny_loadPart' hl,wpAny_loadPart' hb
   have hlt:i<items.size:=by omega
   have hlt2:i<items2.size:=by omega
   have hi1:items[((i:Nat):Int).toNat]?=some items[i]:=by simp[hlt]
   have hi2:items2[((i:Nat):Int).toNat]?=some items2[i]:=by simp[hlt2]
   have hc:((i:Int)+1)=((i+1:Nat):Int):=by push_cast;rfl
   rw[hi1,hi2];obtain⟨e1,e2⟩:=he i hlt hlt2;refine Xn (e1 prog w _ _ ?_);cases hb':(p i).1 with
   |true=>
     rw[jt,hb',Xl rfl]at h
     wp_walk
     rw[hc]
     exact⟨Y6 plain_eq_loop _,Y7 entry_eq_loop (by
      rw[YM plain_eq_loop _]
      exact ih (i+1) (by omega) (by omega) prog w A R _ ⟨hl,hb,he,h⟩)⟩
   |false=>
     rw[jt,hb',Xj Xw]at h
     wp_walk using wpAny_loadPart' hl,wpAny_loadPart' hb
     rw[hi1,hi2];have e3:=e2 hb' prog w
     wp_walk using e3
     exact h
theorem EL(l b:Addr)(items items2:Array Value)(n n2:Nat)(dd dd2:Option Addr)(sl sl2:Array (Option Value))(p:Nat->Bool×Bool):
 Meets (Builtin.«list.__lt__» ⟨[.ref l,.ref b],[]⟩)
  (λA R s=>s.heap.get? l=some {cls:=.type "list",dict:=dd,data:=.seq items n,slots:=sl}/\s.heap.get? b=some {cls:=.type "list",dict:=dd2,data:=.seq items2 n2,slots:=sl2}/\
    (∀j (h1:j<items.size) (h2:j<items2.size),EqAt A.in1 s items[j] items2[j] (p j).1/\((p j).1=false->LtAt A.in1 s items[j] items2[j] (p j).2))/\
    R (.ok (.ret (.bool (jt p (decide (items.size<items2.size)) (min items.size items2.size) 0)))) s):=by
 intro prog w A R s h;obtain⟨hp,g,d,tk,os⟩:=s;obtain⟨hl,hb,he,h⟩:=h;have f3:=AutoSeq1.sub_list_list
 wp_walk using wpAny_loadPart' hl,wpAny_loadPart' hb
 exact⟨Y6 plain_eq_loop _,Y7 entry_eq_loop (by
  rw[YM plain_eq_loop _]
  exact AX l b items items2 n n2 dd dd2 sl sl2 p _ 0 rfl (YS _) prog w A R _ ⟨hl,hb,he,h⟩)⟩
theorem LtAt.int_int{A:Around}{s:Shared}(a:Int)(t:Tok)(c:Int)(u:Tok):LtAt A s (.int a t) (.int c u) (decide (a<c)):=λprog w E Q h=>G2 A s a t c u prog w E Q h
theorem LtAt.lists{A:Around}{s:Shared}{l b:Addr}{c a:Array Value}{p:Nat->Bool×Bool}(u:s.heap.IsList l c)(y:s.heap.IsList b a)(t:A.units<cLine)
 (v:∀j (B:j<c.size) (z:j<a.size),EqAt A.in1 s c[j] a[j] (p j).1/\((p j).1=false->LtAt A.in1 s c[j] a[j] (p j).2)):
 LtAt A s (.ref l) (.ref b) (jt p (decide (c.size<a.size)) (min c.size a.size) 0):=λprog w E Q h=>by
 obtain⟨⟨cls,dd,data,q⟩,k,m,n,hd⟩:=id u;obtain⟨⟨o,i,data2,g⟩,d,f,r,e⟩:=id y;simp only at m hd f e;subst m hd f e
 exact richCompare_meets_room (op:= .Lt) ⟨_,k,rfl⟩ ⟨_,d,rfl⟩ PySem.F.slot_list_lt PySem.F.entry_list_lt (PySem.F.args_list_lt_2 _ _) (EL l b c a n r dd i q g p)
  ⟨k,d,v,show Value.bool (jt p (decide (c.size<a.size)) (min c.size a.size) 0)≠Value.notImplemented/\Q (.bool (jt p (decide (c.size<a.size)) (min c.size a.size) 0)) s from⟨(λx=>nomatch x),h⟩⟩ t
theorem t5:∀(ns M:List Int) (i:Nat) (f:Nat->Bool×Bool) (t:Bool),(∀j,j<min ns.length M.length->f (i+j)=(decide (ns.getD j 0=M.getD j 0),decide (ns.getD j 0<M.getD j 0)))->t=decide (ns.length<M.length)->
 jt f t (min ns.length M.length) i=eV ns M
 |[],[],i,f,t,h,e=>by rw[e];rfl
 | [],m::M,i,f,t,h,e=>by
   rw[e];show decide (0<(m::M).length)=true;simp
 | n::ns,[],i,f,t,h,e=>by
   rw[e];show decide ((n::ns).length<0)=false;simp
 | n::ns,m::M,i,f,t,h,e=>by
   have b:min (n::ns).length (m::M).length=min ns.length M.length+1:=by
    rw[Xp,Xp];omega
   rw[b,jt,eJ];have h0:=h 0 (by rw[b];omega);rw[Nat.add_zero]at h0;have a:f i=(decide (n=m),decide (n<m)):=h0;rw[a];by_cases q:n=m
   · rw[Xl (by simpa using q),Xl q]
     exact t5 ns M (i+1) f t (λj c=>by
      have:=h (j+1) (by rw[b];omega)
      rw[show i+1+j=i+(j+1) by omega,this]
      rfl) (by rw[e];simp)
   ·rw[Xj (by simpa using q),Xj q]
def ua(a b:Int)(xs:List Int)(c d:Int)(e:List Int):Bool:=if a=c then (if b=d then eV xs e else decide (b<d)) else decide (a<c)
theorem zS(l b:Addr)(items items2:Array Value)(n n2:Nat)(dd dd2:Option Addr)(sl sl2:Array (Option Value))(p:Nat->Bool×Bool):
 Meets (Builtin.«tuple.__lt__» ⟨[.ref l,.ref b],[]⟩)
  (λA R s=>s.heap.get? l=some {cls:=.type "tuple",dict:=dd,data:=.seq items n,slots:=sl}/\s.heap.get? b=some {cls:=.type "tuple",dict:=dd2,data:=.seq items2 n2,slots:=sl2}/\
    (∀j (h1:j<items.size) (h2:j<items2.size),EqAt A.in1 s items[j] items2[j] (p j).1/\((p j).1=false->LtAt A.in1 s items[j] items2[j] (p j).2))/\
    R (.ok (.ret (.bool (jt p (decide (items.size<items2.size)) (min items.size items2.size) 0)))) s):=
 .of_wp λprog w A R s h=>by
  obtain⟨hp,g,d,tk,os⟩:=s;obtain⟨hl,hb,he,h⟩:=h;have f2:=AutoSeq1.sub_tuple_tuple;have zl:(items.toList.zip items2.toList).length=min items.size items2.size:=by rw[List.length_zip,Yz,Yz]
  wp_walk using wpAny_loadPart' hl,wpAny_loadPart' hb,wpAny_forIn_list _ (λcj b s'=>b.1=none/\s'=⟨hp,g,d,tk,os⟩/\∃i,i<=min items.size items2.size/\cj=(items.toList.zip items2.toList).drop i/\
   R (.ok (.ret (.bool (jt p (decide (items.size<items2.size)) (min items.size items2.size-i) i)))) ⟨hp,g,d,tk,os⟩) _
  case turn=>
   rintro⟨y,x⟩ cj b s' ⟨hb',rfl,i,hi,hz,hR⟩
   have hlt:i<min items.size items2.size:=by
    rcases Nat.lt_or_ge i (min items.size items2.size) with q|q
    ·exact q
    ·rw[ZU (by rw[zl];exact q)]at hz;cases hz
   have h1:i<items.size:=by omega
   have h2:i<items2.size:=by omega
   rw[Y5 (by rw[zl];exact hlt)]at hz;injection hz with hyx hrest
   rw[List.getElem_zip,Array.getElem_toList,Array.getElem_toList]at hyx;injection hyx with hy hx
   subst hy hx;obtain⟨e1,e2⟩:=he i h1 h2;rw[show min items.size items2.size-i=(min items.size items2.size-(i+1))+1 by omega,jt]at hR;refine Xn (e1 prog w _ _ ?_);cases eb:(p i).1 with
   |true=>
     rw[eb,Xl rfl]at hR
     wp_walk
     exact⟨rfl,rfl,i+1,by omega,hrest,hR⟩
   |false=>
     rw[eb,Xj Xw]at hR;have e3:=e2 eb prog w
     wp_walk using e3
     exact⟨_,rfl,by simpa using hR⟩
  case fin=>
   rintro⟨b1,b2⟩ s' ⟨hb',rfl,i,hi,hz,hR⟩;simp only at hb';subst hb'
   have hge:min items.size items2.size<=i:=by
    rcases Nat.lt_or_ge i (min items.size items2.size) with q|q
    ·rw[Y5 (by rw[zl];exact q)]at hz;cases hz
    ·exact q
   rw[show min items.size items2.size-i=0 by omega,jt]at hR
   wp_walk
   exact⟨_,rfl,by simpa [Builtin.Tuple.tupleCompareSizes] using hR⟩
  case h=>
   exact⟨rfl,rfl,0,YS _,rfl,h⟩
theorem LtAt.tuples{A:Around}{s:Shared}{l b:Addr}{c a:Array Value}{p:Nat->Bool×Bool}(u:s.heap.IsTuple l c)(y:s.heap.IsTuple b a)(t:A.units<cLine)
 (v:∀j (B:j<c.size) (z:j<a.size),EqAt A.in1 s c[j] a[j] (p j).1/\((p j).1=false->LtAt A.in1 s c[j] a[j] (p j).2)):
 LtAt A s (.ref l) (.ref b) (jt p (decide (c.size<a.size)) (min c.size a.size) 0):=λprog w E Q h=>by
 obtain⟨⟨cls,dd,data,q⟩,k,m,n,hd⟩:=id u;obtain⟨⟨o,i,data2,g⟩,d,f,r,e⟩:=id y;simp only at m hd f e;subst m hd f e
 exact richCompare_meets_room (op:= .Lt) ⟨_,k,rfl⟩ ⟨_,d,rfl⟩ PySem.F.slot_tuple_lt PySem.F.entry_tuple_lt (PySem.F.args_tuple_lt_2 _ _) (zS l b c a n r dd i q g p)
  ⟨k,d,v,show Value.bool (jt p (decide (c.size<a.size)) (min c.size a.size) 0)≠Value.notImplemented/\Q (.bool (jt p (decide (c.size<a.size)) (min c.size a.size) 0)) s from⟨(λx=>nomatch x),h⟩⟩ t
end HT
namespace L2
open PySem PySem.Spec PyProof.Rows
theorem qK:∀xs:List Int,HT.eV xs xs=false
 |[]=>rfl
 |x::xs=>by rw[HT.eJ,Xl rfl,qK xs]
theorem Room.u100{k:Nat}{A:Around}(r:Room k A):A.units+100<cLine:=by have:=r.un;omega
section
variable{X:Cx}{pins:L1}{Z:St}{H:Hp}{s:Shared}
theorem ue{A:Around}{a b:Addr}{ns M:List Int}(I:Inv X pins Z H s)(k:SqL X.K H a (ns.map V.int))(h:SqL X.K H b (M.map V.int))(r:A.units+64<cLine):
 SeqAt.EqAt A s (.ref a) (.ref b) (decide (ns=M))/\HT.LtAt A s (.ref a) (.ref b) (HT.eV ns M):=by
 constructor
 ·obtain⟨as,o⟩:=den_reads I _ (yi k) (show RelV (.ref a) (.ref a) from rfl);obtain⟨bs,n⟩:=den_reads I _ (yi h) (show RelV (.ref b) (.ref b) from rfl);rw[<-JT];exact SeqAt.eqAt_reads _ _ A s _ _ as bs o n (SeqAt.canLay_of_shaped (Zs ns)) (SeqAt.canLay_of_shaped (Zs M)) (SeqAt.room_of_shaped (Zs ns) r)
 · obtain⟨its,g,pl,_⟩:=I.list k;obtain⟨c,d,f,_⟩:=I.list h;have q:its.toArray.size=ns.length:=by rw[XB,<-g.length,on]
   have l2:c.toArray.size=M.length:=by rw[XB,<-d.length,on]
   have e:=HT.LtAt.lists (A:=A) (p:=λj=>(decide (ns.getD j 0=M.getD j 0),decide (ns.getD j 0<M.getD j 0))) pl.isList f.isList (by omega) (λj m l=>?_)
   ·rw[q,l2,HT.t5 ns M 0 _ _ (λj _=>by rw[Nat.zero_add]) rfl]at e;exact e
   · obtain⟨t,w⟩:=f9 g (i:=j) (u:=its.toArray[j]) (by simp at m;simp[m]);obtain⟨u,v⟩:=f9 d (i:=j) (u:=c.toArray[j]) (by simp at l;simp[l]);rw[w,v];refine⟨?_,λ_=>HT.LtAt.int_int _ _ _ _⟩
     have:=SeqAt.EqAt.int_int (A:=A.in1) (s:=s) (ns.getD j 0) t (M.getD j 0) u
     rwa [show(ns.getD j 0==M.getD j 0)=decide (ns.getD j 0=M.getD j 0) from Zk _ _]at this
def PV(K:L0):R2:=λx y H Q=>∃(p q:Addr) (a b c d:Int) (l m:Addr) (xs e:List Int),x=.ref p/\y=.ref q/\SqT K H p [.int a,.int b,.ref l]/\SqT K H q [.int c,.int d,.ref m]/\SqL K H l (xs.map V.int)/\SqL K H m (e.map V.int)/\
 Q (.bl (HT.ua a b xs c d e)) H
theorem Jc{A:Around}{p q:Addr}{a b c d:Int}{l m:Addr}{xs g:List Int}(Q:A.units+100<cLine)(I:Inv X pins Z H s)(hp:SqT X.K H p [.int a,.int b,.ref l])(N:SqT X.K H q [.int c,.int d,.ref m])(P:SqL X.K H l (xs.map V.int))(O:SqL X.K H m (g.map V.int)):
 HT.LtAt A s (.ref p) (.ref q) (HT.ua a b xs c d g):=by
 obtain⟨its,h,E,_⟩:=I.tuple hp;obtain⟨z,f,D,_⟩:=I.tuple N;cases h with|cons L h=>cases h with|cons J h=>cases h with|cons G h=>
 cases h;cases f with|cons rc f=>cases f with|cons rd f=>cases f with|cons F f=>
 cases f;obtain⟨y,rfl⟩:=L;obtain⟨tb,rfl⟩:=J;obtain⟨x,rfl⟩:=rc;obtain⟨w,rfl⟩:=rd;obtain rfl:_=Value.ref l:=G;obtain rfl:_=Value.ref m:=F;have r:A.in1.units+64<cLine:=by show A.units+1+64<cLine;omega
 obtain⟨el,M⟩:=ue (A:=A.in1) I P O r
 have C:∀(i j:Int) (t u:Tok),SeqAt.EqAt A.in1 s (.int i t) (.int j u) (decide (i=j)):=λi j t u=>by
  have:=SeqAt.EqAt.int_int (A:=A.in1) (s:=s) i t j u
  rwa [show(i==j)=decide (i=j) from Zk _ _]at this
 have o:=HT.LtAt.tuples (A:=A) (s:=s) (p:=λj=>if j=0 then (decide (a=c),decide (a<c)) else if j=1 then (decide (b=d),decide (b<d)) else (decide (xs=g),HT.eV xs g)) E D (by omega) (λj k n=>by
  have v:j<3:=k
  match j,v with
  |0,_=>exact⟨C a c y x,λ_=>HT.LtAt.int_int a y c x⟩
  |1,_=>exact⟨C b d tb w,λ_=>HT.LtAt.int_int b tb d w⟩
  |2,_=>exact⟨el,λ_=>M⟩)
 have e:HT.jt (λj=>if j=0 then (decide (a=c),decide (a<c)) else if j=1 then (decide (b=d),decide (b<d)) else (decide (xs=g),HT.eV xs g)) (decide (3<3)) 3 0=HT.ua a b xs c d g:=by
  simp only[HT.jt,HT.ua];by_cases k:a=c
  · by_cases n:b=d
    · by_cases B:xs=g
      ·subst B;simp[k,n,qK]
      ·simp[k,n,B]
    ·simp[k,n]
  ·simp[k]
 exact e▸o
theorem Ql(j:X.A.units+100<cLine):mP X (compareOp .Lt) (PV X.K):=by
 intro pins s Z H x y v u Q I i g h;obtain⟨p,q,a,b,c,d,l,m,xs,t,rfl,rfl,hp,n,r,o,k⟩:=h;have f:v=Value.ref p:=i;have e:u=Value.ref q:=g;subst f e;exact Jc j I hp n r o X.prog X.w X.xe _ ⟨.bl _,H,I,rfl,k⟩
end
end L2
namespace Gd
open PySem L2
theorem cy:bootBuiltins "len" = some (.builtin "len"):=by decide +kernel
theorem BJ:bootBuiltins "min" = some (.builtin "min"):=by decide +kernel
theorem K7:bootBuiltins "max" = some (.builtin "max"):=by decide +kernel
theorem da:bootBuiltins "isinstance" = some (.builtin "isinstance"):=by decide +kernel
theorem SD:bootBuiltins "set" = some (.type "set"):=by decide +kernel
theorem jK:bootBuiltins "list" = some (.type "list"):=by decide +kernel
theorem kR:bootBuiltins "tuple" = some (.type "tuple"):=by decide +kernel
theorem Na:bootBuiltins "bool" = some (.type "bool"):=by decide +kernel
theorem SE:bootBuiltins "int" = some (.type "int"):=by decide +kernel
theorem xa{H H':Hp}{q:Addr}{o:HO}(h:H q=none)(e:Same H H'):Same H (upd H' q o):=λb u z=>by
 rw[a7 (bE z h)];exact e b u z
theorem ci{H:Hp}{q:Addr}{o:HO}(h:H q=none):Same H (upd H q o):=xa h (Same.refl H)
def f7(e:PySem.Expr):Scope:=match e with
 |.ListComp _ _ sc _=>sc
 |_=>{kind:=.function,names:=[],isGenerator:=false,isCoroutine:=false,more:=[]}
def lE(s:Stmt):PySem.Expr:=match s with
 |.Assign _ v _=>v
 |.Return (some v) _=>v
 |.Expr v _=>v
 |.For _ a _ _ _=>a
 |.If t _ _ _=>t
 |_=> .Constant .none 0 ⟨0,0,0,0⟩
def qe(s:Stmt):List Stmt:=match s with
 |.For _ _ b _ _=>b
 |.If _ b _ _=>b
 |.While _ b _ _=>b
 |_=>[]
def nth(l:List Stmt)(i:Nat):Stmt:=l.getD i (.Pass ⟨0,0,0,0⟩)
abbrev AL:=List (List Int×Int)
abbrev kI(k:List Int):List c9:=k.map Sum.inl
def bM(D:AL):List (List c9×V):=D.map λp=>(kI p.1,V.int p.2)
def look(D:AL)(k:List Int):Option Int:=(D.find? λp=>decide (p.1=k)).map (·.2)
end Gd
namespace L2
open PySem PySem.Spec PyProof.Rows
theorem qa:∀{bs:List Bool} {us:List Value} {i:Nat} {u:Value},Vals (bs.map V.bl) us->us[i]?=some u->u=.bool (bs.getD i false)
 | [],us,i,u,r,e=>by
   cases r;cases e
 | b::bs,us,i,u,r,e=>by
   rw[Xm]at r;cases r with
   |cons c a=>
     cases i with
     |zero=>
       cases e;exact c
     |succ i=>
       show u=.bool (bs.getD i false);exact qa (bs:=bs) (i:=i) a (by simpa using e)
theorem qq(bs:List Bool):((List.range bs.length).any λi=>bs.getD i false)=bs.any id:=by
 induction bs with
 |nil=>rfl
 |cons b bs a=>
   rw[Xp,ZW,YX,List.any_map,YX,<-a];rfl
theorem Fk{X:Cx}(x:X.calm=true):fD X (.builtin "any") (λxs H Q=>∃p,∃bs:List Bool,xs=[.ref p]/\SqL X.K H p (bs.map V.bl)/\Q (.bl (bs.any id)) H):=by
 intro k s Z H xs us Q I r h;obtain⟨p,bs,rfl,w,q⟩:=h;obtain⟨u,rfl,m⟩:=Vals.one r;have c:u=Value.ref p:=m;subst c;obtain⟨its,j,pl,D⟩:=I.list w;have t:bs.length=its.length:=by rw[<-j.length,on]
 obtain⟨n,a,g,f⟩:=id pl.isList;have d:p<s.heap.objs.size:=Xu a;refine call_any_walk (Zd pl.isList ⟨s.heap.objs.size,_,_,_,_,_,λi=>bs.getD i false,rfl,Walks.list (A:=X.A.in1) (I.ok.hd x) _ p (XN d) its.toArray,⟨⟨_,XI _ rfl,rfl,rfl⟩,⟨n,Xq _ a,g,f⟩⟩,λi v s' E F B y=>?_,λh' C kp=>?_⟩)
 ·have e:=qa j (i:=i) (u:=v) (by simpa using B);rw[e];exact Yq y
 · have e:((List.range its.toArray.size).any λi=>bs.getD i false)=bs.any id:=by
    rw[XB,<-t];exact qq bs
   rw[e];refine⟨.bl _,H,I.kept λb o q=>kp b o (λz=>?_) (Xq _ q),rfl,q⟩;have l:b=s.heap.objs.size:=by simpa using z
   exact absurd (Xu q) (by rw[l];exact Yj _)
def SV(K:L0)(H:Hp)(v:V)(k:Int×Int×List Int):Prop:=∃p l,v=.ref p/\SqT K H p [.int k.1,.int k.2.1,.ref l]/\SqL K H l (k.2.2.map V.int)
def dO(a b:Int×Int×List Int):Bool:=HT.ua a.1 a.2.1 a.2.2 b.1 b.2.1 b.2.2
theorem pL:∀{vs:List V} {us:List Value} {i:Nat} {u:Value},Vals vs us->us[i]?=some u->∃v,vs[i]?=some v/\RelV v u
 |[],us,i,u,r,e=>by cases r;cases e
 | v::vs,us,i,u,r,e=>by
   cases r with
   |cons b a=>
     cases i with
     |zero=>cases e;exact⟨v,rfl,b⟩
     |succ i=>exact pL (i:=i) a (by simpa using e)
theorem mO(a:Nat->Nat->Bool):∀k,argBest a k<=k
 |0=>XD _
 | k+1=>by
   unfold argBest;split
   ·exact XD _
   ·exact Nat.le_succ_of_le (mO a k)
theorem BG{X:Cx}(hc:X.calm=true)(hu:X.A.units+101<cLine):kW X (.builtin "min") ["default"] (λxs E H Q=>∃p vs d,∃c:List (Int×Int×List Int),xs=[.ref p]/\E=[d]/\SqL X.K H p vs/\vs.length=c.length/\(∀i v,vs[i]?=some v->SV X.K H v (c.getD i (0,0,[])))/\
 (vs=[]->Q d H)/\∀v,vs[argBest (λi j=>dO (c.getD i (0,0,[])) (c.getD j (0,0,[]))) (vs.length-1)]?=some v->Q v H):=by
 intro g s Z H xs E us ws Q I r R h;obtain⟨p,vs,d,c,rfl,rfl,hq,M,N,V,U⟩:=h;obtain⟨u,rfl,S⟩:=Vals.one r;have t:u=Value.ref p:=S;subst t;obtain⟨dv,rfl,rd⟩:=Vals.one R;obtain⟨its,m,pl,hz⟩:=I.list hq;have L:vs.length=its.length:=m.length;obtain⟨ol,k,C,B⟩:=id pl.isList;have l:p<s.heap.objs.size:=Xu k;refine zv false (Zd pl.isList ⟨s.heap.objs.size,_,_,_,_,_,λi j=>dO (c.getD i (0,0,[])) (c.getD j (0,0,[])),λs'=>∃h' f,s'={s with heap:=h',toks:=f}/\∀b o,s.heap.get? b=some o->h'.get? b=some o,rfl,Walks.list (A:=X.A.in1) (I.ok.hd hc) _ p (XN l) its.toArray,⟨⟨_,XI _ rfl,rfl,rfl⟩,⟨ol,Xq _ k,C,B⟩⟩,λb hb=>?_,?_,?_,?_,λe h' f kp=>?_,λe v h' f pv kp=>?_⟩)
 · rw[YZ];rcases Xv.mp hb with z|z
   ·rw[z];exact Y3 _
   · have a:b=p:=by simpa using z
     rw[a];exact Zz l
 ·exact⟨_,_,rfl,λb o e=>Xq _ e⟩
 · rintro s' h' f ⟨O,J,rfl,k1⟩ kp;refine⟨h',f,rfl,λb o e=>kp b o (λz=>?_) (λz=>?_) (k1 b o e)⟩
   · have a:b=s.heap.objs.size:=by simpa using z
     exact absurd (Xu e) (by rw[a];exact Yj _)
   · have a:b=s.heap.objs.size+1:=by rw[z,YZ]
     exact absurd (Xu e) (by rw[a];exact Nat.not_lt.mpr (Nat.le_succ _))
 ·rintro i j G F s' Q' E' ⟨O,J,rfl,k1⟩ Y W y;have I1:Inv X g Z H {s with heap:=O,toks:=J}:=I.kept k1;obtain⟨n,D,x⟩:=pL m (i:=i) (u:=G) (by simpa using Y);obtain⟨P,e2,T⟩:=pL m (i:=j) (u:=F) (by simpa using W);obtain⟨p1,l1,rfl,a1,b1⟩:=N i n D;obtain⟨p2,l2,rfl,a2,b2⟩:=N j P e2;obtain rfl:G=Value.ref p1:=x;obtain rfl:F=Value.ref p2:=T;exact Jc (A:=X.A.in1) (by show X.A.units+1+100<cLine;omega) I1 a1 a2 b1 b2 X.prog X.w E' Q' y
 · have en:vs=[]:=Yn.mp (by rw[L];simpa using e);refine⟨d,H,I.kept λb o q=>kp b o (λz=>?_) (Xq _ q),rd,V en⟩;have a:b=s.heap.objs.size:=by simpa using z
   exact absurd (Xu q) (by rw[a];exact Yj _)
 · rw[show its.toArray.size-1=vs.length-1 by rw[XB,L],Z4]at pv;obtain⟨n,D,x⟩:=pL m pv;refine⟨n,H,I.kept λb o q=>kp b o (λz=>?_) (Xq _ q),x,U _ D⟩;have a:b=s.heap.objs.size:=by simpa using z
   exact absurd (Xu q) (by rw[a];exact Yj _)
end L2
namespace Mi
open PySem L2
inductive D where
 |non|bl (b:Bool)|int (i:Int)|str (x:Str)|ty (n:String)
 |lst (xs:List D)|tup (xs:List D)|scr (xs:List D)
 |dK (ks:List c9) (vs:List D)|dT (ks:List (List c9)) (vs:List D)
 |obj (c:Nat) (ns:List Str) (vs:List D)
abbrev T0:=List (Option D)
inductive Res (X:Type) where
 |ok (a:X)|exc (c:Nat)|bad
inductive Out (X:Type) where
 |ok (a:X) (T:T0)|exc (c:Nat) (T:T0)|bad
inductive SO where
 |nx (T:T0)|rt (d:D) (T:T0)|bk (T:T0)|ct (T:T0)|exc (c:Nat) (T:T0)|bad
@[simp] def Res.bind{X W:Type}:Res X->(X->Res W)->Res W
 |.ok a,f=>f a
 |.exc c,_=>.exc c
 |.bad,_=>.bad
@[simp] def Res.calm{X:Type}:Res X->Res X
 |.ok a=>.ok a
 |_=>.bad
@[simp] def Out.bind{X W:Type}:Out X->(X->T0->Out W)->Out W
 |.ok a T,f=>f a T
 |.exc c T,_=>.exc c T
 |.bad,_=>.bad
@[simp] def Res.up{X:Type}(T:T0):Res X->Out X
 |.ok a=>.ok a T
 |.exc c=>.exc c T
 |.bad=>.bad
def rg{X:Type}(l:List (Option X))(i:Nat):Option X:=(l[i]?).join
@[simp] def vr(i:Nat):T0->Res D:=λT=>match rg T i with|some d=>.ok d|none=>.bad
def aP(d:D):T0->Res D:=λ_=>.ok d
def un(f:D->Res D)(a:T0->Res D):T0->Res D:=λT=>(a T).bind f
def bn(f:D->D->Res D)(a b:T0->Res D):T0->Res D:=λT=>(a T).bind λx=>(b T).bind λy=>f x y
def am:Nat:=1000000
def iI(g:Int->Int->Int):D->D->Res D | .int i,.int j=>.ok (.int (g i j))|_,_=>.bad
def iB(g:Int->Int->Bool):D->D->Res D | .int i,.int j=>.ok (.bl (g i j))|_,_=>.bad
def iC(C:Int->Int->Bool)(g:Int->Int->Int):D->D->Res D | .int i,.int j=>if C i j=true then .ok (.int (g i j)) else .bad|_,_=>.bad
def jg:=iI λi j=>i+j
def sX:=iI λi j=>i-j
def tq:=iC (λi j=>decide ((-(2 ^ 64)<i/\i<2 ^ 64)\/(-(2 ^ 64)<j/\j<2 ^ 64))) λi j=>i*j
def gE:=iC (λ_ j=>decide (0<j/\j<1073741824)) λi j=>i / j
def d5:=iC (λ_ j=>decide (0<j)) λi j=>i%j
def FU:=iC (λ_ j=>decide (0<=j)) λi j=>i / 2 ^ j.toNat
def My:=iI λi j=>if j<i then j else i
def MA:=iI λi j=>if j>i then j else i
def Jd:=iB λi j=>decide (i<j)
def E2:=iB λi j=>decide (j<i)
def WH:=iB λi j=>decide (j<=i)
@[simp] theorem Wj(i j:Int):jg (.int i) (.int j)=.ok (.int (i+j)):=rfl
@[simp] theorem Th(i j:Int):sX (.int i) (.int j)=.ok (.int (i-j)):=rfl
@[simp] theorem HQ(i j:Int):tq (.int i) (.int j)=if (-(2 ^ 64)<i/\i<2 ^ 64)\/(-(2 ^ 64)<j/\j<2 ^ 64) then .ok (.int (i*j)) else .bad:=by simp[tq,iC]
@[simp] theorem E3(i j:Int):gE (.int i) (.int j)=if 0<j/\j<1073741824 then .ok (.int (i / j)) else .bad:=by simp[gE,iC]
@[simp] theorem Iy(i j:Int):d5 (.int i) (.int j)=if 0<j then .ok (.int (i%j)) else .bad:=by simp[d5,iC]
@[simp] theorem FT(i j:Int):FU (.int i) (.int j)=if 0<=j then .ok (.int (i / 2 ^ j.toNat)) else .bad:=by simp[FU,iC]
@[simp] theorem U7(i j:Int):My (.int i) (.int j)=.ok (.int (if j<i then j else i)):=rfl
@[simp] theorem U8(i j:Int):MA (.int i) (.int j)=.ok (.int (if j>i then j else i)):=rfl
@[simp] theorem WE(i j:Int):Jd (.int i) (.int j)=.ok (.bl (decide (i<j))):=rfl
@[simp] theorem WF(i j:Int):E2 (.int i) (.int j)=.ok (.bl (decide (j<i))):=rfl
@[simp] theorem WG(i j:Int):WH (.int i) (.int j)=.ok (.bl (decide (j<=i))):=rfl
def tm:D->Res D | .int i=>.ok (.int (-i))|_=>.bad
def HI:D->Res D | .bl b=>.ok (.bl (!b))|_=>.bad
def sV(neg:Bool):D->D->Res D
 |.int i,.int j=>.ok (.bl (neg.xor (decide (i=j))))
 |.str i,.str j=>.ok (.bl (neg.xor (decide (i=j))))
 |.bl i,.bl j=>.ok (.bl (neg.xor (decide (i=j))))
 |.non,.int _=>.ok (.bl neg)
 |.int _,.non=>.ok (.bl neg)
 |.non,.non=>.ok (.bl (!neg))
 |_,_=>.bad
def oY:D->Bool | .non=>true|_=>false
def fE:D->Res D
 |.lst xs=>.ok (.int xs.length)
 |.tup xs=>.ok (.int xs.length)
 |.scr xs=>.ok (.int xs.length)
 |_=>.bad
def Ng(xs:List D)(i:Int):Res D:=match nJ xs i with|some d=>.ok d|none=>.bad
def i5:D->D->Res D | .lst xs,.int i=>Ng xs i | .scr xs,.int i=>Ng xs i|_,_=>.bad
def SZ:D->D->Res D | .tup xs,.int i=>Ng xs i|_,_=>.bad
def sE:D->D->Res D | .lst xs,.lst a=>if xs.length+a.length<=am then .ok (.lst (xs++a)) else .bad|_,_=>.bad
def vB:D->Res D | .lst xs=>.ok (.lst xs) | .scr xs=>.ok (.lst xs) | .tup xs=>.ok (.lst xs)|_=>.bad
def bR:D->Option c9 | .int i=>some (.inl i) | .str x=>some (.inr x)|_=>none
def gx:List D->Option (List c9)
 |[]=>some []
 |d::r=>match bR d,gx r with|some k,some a=>some (k::a)|_,_=>none
section
variable{X:Type}[DecidableEq X]
def dP:List X->List D->X->Option D
 |k::a,d::ds,j=>if k=j then some d else dP a ds j
 |_,_,_=>none
def fq(a:List X)(j:X):Bool:=a.any λk=>decide (k=j)
def n5:List X->List D->X->D->List D
 |k::a,d::ds,j,x=>(if k=j then x else d)::n5 a ds j x
 |_,_,_,_=>[]
def ik:List X->List D->X->D->List D
 |k::a,d::ds,j,x=>if k=j then x::ds else d::ik a ds j x
 |_,_,_,_=>[]
end
def ni:D->D->Option (Option D)
 |.dT a vs,.tup k=>(gx k).map λk=>dP a vs k
 |.dK a vs,k=>(bR k).map λk=>dP a vs k
 |_,_=>none
def o0(d k:D):Res D:=match ni d k with|some (some x)=>.ok x|_=>.bad
def vM(neg:Bool)(k d:D):Res D:=match ni d k with|some x=>.ok (.bl (neg.xor x.isSome))|none=>.bad
def kE(d k x:D):Res D:=match ni d k with|some (some y)=>.ok y|some none=>.ok x|none=>.bad
def yg:D->D->D->Option D
 |.dT a vs,.tup k,x=>(gx k).bind λk=>if a.length<am then some (if fq a k=true then .dT a (n5 a vs k x) else .dT (a++[k]) (vs++[x])) else none
 |.dK a vs,k,x=>(bR k).bind λk=>if a.length<am then some (if fq a k=true then .dK a (n5 a vs k x) else .dK (a++[k]) (vs++[x])) else none
 |_,_,_=>none
def ie(c:Nat)(f:Str):D->Res D
 |.obj a ns vs=>if a=c then (match dP ns vs f with|some x=>.ok x|none=>.bad) else .bad
 |_=>.bad
def CD(a:Nat)(f:Str)(x:D):D->Option D
 |.obj c ns vs=>if c=a/\ns.length<900 then some (if fq ns f=true then .obj c ns (ik ns vs f x) else .obj c (ns++[f]) (vs++[x])) else none
 |_=>none
def wP:D->Res Bool | .bl b=>.ok b|_=>.bad
def Nl(a b:T0->Res D):T0->Res D:=λT=>((a T).bind wP).bind λc=>if c=true then b T else .ok (.bl false)
def WA(a b:T0->Res D):T0->Res D:=λT=>((a T).bind wP).bind λc=>if c=true then .ok (.bl true) else b T
def JH(c:T0->Res Bool)(a b:T0->Res D):T0->Res D:=λT=>(c T).bind λc=>if c=true then a T else b T
def bq:T0->Res (List D):=λ_=>.ok []
def aA(a:T0->Res D)(r:T0->Res (List D)):T0->Res (List D):=λT=>(a T).bind λx=>(r T).bind λxs=>.ok (x::xs)
def km(r:T0->Res (List D)):T0->Res D:=λT=>(r T).bind λxs=>if xs.length<=am then .ok (.lst xs) else .bad
def oT(r:T0->Res (List D)):T0->Res D:=λT=>(r T).bind λxs=>if xs.length<=am then .ok (.tup xs) else .bad
def h9(T:T0)(ix:List Nat):T0:=ix.map λj=>rg T j
def dD(a:T0->Res Bool)(te:T0->Res D)(cap:T0):List D->Res (List D)
 |[]=>.ok []
 |d::r=>(a (some d::cap)).calm.bind λc=>if c=true then (te (some d::cap)).calm.bind λx=>(dD a te cap r).bind λxs=>.ok (x::xs) else dD a te cap r
def iO(src:T0->Res (List D))(ix:List Nat)(b:T0->Res Bool)(te:T0->Res D):T0->Res D:=λT=>(src T).bind λxs=>if xs.length<am then (dD b te (h9 T ix) xs).bind λa=>.ok (.lst a) else .bad
def fb(a:T0->Res D):T0->Res (List D):=λT=>(a T).bind λd=>match d with | .lst xs=>.ok xs | .scr xs=>.ok xs|_=>.bad
def rng(lo hi:Int):List D:=(List.range (hi-lo).toNat).map λi:Nat=>D.int (lo+i)
def uQ(a b:T0->Res D):T0->Res (List D):=λT=>(a T).bind λx=>(b T).bind λy=>match x,y with
 |.int i,.int j=>if -(2 ^ 62)<=i/\i<2 ^ 62/\-(2 ^ 62)<=j/\j<2 ^ 62 then .ok (rng i j) else .bad
 |_,_=>.bad
def fI(b:T0->Res D):T0->Res (List D):=uQ (aP (.int 0)) b
def ax(a b:T0->SO):T0->SO:=λT=>match a T with | .nx C=>b C | o=>o
def bo:T0->SO:=λT=>.nx T
def M8:T0->SO:=λT=>.ct T
@[simp] def lD{X:Type}:Out X->(X->T0->SO)->SO
 |.ok a T,f=>f a T
 |.exc c T,_=>.exc c T
 |.bad,_=>.bad
abbrev MD:=T0->Out D
def aK{X:Type}(a:T0->Res X):T0->Out X:=λT=>(a T).up T
def bG(a:MD):T0->SO:=λT=>lD (a T) λd C=>.rt d C
def cC(a:MD):T0->SO:=λT=>lD (a T) λ_ C=>.nx C
def bF(i:Nat)(a:MD):T0->SO:=λT=>lD (a T) λd C=>.nx (C.set i (some d))
def fG(c:T0->Out Bool)(a b:T0->SO):T0->SO:=λT=>lD (c T) λt C=>if t=true then a C else b C
def vG(a:D->T0->Option T0)(body:T0->SO):List D->T0->SO
 |[],T=>.nx T
 | d::ds,T=>match a d T with
   |none=>.bad
   | some b=>match body b with
     |.nx C=>vG a body ds C
     |.ct C=>vG a body ds C
     |.bk C=>.nx C
     |o=>o
def cB(src:T0->Out (List D))(a:D->T0->Option T0)(body:T0->SO):T0->SO:=λT=>lD (src T) λxs C=>vG a body xs C
def zO(c:T0->Out Bool)(body:T0->SO):Nat->T0->SO
 |0,_=>.bad
 | n+1,T=>lD (c T) λt a=>if t=true then (match body a with
    |.nx C=>zO c body n C
    |.ct C=>zO c body n C
    |.bk C=>.nx C
    |o=>o) else .nx a
def kX(i:Nat):D->T0->Option T0:=λd T=>some (T.set i (some d))
def O5(i j:Nat):D->T0->Option T0:=λd T=>match d with | .tup [x,y]=>some ((T.set i (some x)).set j (some y))|_=>none
def run(k:Nat)(body:T0->SO)(ds:List D):Out D:=match body (ds.map some++List.replicate (k-ds.length) none) with
 |.nx T=>.ok .non T
 |.rt d T=>.ok d T
 |.exc c T=>.exc c T
 |_=>.bad
structure Cm where
 f:Nat->Addr
 K:L0
 tb:Tbs
instance:CoeFun Cm λ_=>Nat->Addr:=⟨Cm.f⟩
def SqF(K:L0)(B:Hp)(a:Addr)(xs:List V):Prop:=(∃o,B a=some (.frz o (.lst xs)))\/
 ∃(o:Obj) (its:Array Value) (n:Nat),K.lookup a=some o/\o.cls=.type "list" /\ o.dict=none/\o.data=.seq its n/\its.size<=sizeLine/\Vals xs its.toList
theorem SqF.mono{K:L0}{B S:Hp}{a:Addr}{xs:List V}(h:SqF K B a xs)(e:Same B S):SqF K S a xs:=by
 rcases h with ⟨o,h⟩|h
 ·exact .inl ⟨o,e _ _ h⟩
 ·exact .inr h
theorem SqF.sq{K:L0}{H:Hp}{a:Addr}{xs:List V}(h:SqF K H a xs):SqL K H a xs:=by
 rcases h with ⟨o,h⟩|h
 ·exact .inl (.inr ⟨o,h⟩)
 ·exact .inr h
theorem ve{B S:Hp}{a:Addr}{u:HO}(e:Same B S)(h:Rd B a u):Rd S a u:=by
 rcases h with h|⟨o,h⟩
 ·exact .inl (e _ _ h)
 ·exact .inr ⟨o,e _ _ h⟩
section
variable(Y:Cm)
mutual
def Dn(B:Hp):D->V->Prop
 |.non,v=>v=.non
 |.bl b,v=>v=.bl b
 |.int i,v=>v=.int i
 |.str x,v=>v=.str x
 |.ty n,v=>v=.ty n
 |.lst ds,v=>∃a xs,v=.ref a/\B a=some (.lst xs)/\Dns B ds xs
 |.scr ds,v=>∃a xs,v=.ref a/\SqF Y.K B a xs/\Dns B ds xs
 |.tup ds,v=>∃a xs,v=.ref a/\B a=some (.tup xs)/\Dns B ds xs
 |.dK e ds,v=>∃(a:Addr) (d:List (c9×V)),v=.ref a/\B a=some (.dK d)/\d.map (·.1)=e/\Dns B ds (d.map (·.2))
 |.dT e ds,v=>∃(a:Addr) (d:List (List c9×V)),v=.ref a/\Rd B a (.dT d)/\d.map (·.1)=e/\Dns B ds (d.map (·.2))
 |.obj c ns ds,v=>∃(a dx:Addr) (fs:List (Str×V)),v=.ref a/\B a=some (.ins (Y c) dx fs)/\fs.map (·.1)=ns/\Dns B ds (fs.map (·.2))
def Dns(B:Hp):List D->List V->Prop
 |[],xs=>xs=[]
 |d::ds,xs=>∃x r,xs=x::r/\Dn B d x/\Dns B ds r
end
inductive Sh where
 |fz|ct (s:Sh)|ob (fs:List (Str×Sh))|dp
mutual
def Ow(B H:Hp):D->Sh->V->List Addr->Prop
 |d,.fz,v,A=>Dn Y B d v/\A=[]
 |.lst ds,.ct s,v,A=>∃a xs e,v=.ref a/\H a=some (.lst xs)/\A=a::e/\Ows B H ds s xs e
 |.dK f ds,.ct s,v,A=>∃(a:Addr) (b:List (c9×V)) (e:List Addr),v=.ref a/\H a=some (.dK b)/\b.map (·.1)=f/\A=a::e/\Ows B H ds s (b.map (·.2)) e
 |.dT f ds,.ct s,v,A=>∃(a:Addr) (b:List (List c9×V)) (e:List Addr),v=.ref a/\H a=some (.dT b)/\b.map (·.1)=f/\A=a::e/\Ows B H ds s (b.map (·.2)) e
 |.obj c ns ds,.ob fs,v,A=>∃(a dx:Addr) (xs:List (Str×V)) (e:List Addr),v=.ref a/\H a=some (.ins (Y c) dx xs)/\xs.map (·.1)=ns/\A=a::e/\Owf B H ds ns fs (xs.map (·.2)) e
 |.lst ds,.dp,v,A=>∃a xs e,v=.ref a/\H a=some (.lst xs)/\A=a::e/\Ows B H ds .dp xs e
 |d,.dp,v,A=>Dn Y B d v/\A=[]
 |_,_,_,_=>False
def Ows(B H:Hp):List D->Sh->List V->List Addr->Prop
 |[],_,xs,A=>xs=[]/\A=[]
 |d::ds,s,xs,A=>∃x r A1 a,xs=x::r/\A=A1++a/\Ow B H d s x A1/\Ows B H ds s r a
def Owf(B H:Hp):List D->List Str->List (Str×Sh)->List V->List Addr->Prop
 |[],_,_,xs,A=>xs=[]/\A=[]
 |d::ds,ns,fs,xs,A=>∃n a x r A1 b,ns=n::a/\xs=x::r/\A=A1++b/\Ow B H d ((fs.lookup n).getD .fz) x A1/\Owf B H ds a fs r b
end
inductive Md where
 |F|R|O (s:Sh)
def LoV(B U H:Hp)(m:Md)(d:D)(v:V)(A:List Addr):Prop:=
 match m with
 |.F=>Dn Y B d v/\A=[]
 |.R=>Dn Y U d v/\A=[]
 |.O sh=>Ow Y B H d sh v A
def Lo(B U H:Hp)(m:Md)(o:Option D)(s:Option V)(A:List Addr):Prop:=
 match o with
 |none=>A=[]
 |some d=>∃v,s=some v/\LoV Y B U H m d v A
structure Rel (M:List Md) (B U:Hp) (As:Nat->List Addr) (Z:St) (H:Hp) (T:T0):Prop where
 bu:Same B U
 uh:Same U H
 nd:∀i,(As i).Nodup
 dj:∀i j a,i≠j->a∈As i->a∉As j
 un:∀i a,a∈As i->U a=none
 lo:∀i,Lo Y B U H (M.getD i .F) (rg T i) (rg Z i) (As i)
 len:T.length=Z.length
 tb:∀p∈Y.tb,∃l,B p.1=some (.tbl l)/\p.2∈l
end
def jR(o:HO):Prop:=∃xs,o=.tup xs
structure Ex (B U S J:Hp):Prop where
 b:Same B S
 u:Same U J
 nb:∀a o,S a=some o->B a=some o\/U a=none\/jR o
theorem Ex.refl(B U:Hp):Ex B U B U:=⟨Same.refl _,Same.refl _,λ_ _ h=>.inl h⟩
theorem Ex.trans{B U I L e d:Hp}(a:Ex B U I L)(b:Ex I L e d):Ex B U e d:=
 ⟨a.b.trans b.b,a.u.trans b.u,λc o h=>by
  rcases b.nb c o h with h|h|h
  ·exact a.nb c o h
  ·exact .inr (.inl (a.u.free h))
  ·exact .inr (.inr h)⟩
section
variable{Y:Cm}
def nd:HO->Prop
 |.dT _=>False
 |.frz _ (.dT _)=>False
 |_=>True
def Hm(G a:Hp):Prop:=(∀b x,G b=some x->nd x->a b=some x)/\∀b k,Rd G b (.dT k)->Rd a b (.dT k)
mutual
theorem Dn.imp{B S:Hp}(e:Hm B S):∀{d:D} {v:V},Dn Y B d v->Dn Y S d v:=by
 intro d v h;cases d <;> rw[Dn]at h ⊢ <;> first | exact h | (obtain⟨a,xs,r,c,b⟩:=h;first | exact⟨a,xs,r,e.1 _ _ c trivial,Dns.imp e b⟩ | exact⟨a,xs,r,e.1 _ _ c trivial,b.1,Dns.imp e b.2⟩ | exact⟨a,xs,r,e.2 _ _ c,b.1,Dns.imp e b.2⟩ | exact⟨a,xs,r,c.imp (λ⟨o,q⟩=>⟨o,e.1 _ _ q trivial⟩) id,Dns.imp e b⟩) | (obtain⟨a,dx,xs,r,c,b,f⟩:=h;exact⟨a,dx,xs,r,e.1 _ _ c trivial,b,Dns.imp e f⟩)
theorem Dns.imp{B S:Hp}(e:Hm B S):∀{ds:List D} {xs:List V},Dns Y B ds xs->Dns Y S ds xs
 |[],_,h=>by rw[Dns]at h ⊢;exact h
 | d::ds,_,h=>by
   rw[Dns]at h ⊢;obtain⟨x,r,h0,b,a⟩:=h;exact⟨x,r,h0,Dn.imp e b,Dns.imp e a⟩
end
theorem Hm.of{B S:Hp}(e:Same B S):Hm B S:=⟨λb x q _=>e b x q,λ_ _=>ve e⟩
theorem Dn.mono{B S:Hp}(e:Same B S){d:D}{v:V}:Dn Y B d v->Dn Y S d v:=Dn.imp (.of e)
theorem Dns.mono{B S:Hp}(e:Same B S){ds:List D}{xs:List V}:Dns Y B ds xs->Dns Y S ds xs:=Dns.imp (.of e)
theorem Dns.len{B:Hp}:∀{ds:List D} {xs:List V},Dns Y B ds xs->ds.length=xs.length
 |[],_,h=>by rw[Dns]at h;subst h;rfl
 | d::ds,_,h=>by
   rw[Dns]at h;obtain⟨x,r,rfl,_,a⟩:=h;rw[Xp,Xp,Dns.len a]
theorem Dns.get{B:Hp}:∀{ds:List D} {xs:List V} {i:Nat} {d:D},Dns Y B ds xs->ds[i]?=some d->∃x,xs[i]?=some x/\Dn Y B d x
 |[],_,_,_,_,e=>by cases e
 | d::ds,_,i,d',h,e=>by
   rw[Dns]at h;obtain⟨x,r,rfl,b,a⟩:=h;cases i with
   |zero=>cases e;exact⟨x,rfl,b⟩
   |succ i=>exact Dns.get (i:=i) a (by simpa using e)
theorem Dns.geti{B:Hp}:∀{ds:List D} {xs:List V} {i:Nat} {x:V},Dns Y B ds xs->xs[i]?=some x->∃d,ds[i]?=some d/\Dn Y B d x
 |[],_,_,_,h,e=>by rw[Dns]at h;subst h;cases e
 | d::ds,_,i,c,h,e=>by
   rw[Dns]at h;obtain⟨x,r,rfl,b,a⟩:=h;cases i with
   |zero=>cases e;exact⟨d,rfl,b⟩
   |succ i=>exact Dns.geti (i:=i) a (by simpa using e)
theorem Dns.append{B:Hp}:∀{ds b:List D} {xs a:List V},Dns Y B ds xs->Dns Y B b a->Dns Y B (ds++b) (xs++a)
 |[],_,_,_,h,k=>by rw[Dns]at h;subst h;exact k
 | d::ds,_,_,_,h,k=>by
   rw[Dns]at h;obtain⟨x,r,rfl,e,c⟩:=h;rw[Yo,Yo,Dns];exact⟨x,_,rfl,e,Dns.append c k⟩
theorem Dns.one{B:Hp}{d:D}{v:V}(h:Dn Y B d v):Dns Y B [d] [v]:=by
 rw[Dns];exact⟨v,[],rfl,h,by rw[Dns]⟩
theorem Dns.drop{B:Hp}:∀{ds:List D} {xs:List V} (n:Nat),Dns Y B ds xs->Dns Y B (ds.drop n) (xs.drop n)
 |[],_,n,h=>by rw[Dns]at h;subst h;rw[List.drop_nil,List.drop_nil,Dns]
 | d::ds,_,n,h=>by
   cases n with
   |zero=>exact h
   |succ n=>
     rw[Dns]at h;obtain⟨x,r,rfl,b,a⟩:=h;exact Dns.drop n a
theorem Dns.erase{B:Hp}:∀{ds:List D} {xs:List V} (n:Nat),Dns Y B ds xs->Dns Y B (ds.eraseIdx n) (xs.eraseIdx n)
 |[],_,n,h=>by rw[Dns]at h;subst h;rw[List.eraseIdx_nil,List.eraseIdx_nil,Dns]
 | d::ds,_,n,h=>by
   rw[Dns]at h;obtain⟨x,r,rfl,b,a⟩:=h;cases n with
   |zero=>exact a
   |succ n=>
     rw[Yx,Yx,Dns];exact⟨x,_,rfl,b,Dns.erase n a⟩
mutual
theorem Ow.imp{B S H H':Hp}(e:∀{d v},Dn Y B d v->Dn Y S d v):∀{d:D} {s:Sh} {v:V} {A:List Addr},(∀a∈A,H' a=H a)->Ow Y B H d s v A->Ow Y S H' d s v A:=by
 intro d s v A k h;cases s with
 |fz=>rw[Ow]at h ⊢;exact⟨e h.1,h.2⟩
 |ct s=>cases d <;> first | (simp[Ow]at h;done) | (rw[Ow]at h ⊢;obtain⟨a,xs,j,r,i,g,f⟩:=h;subst g;exact⟨a,xs,j,r,by rw[k a Xk];exact i,rfl,Ows.imp e (λb c=>k b (no _ c)) f⟩) | (rw[Ow]at h ⊢;obtain⟨a,xs,j,r,i,g,f,l⟩:=h;subst f;exact⟨a,xs,j,r,by rw[k a Xk];exact i,g,rfl,Ows.imp e (λb c=>k b (no _ c)) l⟩)
 |ob fs=>cases d <;> first | (simp[Ow]at h;done) | (rw[Ow]at h ⊢;obtain⟨a,dx,xs,j,r,i,g,f,l⟩:=h;subst f;exact⟨a,dx,xs,j,r,by rw[k a Xk];exact i,g,rfl,Owf.imp e (λb c=>k b (no _ c)) l⟩)
 |dp=>cases d <;> first | (rw[Ow]at h ⊢;obtain⟨a,xs,j,r,i,g,f⟩:=h;subst g;exact⟨a,xs,j,r,by rw[k a Xk];exact i,rfl,Ows.imp e (λb c=>k b (no _ c)) f⟩) | (simp only[Ow]at h ⊢;exact⟨e h.1,h.2⟩)
theorem Ows.imp{B S H H':Hp}(e:∀{d v},Dn Y B d v->Dn Y S d v):∀{ds:List D} {s:Sh} {xs:List V} {A:List Addr},(∀a∈A,H' a=H a)->Ows Y B H ds s xs A->Ows Y S H' ds s xs A
 |[],_,_,_,_,h=>by rw[Ows]at h ⊢;exact h
 | d::ds,s,xs,A,k,h=>by
   rw[Ows]at h ⊢;obtain⟨x,r,A1,j,h0,i,g,f⟩:=h;subst i;exact⟨x,r,A1,j,h0,rfl,Ow.imp e (λb c=>k b (XA _ c)) g,Ows.imp e (λb c=>k b (Xr _ c)) f⟩
theorem Owf.imp{B S H H':Hp}(e:∀{d v},Dn Y B d v->Dn Y S d v):∀{ds:List D} {ns:List Str} {fs:List (Str×Sh)} {xs:List V} {A:List Addr},(∀a∈A,H' a=H a)->Owf Y B H ds ns fs xs A->Owf Y S H' ds ns fs xs A
 |[],_,_,_,_,_,h=>by rw[Owf]at h ⊢;exact h
 | d::ds,ns,fs,xs,A,k,h=>by
   rw[Owf]at h ⊢;obtain⟨n,c,x,r,A1,m,g,h0,l,j,i⟩:=h;subst l;exact⟨n,c,x,r,A1,m,g,h0,rfl,Ow.imp e (λb f=>k b (XA _ f)) j,Owf.imp e (λb f=>k b (Xr _ f)) i⟩
end
section
variable{B S H H':Hp}(e:Same B S){A:List Addr}(k:∀a∈A,H' a=H a){s:Sh}
include e k
theorem Ow.mono{d:D}{v:V}:Ow Y B H d s v A->Ow Y S H' d s v A:=Ow.imp (Dn.mono e) k
theorem Ows.mono{ds:List D}{xs:List V}:Ows Y B H ds s xs A->Ows Y S H' ds s xs A:=Ows.imp (Dn.mono e) k
theorem Owf.mono{ds:List D}{ns:List Str}{fs:List (Str×Sh)}{xs:List V}:Owf Y B H ds ns fs xs A->Owf Y S H' ds ns fs xs A:=Owf.imp (Dn.mono e) k
end
end
section
variable{Y:Cm}
mutual
theorem Ow.dn{B H G:Hp}(e:Same B G):∀{d:D} {s:Sh} {v:V} {A:List Addr},(∀a∈A,∀o,H a=some o->G a=some o)->Ow Y B H d s v A->Dn Y G d v:=by
 intro d s v A k h;cases s with
 |fz=>rw[Ow]at h;exact h.1.mono e
 |ct s=>cases d <;> first | (simp[Ow]at h;done) | (rw[Ow]at h;obtain⟨a,xs,l,r,i,c,g⟩:=h;subst c;rw[Dn];exact⟨a,xs,r,k a Xk _ i,Ows.dn e (λb f=>k b (no _ f)) g⟩) | (rw[Ow]at h;obtain⟨a,xs,l,r,i,c,g,j⟩:=h;subst g;rw[Dn];have q:=Ows.dn e (λb f=>k b (no _ f)) j;have p:=k a Xk _ i;first | exact⟨a,xs,r,p,c,q⟩ | exact⟨a,xs,r,.inl p,c,q⟩)
 |ob fs=>cases d <;> first | (simp[Ow]at h;done) | (rw[Ow]at h;obtain⟨a,dx,xs,l,r,i,c,g,j⟩:=h;subst g;rw[Dn];exact⟨a,dx,xs,r,k a Xk _ i,c,Owf.dn e (λb f=>k b (no _ f)) j⟩)
 |dp=>cases d <;> first | (rw[Ow]at h;obtain⟨a,xs,l,r,i,c,g⟩:=h;subst c;rw[Dn];exact⟨a,xs,r,k a Xk _ i,Ows.dn e (λb f=>k b (no _ f)) g⟩) | (simp only[Ow]at h;exact h.1.mono e)
theorem Ows.dn{B H G:Hp}(e:Same B G):∀{ds:List D} {s:Sh} {xs:List V} {A:List Addr},(∀a∈A,∀o,H a=some o->G a=some o)->Ows Y B H ds s xs A->Dns Y G ds xs
 |[],_,_,_,_,h=>by rw[Ows]at h;rw[Dns];exact h.1
 | d::ds,s,xs,A,k,h=>by
   rw[Ows]at h;obtain⟨x,r,A1,j,h0,i,g,f⟩:=h;subst i;rw[Dns];exact⟨x,r,h0,Ow.dn e (λb c=>k b (XA _ c)) g,Ows.dn e (λb c=>k b (Xr _ c)) f⟩
theorem Owf.dn{B H G:Hp}(e:Same B G):∀{ds:List D} {ns:List Str} {fs:List (Str×Sh)} {xs:List V} {A:List Addr},(∀a∈A,∀o,H a=some o->G a=some o)->Owf Y B H ds ns fs xs A->Dns Y G ds xs
 |[],_,_,_,_,_,h=>by rw[Owf]at h;rw[Dns];exact h.1
 | d::ds,ns,fs,xs,A,k,h=>by
   rw[Owf]at h;obtain⟨n,f,x,r,A1,m,l,h0,j,i,g⟩:=h;subst j;rw[Dns];exact⟨x,r,h0,Ow.dn e (λb c=>k b (XA _ c)) i,Owf.dn e (λb c=>k b (Xr _ c)) g⟩
end
mutual
theorem Ow.at2{B H:Hp}:∀{d:D} {s:Sh} {v:V} {A:List Addr} {a:Addr},Ow Y B H d s v A->a∈A->∃o,H a=some o/\¬ jR o:=by
 intro d s v A a h m;cases s with
 |fz=>rw[Ow]at h;rw[h.2]at m;cases m
 |ct s=>cases d <;> first | (simp[Ow]at h;done) | (rw[Ow]at h;obtain⟨b,xs,j,r,f,g,c⟩:=h;subst g;exact(Xv.mp m).elim (λe=>by subst e;exact⟨_,f,λ⟨_,z⟩=>nomatch z⟩) (Ows.at2 c)) | (rw[Ow]at h;obtain⟨b,xs,j,r,f,g,c,i⟩:=h;subst c;exact(Xv.mp m).elim (λe=>by subst e;exact⟨_,f,λ⟨_,z⟩=>nomatch z⟩) (Ows.at2 i))
 |ob fs=>cases d <;> first | (simp[Ow]at h;done) | (rw[Ow]at h;obtain⟨b,dx,xs,j,r,f,g,c,i⟩:=h;subst c;exact(Xv.mp m).elim (λe=>by subst e;exact⟨_,f,λ⟨_,z⟩=>nomatch z⟩) (Owf.at2 i))
 |dp=>cases d <;> first | (rw[Ow]at h;obtain⟨b,xs,j,r,f,g,c⟩:=h;subst g;exact(Xv.mp m).elim (λe=>by subst e;exact⟨_,f,λ⟨_,z⟩=>nomatch z⟩) (Ows.at2 c)) | (simp only[Ow]at h;rw[h.2]at m;cases m)
theorem Ows.at2{B H:Hp}:∀{ds:List D} {s:Sh} {xs:List V} {A:List Addr} {a:Addr},Ows Y B H ds s xs A->a∈A->∃o,H a=some o/\¬ jR o
 |[],_,_,_,_,h,m=>by rw[Ows]at h;rw[h.2]at m;cases m
 | d::ds,s,xs,A,a,h,m=>by
   rw[Ows]at h;obtain⟨x,r,A1,f,h0,e,c,b⟩:=h;subst e;rcases XE.mp m with m|m
   ·exact Ow.at2 c m
   ·exact Ows.at2 b m
theorem Owf.at2{B H:Hp}:∀{ds:List D} {ns:List Str} {fs:List (Str×Sh)} {xs:List V} {A:List Addr} {a:Addr},Owf Y B H ds ns fs xs A->a∈A->∃o,H a=some o/\¬ jR o
 |[],_,_,_,_,_,h,m=>by rw[Owf]at h;rw[h.2]at m;cases m
 | d::ds,ns,fs,xs,A,a,h,m=>by
   rw[Owf]at h;obtain⟨n,b,x,r,A1,i,g,h0,f,e,c⟩:=h;subst f;rcases XE.mp m with m|m
   ·exact Ow.at2 e m
   ·exact Owf.at2 c m
end
theorem Ow.at{B H:Hp}{d:D}{s:Sh}{v:V}{A:List Addr}{a:Addr}(h:Ow Y B H d s v A)(m:a∈A):∃o,H a=some o:=let ⟨o,e,_⟩:=Ow.at2 h m;⟨o,e⟩
theorem Owf.at{B H:Hp}{ds:List D}{ns:List Str}{fs:List (Str×Sh)}{xs:List V}{A:List Addr}{a:Addr}(h:Owf Y B H ds ns fs xs A)(m:a∈A):∃o,H a=some o:=let ⟨o,e,_⟩:=Owf.at2 h m;⟨o,e⟩
theorem Ows.of{B H:Hp}:∀{ds:List D} {xs:List V},Dns Y B ds xs->Ows Y B H ds .fz xs []
 |[],_,h=>by rw[Dns]at h;rw[Ows];exact⟨h,rfl⟩
 | d::ds,_,h=>by
   rw[Dns]at h;obtain⟨x,r,h0,b,a⟩:=h;rw[Ows];exact⟨x,r,[],[],h0,rfl,by rw[Ow];exact⟨b,rfl⟩,Ows.of a⟩
theorem Ows.fz{B H:Hp}:∀{ds:List D} {xs:List V} {A:List Addr},Ows Y B H ds .fz xs A->Dns Y B ds xs/\A=[]
 |[],_,_,h=>by rw[Ows]at h;rw[Dns];exact h
 | d::ds,_,_,h=>by
   rw[Ows]at h;obtain⟨x,r,A1,g,h0,f,a,e⟩:=h;rw[Ow]at a;obtain⟨c,b⟩:=Ows.fz e;rw[Dns];exact⟨⟨x,r,h0,a.1,c⟩,by rw[f,a.2,b];rfl⟩
theorem Lo.at2{B U H:Hp}{m:Md}{o:Option D}{s:Option V}{A:List Addr}{a:Addr}(h:Lo Y B U H m o s A)(b:a∈A):∃o,H a=some o/\¬ jR o:=by
 unfold Lo at h;cases o with
 |none=>simp only at h;rw[h]at b;cases b
 |some d=>
   obtain⟨v,_,h⟩:=h;cases m with
   |F=>have h:Dn Y B d v/\A=[]:=h;rw[h.2]at b;cases b
   |R=>have h:Dn Y U d v/\A=[]:=h;rw[h.2]at b;cases b
   |O sh=>exact Ow.at2 h b
theorem Lo.at{B U H:Hp}{m:Md}{o:Option D}{s:Option V}{A:List Addr}{a:Addr}(h:Lo Y B U H m o s A)(b:a∈A):∃o,H a=some o:=let ⟨o,e,_⟩:=h.at2 b;⟨o,e⟩
theorem Lo.mono{B U H S J H':Hp}{m:Md}{o:Option D}{s:Option V}{A:List Addr}(h:Lo Y B U H m o s A)(e:Same B S)(f:Same U J)(k:∀a∈A,H' a=H a):Lo Y S J H' m o s A:=by
 unfold Lo at h ⊢;cases o with
 |none=>exact h
 |some d=>
   obtain⟨v,b,h⟩:=h;refine⟨v,b,?_⟩;cases m with
   |F=>exact⟨h.1.mono e,h.2⟩
   |R=>exact⟨h.1.mono f,h.2⟩
   |O sh=>exact Ow.mono e k h
variable{M:List Md}{B U H S J H':Hp}{As:Nat->List Addr}{Z:St}{T:T0}
theorem Rel.at(R:Rel Y M B U As Z H T){i:Nat}{a:Addr}(h:a∈As i):∃o,H a=some o:=(R.lo i).at h
theorem Rel.nt(R:Rel Y M B U As Z H T){i:Nat}{a:Addr}{o:HO}(h:a∈As i)(e:H a=some o)(z:jR o):False:=by
 obtain⟨o',b,n⟩:=(R.lo i).at2 h;rw[e]at b;cases b;exact n z
theorem Rel.fresh(R:Rel Y M B U As Z H T){p:Addr}(h:H p=none)(i:Nat):p∉As i:=λm=>by
 obtain⟨o,e⟩:=R.at m;rw[h]at e;cases e
theorem Rel.grow(R:Rel Y M B U As Z H T)(e:Same B S)(f:Same U J)(g:Same H H')(bu:Same S J)(uh:Same J H')(un:∀i a,a∈As i->J a=none):Rel Y M S J As Z H' T:=
 ⟨bu,uh,R.nd,R.dj,un,λi=>(R.lo i).mono e f λa b=>by
  obtain⟨o,q⟩:=R.at b
  rw[q,g a o q],R.len,λp hp=>let ⟨l,d,c⟩:=R.tb p hp;⟨l,e _ _ d,c⟩⟩
theorem Rel.bh(R:Rel Y M B U As Z H T):Same B H:=R.bu.trans R.uh
theorem Rel.new(R:Rel Y M B U As Z H T){p:Addr}{o:HO}(h:H p=none):Rel Y M B U As Z (upd H p o) T:=
 R.grow (Same.refl _) (Same.refl _) (Gd.ci h) R.bu (R.uh.trans (Gd.ci h)) R.un
theorem nY{G a:Hp}{p:Addr}{o:HO}(e:Same G a):Same (upd G p o) (upd a p o):=λb u q=>by
 by_cases z:b=p
 ·subst z;rw[bj]at q ⊢;exact q
 ·rw[a7 z]at q ⊢;exact e b u q
theorem Rel.newB(R:Rel Y M B U As Z H T){p:Addr}{o:HO}(h:H p=none):Rel Y M (upd B p o) (upd U p o) As Z (upd H p o) T:=
 R.grow (Gd.ci (R.bh.free h)) (Gd.ci (R.uh.free h)) (Gd.ci h) (nY R.bu) (nY R.uh) λi a b=>by
  rw[a7 (λz:a=p=>R.fresh h i (z▸b))];exact R.un i a b
theorem Rel.newU(R:Rel Y M B U As Z H T){p:Addr}{o:HO}(h:H p=none):Rel Y M B (upd U p o) As Z (upd H p o) T:=
 R.grow (Same.refl _) (Gd.ci (R.uh.free h)) (Gd.ci h) (R.bu.trans (Gd.ci (R.uh.free h))) (nY R.uh) λi a b=>by
  rw[a7 (λz:a=p=>R.fresh h i (z▸b))];exact R.un i a b
theorem Ex.newB(R:Rel Y M B U As Z H T){p:Addr}{o:HO}(h:H p=none):Ex B U (upd B p o) (upd U p o):=
 ⟨Gd.ci (R.bh.free h),Gd.ci (R.uh.free h),λa u q=>by
  by_cases z:a=p
  ·subst z;exact .inr (.inl (R.uh.free h))
  ·rw[a7 z]at q;exact .inl q⟩
theorem Ex.newU(R:Rel Y M B U As Z H T){p:Addr}{o:HO}(h:H p=none):Ex B U B (upd U p o):=
 ⟨Same.refl _,Gd.ci (R.uh.free h),λa u q=>.inl q⟩
def frz(B H:Hp)(A:List Addr):Hp:=λa=>if a∈A then H a else B a
theorem eD{A:List Addr}(e:Same B H):Same B (frz B H A):=λa o q=>by
 unfold frz;split
 ·exact e a o q
 ·exact q
theorem C3{A:List Addr}(e:Same B H):Same (frz B H A) H:=λa o q=>by
 unfold frz at q;split at q
 ·exact q
 ·exact e a o q
theorem ya{A:List Addr}(e:Same B U):Same (frz B H A) (frz U H A):=λa o q=>by
 unfold frz at q ⊢;split
 ·rename_i z;rw[Xl z]at q;exact q
 ·rename_i z;rw[Xj z]at q;exact e a o q
end
abbrev KT(X W:Type):=X->W->Hp->Hp->Hp->List Addr->Prop
inductive Kd where
 |F|U|X
def hp:Kd->Hp->Hp->Hp->Hp
 |.F,B,_,_=>B
 |.U,_,U,_=>U
 |.X,_,_,H=>H
structure Gw (B U H S J H':Hp):Prop extends Ex B U S J where
 h:Same H H'
 fr:∀a o,J a=some o->U a=some o\/H a=none\/jR o
theorem Gw.refl(B U H:Hp):Gw B U H B U H:=⟨Ex.refl _ _,Same.refl _,λ_ _ h=>.inl h⟩
theorem Gw.trans{B U H I L H1 f d e:Hp}(a:Gw B U H I L H1)(b:Gw I L H1 f d e):Gw B U H f d e:=
 ⟨a.toEx.trans b.toEx,a.h.trans b.h,λc o h=>by
  rcases b.fr c o h with h|h|h
  ·exact a.fr c o h
  ·exact .inr (.inl (a.h.free h))
  ·exact .inr (.inr h)⟩
structure New (N:List Addr) (H U:Hp) (As:Nat->List Addr):Prop where
 nd:N.Nodup
 fr:∀a∈N,H a=none
 un:∀a∈N,U a=none
theorem New.nil{H U:Hp}{As:Nat->List Addr}:New [] H U As:=⟨Yl,λ_ h=>(nomatch h),λ_ h=>(nomatch h)⟩
section
variable(Y:Cm)
def Cn(G H:Hp):D->V->Prop
 |.lst ds,v=>∃a xs,v=.ref a/\H a=some (.lst xs)/\Dns Y G ds xs
 |.scr ds,v=>∃a xs,v=.ref a/\SqF Y.K H a xs/\Dns Y G ds xs
 |.tup ds,v=>∃a xs,v=.ref a/\H a=some (.tup xs)/\Dns Y G ds xs
 |.dK e ds,v=>∃(a:Addr) (b:List (c9×V)),v=.ref a/\H a=some (.dK b)/\b.map (·.1)=e/\Dns Y G ds (b.map (·.2))
 |.dT e ds,v=>∃(a:Addr) (b:List (List c9×V)),v=.ref a/\Rd H a (.dT b)/\b.map (·.1)=e/\Dns Y G ds (b.map (·.2))
 |.obj c ns ds,v=>∃(a dx:Addr) (fs:List (Str×V)),v=.ref a/\H a=some (.ins (Y c) dx fs)/\fs.map (·.1)=ns/\Dns Y G ds (fs.map (·.2))
 |d,v=>Dn Y G d v
def KR(k:Kd):KT D V:=λd v B U H _=>Dn Y (hp k B U H) d v
def KC(k:Kd):KT D V:=λd v B U H _=>Cn Y (hp k B U H) H d v
def KO(s:Sh):KT D V:=λd v B U H N=>Ow Y B H d s v N
def KB:KT Bool Bool:=λb c _ _ _ _=>b=c
def KL(k:Kd):KT (List D) (List V):=λd v B U H _=>Dns Y (hp k B U H) d v
def Po{X W:Type}(K:KT X W)(E:XK)(M:List Md)(B U:Hp)(As:Nat->List Addr)(Z:St)(H:Hp)(T:T0)(r:Res X)(Q:W->Hp->Prop):Prop:=
 match r with
 |.ok d=>∀v S J H' N,Rel Y M S J As Z H' T->Gw B U H S J H'->New N H J As->K d v S J H' N->Q v H'
 |.exc c=>∀S J H',Rel Y M S J As Z H' T->Gw B U H S J H'->∀a,E (.ref (Y c)) a H'
 |.bad=>False
def PJ{X W:Type}(K:KT X W)(E:XK)(M:List Md)(t:St->Hp->(W->Hp->Prop)->Prop)(m:T0->Res X):Prop:=
 ∀B U As Z H T Q,Rel Y M B U As Z H T->Po Y K E M B U As Z H T (m T) Q->t Z H Q
end
section
variable{Y:Cm}{E:XK}{M:List Md}{B U H:Hp}{As:Nat->List Addr}{Z:St}{T:T0}
theorem New.up{N:List Addr}{H1:Hp}(h:New N H1 U As)(s:Same H H1):New N H U As:=⟨h.nd,λa b=>s.free (h.fr a b),h.un⟩
theorem Po.at{X W:Type}{K:KT X W}{I L H1:Hp}{r:Res X}{Q:W->Hp->Prop}(P:Po Y K E M B U As Z H T r Q)(e:Gw B U H I L H1):Po Y K E M I L As Z H1 T r Q:=by
 cases r with
 |ok d=>exact λv S J H' N b a f k=>P v S J H' N b (e.trans a) (f.up e.h) k
 |exc c=>exact λS J H' b a=>P S J H' b (e.trans a)
 |bad=>exact P
theorem PJ.bnd{X W O J:Type}{g:KT X W}{f:KT O J}{b:St->Hp->(W->Hp->Prop)->Prop}{a:T0->Res X}(j:PJ Y g E M b a)(R:Rel Y M B U As Z H T){k:X->Res O}{Q:J->Hp->Prop}
 (P:Po Y f E M B U As Z H T ((a T).bind k) Q) {body:W->Hp->Prop}
 (h:∀x v I L H1 N,a T=.ok x->Rel Y M I L As Z H1 T->Gw B U H I L H1->New N H L As->g x v I L H1 N->Po Y f E M I L As Z H1 T (k x) Q->body v H1):b Z H body:=by
 refine j B U As Z H T body R ?_;cases e:a T with
 |ok x=>
   rw[e]at P;exact λv I L H1 N l d i k1=>h x v I L H1 N e l d i k1 (Po.at (r:=k x) P d)
 |exc c=>rw[e]at P;exact P
 |bad=>rw[e]at P;exact P
theorem jv{k:Kd}{I L H1:Hp}(e:Gw B U H I L H1):Same (hp k B U H) (hp k I L H1):=by
 cases k with
 |F=>exact e.b
 |U=>exact e.u
 |X=>exact e.h
theorem Cn.mono{G j H H':Hp}(e:Same G j)(f:Same H H'){d:D}{v:V}(h:Cn Y G H d v):Cn Y j H' d v:=by
 cases d with
 |lst ds=>obtain⟨a,xs,r,g,b⟩:=h;exact⟨a,xs,r,f _ _ g,b.mono e⟩
 |scr ds=>obtain⟨a,xs,r,g,b⟩:=h;exact⟨a,xs,r,g.mono f,b.mono e⟩
 |tup ds=>obtain⟨a,xs,r,g,b⟩:=h;exact⟨a,xs,r,f _ _ g,b.mono e⟩
 |dK k ds=>obtain⟨a,xs,r,g,b,i⟩:=h;exact⟨a,xs,r,f _ _ g,b,i.mono e⟩
 |dT k ds=>obtain⟨a,xs,r,g,b,i⟩:=h;exact⟨a,xs,r,ve f g,b,i.mono e⟩
 |obj c ns ds=>obtain⟨a,dx,xs,r,g,b,i⟩:=h;exact⟨a,dx,xs,r,f _ _ g,b,i.mono e⟩
 |non=>exact Dn.mono e h
 |bl _=>exact Dn.mono e h
 |int _=>exact Dn.mono e h
 |str _=>exact Dn.mono e h
 |ty _=>exact Dn.mono e h
theorem Dn.cn{G H:Hp}(f:Same G H){d:D}{v:V}(h:Dn Y G d v):Cn Y G H d v:=by
 cases d with
 |lst ds=>rw[Dn]at h;obtain⟨a,xs,r,e,b⟩:=h;exact⟨a,xs,r,f _ _ e,b⟩
 |scr ds=>rw[Dn]at h;obtain⟨a,xs,r,e,b⟩:=h;exact⟨a,xs,r,e.mono f,b⟩
 |tup ds=>rw[Dn]at h;obtain⟨a,xs,r,e,b⟩:=h;exact⟨a,xs,r,f _ _ e,b⟩
 |dK i ds=>rw[Dn]at h;obtain⟨a,xs,r,e,b,g⟩:=h;exact⟨a,xs,r,f _ _ e,b,g⟩
 |dT i ds=>rw[Dn]at h;obtain⟨a,xs,r,e,b,g⟩:=h;exact⟨a,xs,r,ve f e,b,g⟩
 |obj c ns ds=>rw[Dn]at h;obtain⟨a,dx,xs,r,e,b,g⟩:=h;exact⟨a,dx,xs,r,f _ _ e,b,g⟩
 |non=>exact h
 |bl _=>exact h
 |int _=>exact h
 |str _=>exact h
 |ty _=>exact h
theorem Cn.dn{H:Hp}{d:D}{v:V}(h:Cn Y H H d v):Dn Y H d v:=by
 cases d with
 |lst ds=>obtain⟨a,xs,r,e,b⟩:=h;rw[Dn];exact⟨a,xs,r,e,b⟩
 |scr ds=>obtain⟨a,xs,r,e,b⟩:=h;rw[Dn];exact⟨a,xs,r,e,b⟩
 |tup ds=>obtain⟨a,xs,r,e,b⟩:=h;rw[Dn];exact⟨a,xs,r,e,b⟩
 |dK g ds=>obtain⟨a,xs,r,e,b,f⟩:=h;rw[Dn];exact⟨a,xs,r,e,b,f⟩
 |dT g ds=>obtain⟨a,xs,r,e,b,f⟩:=h;rw[Dn];exact⟨a,xs,r,e,b,f⟩
 |obj c ns ds=>obtain⟨a,dx,xs,r,e,b,f⟩:=h;rw[Dn];exact⟨a,dx,xs,r,e,b,f⟩
 |non=>exact h
 |bl _=>exact h
 |int _=>exact h
 |str _=>exact h
 |ty _=>exact h
theorem Rel.hp(R:Rel Y M B U As Z H T)(k:Kd):Same (hp k B U H) H:=by
 cases k with
 |F=>exact R.bh
 |U=>exact R.uh
 |X=>exact Same.refl _
theorem PJ.imp{X W:Type}{K b:KT X W}{t:St->Hp->(W->Hp->Prop)->Prop}{m:T0->Res X}(h:PJ Y K E M t m)(f:∀B U As Z H T d v N,Rel Y M B U As Z H T->K d v B U H N->b d v B U H N):PJ Y b E M t m:=by
 intro B U As Z H T Q R P;refine h B U As Z H T Q R ?_;cases e:m T with
 |ok d=>rw[e]at P;exact λv S J H' N a i g k=>P v S J H' N a i g (f _ _ _ _ _ _ _ _ _ a k)
 |exc c=>rw[e]at P;exact P
 |bad=>rw[e]at P;exact P
section
variable{t:TE}{m:T0->Res D}{k:Kd}{s:Sh}
theorem fu(h:PJ Y (KR Y .F) E M t m):PJ Y (KR Y .U) E M t m:=h.imp λ_ _ _ _ _ _ _ _ _ R q=>Dn.mono R.bu q
theorem ux(h:PJ Y (KR Y .U) E M t m):PJ Y (KR Y .X) E M t m:=h.imp λ_ _ _ _ _ _ _ _ _ R q=>Dn.mono R.uh q
theorem fx(h:PJ Y (KR Y .F) E M t m):PJ Y (KR Y .X) E M t m:=ux (fu h)
theorem rc(h:PJ Y (KR Y k) E M t m):PJ Y (KC Y k) E M t m:=h.imp λ_ _ _ _ _ _ _ _ _ R q=>Dn.cn (R.hp k) q
theorem cx(h:PJ Y (KC Y k) E M t m):PJ Y (KR Y .X) E M t m:=h.imp λ_ _ _ _ _ _ _ _ _ R q=>Cn.dn (Cn.mono (R.hp k) (Same.refl _) q)
theorem Rel.freeze{A:List Addr}(R:Rel Y M B U As Z H T)(h:∀a∈A,U a=none/\∀i,a∉As i):Rel Y M (Mi.frz B H A) (Mi.frz U H A) As Z H T/\Ex B U (Mi.frz B H A) (Mi.frz U H A):=by
 refine⟨R.grow (eD R.bh) (eD R.uh) (Same.refl _) (ya R.bu) (C3 R.uh) λi a b=>?_,eD R.bh,eD R.uh,λa o q=>?_⟩
 · unfold Mi.frz;split
   ·rename_i z;exact absurd b ((h a z).2 i)
   ·exact R.un i a b
 · unfold Mi.frz at q;split at q
   ·rename_i z;exact .inr (.inl (h a z).1)
   ·exact .inl q
theorem Rel.apart(R:Rel Y M B U As Z H T){N:List Addr}{J:Hp}(n:New N H J As):∀a∈N,∀i,a∉As i:=λa b i=>R.fresh (n.fr a b) i
theorem oF(h:PJ Y (KO Y s) E M t m):PJ Y (KR Y .F) E M t m:=by
 intro B U As Z H T Q R P;refine h B U As Z H T Q R ?_;cases e:m T with
 |ok d=>
   rw[e]at P;intro v S J H' N i g f j;obtain⟨R2,k⟩:=i.freeze λa b=>⟨f.un a b,R.apart f a b⟩;refine P v _ _ H' [] R2 ⟨g.toEx.trans k,g.h,λa o q=>?_⟩ New.nil (Ow.dn (eD i.bh) (λa b o q=>?_) j)
   · unfold Mi.frz at q;split at q
     ·rename_i z;exact .inr (.inl (f.fr a z))
     ·exact g.fr a o q
   ·unfold Mi.frz;rw[if_pos b];exact q
 |exc c=>rw[e]at P;exact P
 |bad=>rw[e]at P;exact P
theorem oc(h:PJ Y (KO Y (.ct .fz)) E M t m):PJ Y (KC Y .F) E M t m:=rc (oF h)
end
theorem cI{X:Type}{l:List (Option X)}{i:Nat}{x:X}(h:rg l i=some x):l[i]?=some (some x):=by
 unfold rg at h;cases e:l[i]? with
 |none=>rw[e]at h;cases h
 |some o=>rw[e]at h;exact congrArg some h
theorem vt{K:KT D V}{i:Nat}(f:∀(B U:Hp) (A:List Addr) (H:Hp) (d:D) (v:V) (s:Option V),Same B U->Same U H->Lo Y B U H (M.getD i .F) (some d) s A->s=some v->K d v B U H []):PJ Y K E M (dF i) (vr i):=by
 intro B U As Z H T Q R P;unfold vr at P;have l:=R.lo i;cases e:rg T i with
 |none=>rw[e]at P;exact P.elim
 |some d=>
   rw[e]at P l;obtain⟨v,a,q⟩:=id l;exact⟨v,cI a,P v B U H [] R (Gw.refl _ _ _) New.nil (f B U _ H d v _ R.bu R.uh l a)⟩
theorem gY{B U H:Hp}{m:Md}{d:D}{v:V}{s:Option V}{A:List Addr}(l:Lo Y B U H m (some d) s A)(b:s=some v):LoV Y B U H m d v A:=by
 obtain⟨w,a,q⟩:=l;rw[b]at a;cases a;exact q
theorem xF{i:Nat}(b:M.getD i .F= .F):PJ Y (KR Y .F) E M (dF i) (vr i):=vt λB U As H d v s _ _ l a=>by
 rw[b]at l;exact(gY l a).1
theorem xR{i:Nat}(b:M.getD i .F= .R):PJ Y (KR Y .U) E M (dF i) (vr i):=vt λB U As H d v s _ _ l a=>by
 rw[b]at l;exact(gY l a).1
theorem xO{i:Nat}{sh:Sh}(c:M.getD i .F= .O sh):PJ Y (KR Y .X) E M (dF i) (vr i):=vt λB U As H d v s b u l a=>by
 rw[c]at l;exact Ow.dn (b.trans u) (λ_ _ _ q=>q) (gY l a)
theorem Ow.cn{B H:Hp}{d:D}{v:V}{A:List Addr}(f:Same B H)(h:Ow Y B H d (.ct .fz) v A):Cn Y B H d v:=by
 cases d with
 |lst ds=>rw[Ow]at h;obtain⟨a,xs,i,r,b,c,g⟩:=h;exact⟨a,xs,r,b,(Ows.fz g).1⟩
 |dK j ds=>rw[Ow]at h;obtain⟨a,xs,i,r,b,c,g,e⟩:=h;exact⟨a,xs,r,b,c,(Ows.fz e).1⟩
 |dT j ds=>rw[Ow]at h;obtain⟨a,xs,i,r,b,c,g,e⟩:=h;exact⟨a,xs,r,.inl b,c,(Ows.fz e).1⟩
 |_=>simp[Ow]at h
theorem xC{i:Nat}(c:M.getD i .F= .O (.ct .fz)):PJ Y (KC Y .F) E M (dF i) (vr i):=vt λB U As H d v s b u l a=>by
 rw[c]at l;exact Ow.cn (b.trans u) (gY l a)
theorem Wz{d:D}{v:V}(h:∀G,Dn Y G d v):PJ Y (KR Y .F) E M (tC v) (aP d):=λB U As Z H T Q R P=>P v B U H [] R (Gw.refl _ _ _) New.nil (h _)
theorem pI{i:Int}:PJ Y (KR Y .F) E M (tC (.int i)) (aP (.int i)):=Wz λ_=>by rw[Dn]
theorem pB{b:Bool}:PJ Y (KR Y .F) E M (tC (.bl b)) (aP (.bl b)):=Wz λ_=>by rw[Dn]
theorem pN:PJ Y (KR Y .F) E M (tC .non) (aP .non):=Wz λ_=>by rw[Dn]
theorem pT{n:String}:PJ Y (KR Y .F) E M (tC (.ty n)) (aP (.ty n)):=Wz λ_=>by rw[Dn]
end
def iF(neg:Bool)(x y:D):Res D:=if oY y=true then .ok (.bl (neg.xor (oY x))) else .bad
def cP(m:T0->Res D):T0->Res Bool:=λT=>(m T).bind wP
def wJ(a b:T0->Res Bool):T0->Res Bool:=λT=>(a T).bind λc=>if c=true then b T else .ok false
def vv(a b:T0->Res Bool):T0->Res Bool:=λT=>(a T).bind λc=>if c=true then .ok true else b T
def kj(a:T0->Res Bool):T0->Res Bool:=λT=>(a T).bind λc=>.ok (!c)
section
variable{Y:Cm}{E:XK}{M:List Md}
def S2(Y:Cm)(r:R2)(f:D->D->Res D):Prop:=∀H x y v u,Dn Y H x v->Dn Y H y u->match f x y with
 |.ok d=>∃w,(∀G,Dn Y G d w)/\∀Q:VK,Q w H->r v u H Q
 |.exc _=>False
 |.bad=>True
def S1(Y:Cm)(r:V->Hp->VK->Prop)(f:D->Res D):Prop:=∀H x v,Dn Y H x v->match f x with
 |.ok d=>∃w,(∀G,Dn Y G d w)/\∀Q:VK,Q w H->r v H Q
 |.exc _=>False
 |.bad=>True
section
variable{r:R2}{r1:V->Hp->VK->Prop}{rb:List V->Hp->VK->Prop}{f:D->D->Res D}{f1:D->Res D}{ta tb:TE}{ma mb:T0->Res D}
theorem aC(h:S2 Y r f)(j:PJ Y (KR Y .X) E M ta ma)(i:PJ Y (KR Y .X) E M tb mb):PJ Y (KR Y .F) E M (Lp r ta tb) (bn f ma mb):=by
 intro B U As Z H T Q R P;refine j.bnd R P λx v I L H1 O _ o z t J W=>i.bnd o W λy u p n b A _ R2 l s m a=>?_;have q:=h b x y v u (Dn.mono l.h J) m;cases e:f x y with
 |ok d=>
   rw[e]at q a;obtain⟨w,g,k⟩:=q;exact k Q (a w p n b [] R2 (Gw.refl _ _ _) New.nil (g _))
 |exc c=>rw[e]at q;exact q.elim
 |bad=>rw[e]at a;exact a.elim
theorem vq(h:S1 Y r1 f1)(b:PJ Y (KR Y .X) E M ta ma):PJ Y (KR Y .F) E M (tUn r1 ta) (un f1 ma):=by
 intro B U As Z H T Q R P;refine b.bnd R P λx v I L H1 O _ f i g J W=>?_;have q:=h H1 x v J;cases e:f1 x with
 |ok d=>
   rw[e]at q W;obtain⟨w,a,k⟩:=q;exact k Q (W w I L H1 [] f (Gw.refl _ _ _) New.nil (a _))
 |exc c=>rw[e]at q;exact q.elim
 |bad=>rw[e]at W;exact W.elim
theorem dm(h:S1 Y (λv H Q=>rb [v] H Q) f1)(a:PJ Y (KR Y .X) E M ta ma):PJ Y (KR Y .F) E M (Lq rb (b6 ta dW)) (un f1 ma):=vq h a
theorem oO(h:S2 Y (λv u H Q=>rb [v,u] H Q) f)(b:PJ Y (KR Y .X) E M ta ma)(a:PJ Y (KR Y .X) E M tb mb):PJ Y (KR Y .F) E M (Lq rb (b6 ta (b6 tb dW))) (bn f ma mb):=aC h b a
end
theorem S2.imp{r a:R2}{f:D->D->Res D}(h:S2 Y r f)(k:∀x y H Q,r x y H Q->a x y H Q):S2 Y a f:=by
 intro H x y v u g b;have q:=h H x y v u g b;cases e:f x y with
 |ok d=>
   rw[e]at q;obtain⟨w,i,q⟩:=q;exact⟨w,i,λQ z=>k _ _ _ _ (q Q z)⟩
 |exc c=>rw[e]at q;exact q
 |bad=>trivial
theorem Ww{g:Int->Int->Int}:S2 Y (CB λi j=>.int (g i j)) (iI g):=by
 intro H x y v u b a;cases x with
 |int i=>
   cases y with
   |int j=>
     rw[Dn]at b;rw[Dn]at a;subst b a;exact⟨.int (g i j),λ_=>by rw[Dn],λQ q=>⟨i,j,rfl,rfl,q⟩⟩
   |_=>trivial
 |_=>trivial
theorem WT{g:Int->Int->Bool}:S2 Y (CB λi j=>.bl (g i j)) (iB g):=by
 intro H x y v u b a;cases x with
 |int i=>
   cases y with
   |int j=>
     rw[Dn]at b;rw[Dn]at a;subst b a;exact⟨.bl (g i j),λ_=>by rw[Dn],λQ q=>⟨i,j,rfl,rfl,q⟩⟩
   |_=>trivial
 |_=>trivial
theorem Wv{C:Int->Int->Prop}{c:Int->Int->Bool}{g:Int->Int->Int}(d:∀i j,c i j=true->C i j):S2 Y (rI C λi j=>.int (g i j)) (iC c g):=by
 intro H x y v u b a;cases x with
 |int i=>
   cases y with
   |int j=>
     rw[Dn]at b;rw[Dn]at a;subst b a;unfold iC;dsimp only;by_cases z:c i j=true
     ·rw[Xl z];exact⟨.int (g i j),λ_=>by rw[Dn],λQ q=>⟨i,j,rfl,rfl,d i j z,q⟩⟩
     ·rw[Xj z];trivial
   |_=>trivial
 |_=>trivial
theorem ge:S2 Y (CB λi j=>.int (i+j)) jg:=Ww
theorem qk:S2 Y (CB λi j=>.int (i-j)) sX:=Ww
theorem z6:S2 Y (CB λi j=>.bl (decide (i<j))) Jd:=WT
theorem u5:S2 Y (CB λi j=>.bl (decide (j<i))) E2:=WT
theorem WR:S2 Y (CB λi j=>.bl (decide (j<=i))) WH:=WT
theorem tS:S2 Y (rI CMul λi j=>.int (i*j)) tq:=Wv λ_ _ h=>by simpa [CMul] using h
theorem gu:S2 Y (rI SW λi j=>.int (i / j)) gE:=Wv λ_ _ h=>by simpa [SW] using h
theorem cX:S2 Y (rI (λ_ j=>0<j) λi j=>.int (i%j)) d5:=Wv λ_ _ h=>Yy h
theorem TF:S2 Y (rI (λ_ j=>0<=j) λi j=>.int (i / 2 ^ j.toNat)) FU:=Wv λ_ _ h=>Yy h
theorem TH:S2 Y (λv u H Q=>∃i j,[v,u]=[.int i,.int j]/\Q (.int (if j<i then j else i)) H) My:=(Ww (g:=λi j=>if j<i then j else i)).imp λx y H Q ⟨i,j,c,b,a⟩=>⟨i,j,by rw[c,b],a⟩
theorem TK:S2 Y (λv u H Q=>∃i j,[v,u]=[.int i,.int j]/\Q (.int (if j>i then j else i)) H) MA:=(Ww (g:=λi j=>if j>i then j else i)).imp λx y H Q ⟨i,j,c,b,a⟩=>⟨i,j,by rw[c,b],a⟩
theorem oK:S1 Y (rU λi=>.int (-i)) tm:=by
 intro H x v a;cases x with
 |int i=>
   rw[Dn]at a;subst a;exact⟨.int (-i),λ_=>by rw[Dn],λQ q=>⟨i,rfl,q⟩⟩
 |_=>trivial
theorem NS(neg:Bool):S2 Y (λx y H Q=>Pg x y=true/\Q (.bl (neg.xor (decide (x=y)))) H) (sV neg):=by
 intro H x y v u b a;cases x with
 |int i=>
   cases y with
   |int j=>
     rw[Dn]at b;rw[Dn]at a;subst b a;exact⟨_,λ_=>by rw[Dn],λQ q=>⟨rfl,by simpa using q⟩⟩
   |non=>
     rw[Dn]at b;rw[Dn]at a;subst b a;exact⟨_,λ_=>by rw[Dn],λQ q=>⟨rfl,by simpa using q⟩⟩
   |_=>trivial
 |str i=>
   cases y with
   |str j=>
     rw[Dn]at b;rw[Dn]at a;subst b a;exact⟨_,λ_=>by rw[Dn],λQ q=>⟨rfl,by simpa using q⟩⟩
   |_=>trivial
 |bl i=>
   cases y with
   |bl j=>
     rw[Dn]at b;rw[Dn]at a;subst b a;exact⟨_,λ_=>by rw[Dn],λQ q=>⟨rfl,by simpa using q⟩⟩
   |_=>trivial
 |non=>
   cases y with
   |int j=>
     rw[Dn]at b;rw[Dn]at a;subst b a;exact⟨_,λ_=>by rw[Dn],λQ q=>⟨rfl,by simpa using q⟩⟩
   |non=>
     rw[Dn]at b;rw[Dn]at a;subst b a;exact⟨_,λ_=>by rw[Dn],λQ q=>⟨rfl,by simpa using q⟩⟩
   |_=>trivial
 |_=>cases y<;>trivial
theorem u7:S2 Y rEq (sV false):=(NS false).imp λx y H Q h=>⟨h.1,by simpa using h.2⟩
theorem u4:S2 Y rNe (sV true):=(NS true).imp λx y H Q h=>⟨h.1,by simpa using h.2⟩
theorem Dn.non{G:Hp}{d:D}{v:V}(h:Dn Y G d v):decide (v=.non)=oY d:=by
 cases d with
 |non=>rw[Dn]at h;subst h;rfl
 |bl _=>rw[Dn]at h;subst h;rfl
 |int _=>rw[Dn]at h;subst h;rfl
 |str _=>rw[Dn]at h;subst h;rfl
 |ty _=>rw[Dn]at h;subst h;rfl
 |lst _=>rw[Dn]at h;obtain⟨a,xs,e,_⟩:=h;subst e;rfl
 |scr _=>rw[Dn]at h;obtain⟨a,xs,e,_⟩:=h;subst e;rfl
 |tup _=>rw[Dn]at h;obtain⟨a,xs,e,_⟩:=h;subst e;rfl
 |dK _ _=>rw[Dn]at h;obtain⟨a,xs,e,_⟩:=h;subst e;rfl
 |dT _ _=>rw[Dn]at h;obtain⟨a,xs,e,_⟩:=h;subst e;rfl
 |obj _ _ _=>rw[Dn]at h;obtain⟨a,dx,xs,e,_⟩:=h;subst e;rfl
theorem nZ:S2 Y (λx y H Q=>y=.non/\Q (.bl (decide (x=.non))) H) (iF false):=by
 intro H x y v u b a;unfold iF;by_cases e:oY y=true
 · rw[Xl e]
   have:decide (u=.non)=true:=by rw[Dn.non a];exact e
   refine⟨_,λ_=>by rw[Dn],λQ q=>⟨Yy this,?_⟩⟩;rw[Dn.non b];simpa using q
 ·rw[Xj e];trivial
theorem F9:S2 Y (λx y H Q=>y=.non/\Q (.bl (!decide (x=.non))) H) (iF true):=by
 intro H x y v u b a;unfold iF;by_cases e:oY y=true
 · rw[Xl e]
   have:decide (u=.non)=true:=by rw[Dn.non a];exact e
   refine⟨_,λ_=>by rw[Dn],λQ q=>⟨Yy this,?_⟩⟩;rw[Dn.non b];simpa using q
 ·rw[Xj e];trivial
theorem du:S1 Y (λv H Q=>∃p e,[v]=[.ref p]/\(SqL Y.K H p e\/SqT Y.K H p e)/\Q (.int e.length) H) fE:=by
 intro H x v b;cases x with
 |lst ds=>
   rw[Dn]at b;obtain⟨a,xs,rfl,d,c⟩:=b;exact⟨.int ds.length,λ_=>by rw[Dn],λQ q=>⟨a,xs,rfl,.inl (SqL.of d),by rw[<-c.len];exact q⟩⟩
 |scr ds=>
   rw[Dn]at b;obtain⟨a,xs,rfl,d,c⟩:=b;exact⟨.int ds.length,λ_=>by rw[Dn],λQ q=>⟨a,xs,rfl,.inl d.sq,by rw[<-c.len];exact q⟩⟩
 |tup ds=>
   rw[Dn]at b;obtain⟨a,xs,rfl,d,c⟩:=b;exact⟨.int ds.length,λ_=>by rw[Dn],λQ q=>⟨a,xs,rfl,.inr (SqT.of d),by rw[<-c.len];exact q⟩⟩
 |_=>trivial
theorem Hj{a:TE}{c:T0->Res D}(d:PJ Y (KR Y .X) E M a c):PJ Y (KR Y .F) E M (NH a) (un HI c):=by
 intro B U As Z H T Q R P;refine d.bnd R P λx v I L H1 O _ e g f J W=>?_;cases x with
 |bl b=>
   have J:Dn Y H1 (.bl b) v:=J;rw[Dn]at J;exact⟨b,J,W _ I L H1 [] e (Gw.refl _ _ _) New.nil (show Dn Y _ (.bl (!b)) _ by rw[Dn])⟩
 |_=>exact W.elim
theorem NX{t:TE}{m:T0->Res D}(h:PJ Y (KR Y .X) E M t m):PJ Y KB E M (λZ H Q=>t Z H λx H1=>∃c,x=.bl c/\Q c H1) (cP m):=by
 intro B U As Z H T Q R P;refine h.bnd R P λx v I L H1 O _ a e d J W=>?_;cases x with
 |bl b=>
   have J:Dn Y H1 (.bl b) v:=J;rw[Dn]at J;exact⟨b,J,W _ I L H1 [] a (Gw.refl _ _ _) New.nil rfl⟩
 |_=>exact W.elim
theorem lv{t:TE}{m:T0->Res D}(h:PJ Y (KR Y .X) E M t m):PJ Y KB E M (tB t) (cP m):=NX h
theorem bU{t:TE}{m:T0->Res D}(h:PJ Y (KR Y .X) E M t m):PJ Y KB E M (FF t) (cP m):=NX h
theorem lV{t u:TT}{m n:T0->Res Bool}(h:PJ Y KB E M t m)(k:PJ Y KB E M u n):PJ Y KB E M (Tg t u) (wJ m n):=by
 intro B U As Z H T Q R P;refine h.bnd R P λx v I L H1 O _ a c b J W=>?_;cases J;cases x with
 |true=>exact k I L As Z H1 T Q a W
 |false=>exact W _ I L H1 [] a (Gw.refl _ _ _) New.nil rfl
theorem iV{t u:TT}{m n:T0->Res Bool}(h:PJ Y KB E M t m)(k:PJ Y KB E M u n):PJ Y KB E M (tOr t u) (vv m n):=by
 intro B U As Z H T Q R P;refine h.bnd R P λx v I L H1 O _ a c b J W=>?_;cases J;cases x with
 |false=>exact k I L As Z H1 T Q a W
 |true=>exact W _ I L H1 [] a (Gw.refl _ _ _) New.nil rfl
theorem eF{t:TT}{m:T0->Res Bool}(h:PJ Y KB E M t m):PJ Y KB E M (O7 t) (kj m):=by
 intro B U As Z H T Q R P;refine h.bnd R P λx v I L H1 O _ a c b J W=>?_;cases J;exact W _ I L H1 [] a (Gw.refl _ _ _) New.nil rfl
theorem TZ{k:Kd}{f tb:TE}{a d:T0->Res D}(i:PJ Y (KR Y .X) E M f a)(h:PJ Y (KR Y k) E M tb d):PJ Y (KR Y k) E M (NM f tb) (Nl a d):=by
 intro B U As Z H T Q R P;unfold Nl at P
 have j:Po Y (KR Y k) E M B U As Z H T ((a T).bind λx=>(wP x).bind λc=>if c=true then d T else .ok (.bl false)) Q:=by
  cases e:a T<;>(rw[e]at P;exact P)
 refine i.bnd R j λx v I L H1 O _ g m l J W=>?_;cases x with
 |bl b=>
   have J:Dn Y H1 (.bl b) v:=J;rw[Dn]at J;refine⟨b,J,?_⟩;cases b with
   |true=>exact h I L As Z H1 T Q g W
   |false=>exact W _ I L H1 [] g (Gw.refl _ _ _) New.nil (show Dn Y _ (.bl false) _ by rw[Dn])
 |_=>exact W.elim
theorem WU{k:Kd}{f tb:TE}{a d:T0->Res D}(i:PJ Y (KR Y .X) E M f a)(h:PJ Y (KR Y k) E M tb d):PJ Y (KR Y k) E M (Td f tb) (WA a d):=by
 intro B U As Z H T Q R P;unfold WA at P
 have j:Po Y (KR Y k) E M B U As Z H T ((a T).bind λx=>(wP x).bind λc=>if c=true then .ok (.bl true) else d T) Q:=by
  cases e:a T<;>(rw[e]at P;exact P)
 refine i.bnd R j λx v I L H1 O _ g m l J W=>?_;cases x with
 |bl b=>
   have J:Dn Y H1 (.bl b) v:=J;rw[Dn]at J;refine⟨b,J,?_⟩;cases b with
   |false=>exact h I L As Z H1 T Q g W
   |true=>exact W _ I L H1 [] g (Gw.refl _ _ _) New.nil (show Dn Y _ (.bl true) _ by rw[Dn])
 |_=>exact W.elim
theorem Ho{K:KT D V}{t:TT}{a tb:TE}{m:T0->Res Bool}{c b:T0->Res D}(h:PJ Y KB E M t m)(f:PJ Y K E M a c)(e:PJ Y K E M tb b):PJ Y K E M (tIf t a tb) (JH m c b):=by
 intro B U As Z H T Q R P;refine h.bnd R P λx v I L H1 O _ d i g J W=>?_;cases J;cases x with
 |true=>exact f I L As Z H1 T Q d W
 |false=>exact e I L As Z H1 T Q d W
end
section
variable{Y:Cm}{E:XK}{M:List Md}{K:L0}
theorem d6{n:Nat}(h:n<=am):n<sizeLine:=by
 have:=sizeLine_eq
 unfold am at h;omega
theorem DZ{G:Hp}{ds:List D}{xs:List V}{i:Int}{d:D}(h:Dns Y G ds xs)(e:nJ ds i=some d):∃v,nJ xs i=some v/\Dn Y G d v:=by
 unfold nJ at e ⊢;rw[<-h.len];cases q:JG ds.length i with
 |none=>rw[q]at e;cases e
 |some j=>
   rw[q]at e;exact h.get e
theorem cu{k:Kd}{p tb:TE}{t s:T0->Res D}(C:PJ Y (KC Y k) E M p t)(A:PJ Y (KR Y .X) E M tb s):PJ Y (KR Y k) E M (Lp (Mh Y.K) p tb) (bn i5 t s):=by
 intro B U As Z H T Q R P;refine C.bnd R P λx v I L H1 O _ G V S J W=>A.bnd G W λy u o n j N2 _ R2 z N b g=>?_;have c:=Cn.mono (jv z) z.h J;have b:Dn Y j y u:=b
 have f:∀(ds:List D) (i:Int),Po Y (KR Y k) E M o n As Z j T (Ng ds i) Q->∀xs,Dns Y (hp k o n j) ds xs->∃w,nJ xs i=some w/\Q w j:=λds i P3 xs h=>by
  unfold Ng at P3;cases q:nJ ds i with
  |none=>rw[q]at P3;exact P3.elim
  |some d=>
    rw[q]at P3;obtain⟨w,e,F⟩:=DZ h q;exact⟨w,e,P3 w o n j [] R2 (Gw.refl _ _ _) New.nil F⟩
 cases x with
 |lst ds=>
   cases y with
   |int i=>
     rw[Dn]at b;obtain⟨a,xs,r,m,l⟩:=c;obtain⟨w,e,q⟩:=f ds i g xs l;exact⟨a,xs,i,w,r,b,SqL.of m,e,q⟩
   |_=>exact g.elim
 |scr ds=>
   cases y with
   |int i=>
     rw[Dn]at b;obtain⟨a,xs,r,m,l⟩:=c;obtain⟨w,e,q⟩:=f ds i g xs l;exact⟨a,xs,i,w,r,b,m.sq,e,q⟩
   |_=>exact g.elim
 |_=>cases y<;>exact g.elim
theorem Hn{k:Kd}{g tb:TE}{l j:T0->Res D}(t:PJ Y (KC Y k) E M g l)(s:PJ Y (KR Y .X) E M tb j):PJ Y (KR Y k) E M (Lp (PX K) g tb) (bn SZ l j):=by
 intro B U As Z H T Q R P;refine t.bnd R P λx v I L H1 O _ F S N J W=>s.bnd F W λy u o n f V _ R2 m G b e=>?_;have c:=Cn.mono (jv m) m.h J;have b:Dn Y f y u:=b;cases x with
 |tup ds=>
   cases y with
   |int i=>
     rw[Dn]at b;obtain⟨a,xs,r,A,z⟩:=c;have P3:Po Y (KR Y k) E M o n As Z f T (Ng ds i) Q:=e;unfold Ng at P3;cases q:nJ ds i with
     |none=>rw[q]at P3;exact P3.elim
     |some d=>
       rw[q]at P3;obtain⟨w,p,C⟩:=DZ z q;exact⟨a,xs,i,w,r,b,SqT.of A,p,P3 w o n f [] R2 (Gw.refl _ _ _) New.nil C⟩
   |_=>exact e.elim
 |_=>cases y<;>exact e.elim
theorem a6{k:Kd}:PJ Y (KL Y k) E M dW bq:=λB U As Z H T Q R P=>P [] B U H [] R (Gw.refl _ _ _) New.nil (show Dns Y _ [] [] by rw[Dns])
theorem ar{k:Kd}{b:TE}{a:TA}{d:T0->Res D}{c:T0->Res (List D)}(f:PJ Y (KR Y k) E M b d)(e:PJ Y (KL Y k) E M a c):PJ Y (KL Y k) E M (b6 b a) (aA d c):=by
 intro B U As Z H T Q R P;refine f.bnd R P λx v I L H1 O _ j q p J W=>e.bnd j W λy u n i m r _ R2 g o h l=>?_;refine l (v::u) n i m [] R2 (Gw.refl _ _ _) New.nil ?_;show Dns Y _ (x::y) (v::u);rw[Dns];exact⟨v,u,rfl,Dn.mono (jv g) J,h⟩
variable{B U H:Hp}{As:Nat->List Addr}{Z:St}{T:T0}
theorem Gw.newO(R:Rel Y M B U As Z H T){p:Addr}{o:HO}(h:H p=none):Gw B U H B U (upd H p o):=⟨Ex.refl _ _,Gd.ci h,λ_ _ q=>.inl q⟩
theorem Gw.newB(R:Rel Y M B U As Z H T){p:Addr}{o:HO}(h:H p=none):Gw B U H (upd B p o) (upd U p o) (upd H p o):=⟨Ex.newB R h,Gd.ci h,λa u q=>by
 by_cases z:a=p
 ·subst z;exact .inr (.inl h)
 ·rw[a7 z]at q;exact .inl q⟩
theorem Gw.newU(R:Rel Y M B U As Z H T){p:Addr}{o:HO}(h:H p=none):Gw B U H B (upd U p o) (upd H p o):=⟨Ex.newU R h,Gd.ci h,λa u q=>by
 by_cases z:a=p
 ·subst z;exact .inr (.inl h)
 ·rw[a7 z]at q;exact .inl q⟩
theorem New.one(R:Rel Y M B U As Z H T){p:Addr}(h:H p=none):New [p] H U As:=⟨by simp,λa b=>by rw[Xz.mp b];exact h,λa b=>by rw[Xz.mp b];exact R.uh.free h⟩
theorem i0(R:Rel Y M B U As Z H T){ds:List D}{xs:List V}{Q:VK}(P:Po Y (KO Y (.ct .fz)) E M B U As Z H T (.ok (.lst ds)) Q)(h:Dns Y B ds xs){p:Addr}(hp:H p=none):Q (.ref p) (upd H p (.lst xs)):=
 P (.ref p) B U _ [p] (R.new hp) (Gw.newO R hp) (New.one R hp) (by
  show Ow Y B _ (.lst ds) (.ct .fz) (.ref p) [p];rw[Ow]
  exact⟨p,xs,[],rfl,bj,rfl,Ows.of h⟩)
theorem xI(R:Rel Y M B U As Z H T){ds:List D}{xs:List V}{Q:VK}(P:Po Y (KR Y .U) E M B U As Z H T (.ok (.lst ds)) Q)(h:Dns Y U ds xs){p:Addr}(hp:H p=none):Q (.ref p) (upd H p (.lst xs)):=
 P (.ref p) B _ _ [] (R.newU hp) (Gw.newU R hp) New.nil (by
  show Dn Y (upd U p (.lst xs)) (.lst ds) (.ref p);rw[Dn]
  exact⟨p,xs,rfl,bj,h.mono (Gd.ci (R.uh.free hp))⟩)
theorem xH(R:Rel Y M B U As Z H T){ds:List D}{xs:List V}{Q:VK}(P:Po Y (KR Y .F) E M B U As Z H T (.ok (.tup ds)) Q)(h:Dns Y B ds xs){p:Addr}(hp:H p=none):Q (.ref p) (upd H p (.tup xs)):=
 P (.ref p) _ _ _ [] (R.newB hp) (Gw.newB R hp) New.nil (by
  show Dn Y (upd B p (.tup xs)) (.tup ds) (.ref p);rw[Dn]
  exact⟨p,xs,rfl,bj,h.mono (Gd.ci (R.bh.free hp))⟩)
section
variable{t:TA}{m:T0->Res (List D)}
theorem cY(h:PJ Y (KL Y .F) E M t m):PJ Y (KO Y (.ct .fz)) E M (LA t) (km m):=by
 intro B U As Z H T Q R P;refine h.bnd R P λds xs I L H1 O _ a c b J W=>?_;by_cases z:ds.length<=am
 ·rw[Xl z]at W;have J:Dns Y I ds xs:=J;exact⟨X4 (d6 (by rw[<-J.len];exact z)),λp hp=>i0 a W J hp⟩
 ·rw[Xj z]at W;exact W.elim
theorem dI(h:PJ Y (KL Y .F) E M t m):PJ Y (KR Y .F) E M (Tc t) (oT m):=by
 intro B U As Z H T Q R P;refine h.bnd R P λds xs I L H1 O _ a c b J W=>?_;by_cases z:ds.length<=am
 ·rw[Xl z]at W;have J:Dns Y I ds xs:=J;exact⟨X4 (d6 (by rw[<-J.len];exact z)),λp hp=>xH a W J hp⟩
 ·rw[Xj z]at W;exact W.elim
end
theorem tW:PJ Y (KO Y (.ct .fz)) E M FK (aP (.dT [] [])):=by
 intro B U As Z H T Q R P p hp;refine P (.ref p) B U _ [p] (R.new hp) (Gw.newO R hp) (New.one R hp) ?_;show Ow Y B _ (.dT [] []) (.ct .fz) (.ref p) [p];rw[Ow];exact⟨p,[],[],rfl,bj,rfl,rfl,Ows.of (by rw[Ym,Dns])⟩
theorem SB{G:Hp}{x y:D}{v u:V}(l:Cn Y G H x v)(k:Cn Y G H y u){C:Res D->Prop}(f:C .bad->False)(P:C (sE x y)){Q:VK}
 (h:∀ds c xs d,Dns Y G (ds++c) (xs++d)->C (.ok (.lst (ds++c)))->∀p,H p=none->Q (.ref p) (upd H p (.lst (xs++d)))):PY v u H Q:=by
 cases x with
 |lst ds=>
   cases y with
   |lst c=>
     obtain⟨a,xs,r,n,i⟩:=l;obtain⟨b,d,j,m,g⟩:=k;have e:C (if ds.length+c.length<=am then .ok (.lst (ds++c)) else .bad):=P;by_cases z:ds.length+c.length<=am
     ·rw[Xl z]at e;exact⟨a,b,xs,d,r,j,n,m,X4 (d6 (by rw[<-i.len,<-g.len];exact z)),h ds c xs d (i.append g) e⟩
     ·rw[Xj z]at e;exact(f e).elim
   |_=>exact(f P).elim
 |_=>cases y<;>exact(f P).elim
theorem oP{a tb:TE}{d c:T0->Res D}(i:PJ Y (KC Y .F) E M a d)(g:PJ Y (KC Y .F) E M tb c):PJ Y (KO Y (.ct .fz)) E M (Lp PY a tb) (bn sE d c):=by
 intro B U As Z H T Q R P;refine i.bnd R P λx v I L H1 O _ l w s J W=>g.bnd l W λy u f k n z _ R2 e q j m=>?_;exact SB (G:=f) (Cn.mono e.b e.h J) j (C:=λr=>Po Y (KO Y (.ct .fz)) E M f k As Z n T r Q) (λh=>h) m λds t xs o h P3 p hp=>i0 R2 P3 h hp
theorem EM{G:Hp}{x:D}{v:V}(e:Cn Y G H x v){C:Res D->Prop}(f:C .bad->False)(P:C (vB x)){Q:VK}
 (h:∀ds xs,Dns Y G ds xs->C (.ok (.lst ds))->∀p,H p=none->Q (.ref p) (upd H p (.lst xs))):∃p d,[v]=[.ref p]/\(SqL Y.K H p d\/SqT Y.K H p d)/\∀l,H l=none->Q (.ref l) (upd H l (.lst d)):=by
 cases x with
 |lst ds=>
   obtain⟨a,xs,r,c,b⟩:=e;exact⟨a,xs,by rw[r],.inl (SqL.of c),h ds xs b P⟩
 |scr ds=>
   obtain⟨a,xs,r,c,b⟩:=e;exact⟨a,xs,by rw[r],.inl c.sq,h ds xs b P⟩
 |tup ds=>
   obtain⟨a,xs,r,c,b⟩:=e;exact⟨a,xs,by rw[r],.inr (SqT.of c),h ds xs b P⟩
 |_=>exact(f P).elim
theorem Qf{b:TE}{c:T0->Res D}(d:PJ Y (KC Y .F) E M b c):
 PJ Y (KO Y (.ct .fz)) E M (Lq (λxs H Q=>∃p a,xs=[.ref p]/\(SqL Y.K H p a\/SqT Y.K H p a)/\∀l,H l=none->Q (.ref l) (upd H l (.lst a))) (b6 b dW)) (un vB c):=by
 intro B U As Z H T Q R P;refine d.bnd R P λx v I L H1 O _ e g f J W=>?_;exact EM (G:=I) J (C:=λr=>Po Y (KO Y (.ct .fz)) E M I L As Z H1 T r Q) (λh=>h) W λds xs h P3 p hp=>i0 e P3 h hp
def zT:D->Res D | .lst xs=>.ok (.tup xs)|_=>.bad
theorem m6{c:TE}{d:T0->Res D}(e:PJ Y (KC Y .F) E M c d):
 PJ Y (KR Y .F) E M (Lq (λxs H Q=>∃p b,xs=[.ref p]/\((SqL K H p b/\∀l,H l=none->Q (.ref l) (upd H l (.tup b)))\/(SqT K H p b/\Q (.ref p) H))) (b6 c dW)) (un zT d):=by
 intro B U As Z H T Q R P;refine e.bnd R P λx v I L H1 O _ h j i J W=>?_;cases x with
 |lst ds=>
   obtain⟨a,xs,r,g,f⟩:=J;exact⟨a,xs,by rw[r],.inl ⟨SqL.of g,λp hp=>xH h W f hp⟩⟩
 |_=>exact W.elim
theorem lZ{G:Hp}:∀{ds:List D} {xs:List V} {k:List c9},gx ds=some k->Dns Y G ds xs->xs=k.map kV
 |[],_,_,e,h=>by rw[Dns]at h;cases e;rw[h];rfl
 | d::ds,_,k,e,h=>by
   rw[Dns]at h;obtain⟨x,r,rfl,a,c⟩:=h;unfold gx at e;cases q:bR d with
   |none=>rw[q]at e;cases e
   |some k0=>
     cases b:gx ds with
     |none=>rw[q,b]at e;cases e
     |some f=>
       rw[q,b]at e;cases e;rw[lZ b c,Xm];congr 1;cases d with
       |int i=>cases q;rw[Dn]at a;exact a
       |str x=>cases q;rw[Dn]at a;exact a
       |_=>cases q
theorem xX{G:Hp}{d:D}{v:V}{k:c9}(e:bR d=some k)(h:Dn Y G d v):v=kV k:=by
 cases d with
 |int i=>cases e;rw[Dn]at h;exact h
 |str x=>cases e;rw[Dn]at h;exact h
 |_=>cases e
def OI(Y:Cm)(G:Hp):Option D->Option V->Prop
 |some d,r=>∃v,r=some v/\Dn Y G d v
 |none,r=>r=none
section
variable{X:Type}[DecidableEq X]
theorem qJ{G:Hp}:∀{a:List (X×V)} {ds:List D} (j:X),Dns Y G ds (a.map (·.2))->OI Y G (dP (a.map (·.1)) ds j) (lR a j)
 | [],ds,j,h=>by
   cases ds with
   |nil=>exact Fy
   |cons d ds=>rw[Dns]at h;obtain⟨x,r,e,_⟩:=h;cases e
 | p::a,ds,j,h=>by
   cases ds with
   |nil=>rw[Dns]at h;cases h
   |cons d ds=>
     rw[List.map_cons,Dns]at h;obtain⟨x,r,e,c,b⟩:=h;cases e;rw[List.map_cons];unfold dP;by_cases q:p.1=j
     ·rw[Xl q];exact⟨p.2,mQ q,c⟩
     ·rw[Xj q,mR q];exact qJ j b
end
theorem pV{G:Hp}{d k:D}{v u:V}{o:Option D}(hd:Cn Y G H d v)(i:Dn Y H k u)(e:ni d k=some o):∃a r,v=.ref a/\Wt H a/\DGet H a u r/\OI Y G o r:=by
 cases d with
 |dT h vs=>
   obtain⟨a,c,rfl,g,m,j⟩:=hd;cases k with
   |tup q=>
     have e:(gx q).map (λk=>dP h vs k)=some o:=e;obtain⟨f,p,n⟩:=XR.mp e;rw[Dn]at i;obtain⟨b,xs,rfl,t,s⟩:=i;have ex:=lZ p s;subst ex;refine⟨a,lR c f,rfl,.inr ⟨c,g⟩,.inr ⟨c,_,_,g,rfl,t,rfl⟩,?_⟩;have l:=qJ (X:=List c9) f j;rw[m,n]at l;exact l
   |_=>cases e
 |dK h vs=>
   obtain⟨a,c,rfl,g,m,j⟩:=hd;have e:(bR k).map (λk=>dP h vs k)=some o:=by cases k<;>exact e
   obtain⟨f,p,n⟩:=XR.mp e;have ex:=xX p i;subst ex;refine⟨a,lR c f,rfl,.inl ⟨c,.inl g⟩,DGet.k g,?_⟩;have l:=qJ (X:=c9) f j;rw[m,n]at l;exact l
 |_=>cases k<;>cases e
theorem Af{k:Kd}{e c:TE}{f mk:T0->Res D}(hd:PJ Y (KC Y k) E M e f)(j:PJ Y (KR Y .X) E M c mk):PJ Y (KR Y k) E M (NI e c) (bn o0 f mk):=by
 intro B U As Z H T Q R P;refine hd.bnd R P λx v I L H1 O _ t G F J W=>j.bnd t W λy u A s z K _ R2 i C p b=>?_;unfold o0 at b;cases q:ni x y with
 |none=>rw[q]at b;exact b.elim
 |some o=>
   obtain⟨a,r,m,_,g,l⟩:=pV (Cn.mono (jv i) i.h J) p q;cases o with
   |none=>rw[q]at b;exact b.elim
   |some d=>
     rw[q]at b;obtain⟨w,rfl,n⟩:=l;exact⟨a,w,m,g,b w A s z [] R2 (Gw.refl _ _ _) New.nil n⟩
theorem CL{k:Kd}{e c:TE}{f mk:T0->Res D}(i:PJ Y (KR Y .X) E M c mk)(hd:PJ Y (KC Y k) E M e f):PJ Y (KR Y .F) E M (Te c e) (bn (vM false) mk f):=by
 intro B U As Z H T Q R P;refine i.bnd R P λy u I L H1 O _ s G C J W=>hd.bnd s W λx v z p t K _ R2 m A n b=>?_;unfold vM at b;cases q:ni x y with
 |none=>rw[q]at b;exact b.elim
 |some o=>
   rw[q]at b;obtain⟨a,r,j,_,g,l⟩:=pV n (Dn.mono m.h J) q;refine⟨a,r,j,g,b _ z p t [] R2 (Gw.refl _ _ _) New.nil ?_⟩;show Dn Y _ (.bl (false.xor o.isSome)) _;rw[Dn];cases o with
   |none=>rw[show r=none from l];rfl
   |some d=>obtain⟨w,rfl,_⟩:=l;rfl
def x8:D->Bool | .dT _ _=>true | .dK _ _=>true|_=>false
theorem Cn.dic{G:Hp}{d:D}{v:V}(h:Cn Y G H d v)(e:x8 d=true):∃a,v=.ref a/\Wt H a:=by
 cases d with
 |dT f vs=>obtain⟨a,b,r,c,_⟩:=h;exact⟨a,r,.inr ⟨b,c⟩⟩
 |dK f vs=>obtain⟨a,b,r,c,_⟩:=h;exact⟨a,r,.inl ⟨b,.inl c⟩⟩
 |_=>cases e
def C2(b mk a:T0->Res D):T0->Res D:=λT=>(b T).bind λd=>if x8 d=true then (mk T).bind λk=>(a T).bind λx=>kE d k x else .bad
theorem CM{k:Kd}{j i f:TE}{n mk m:T0->Res D}(hd:PJ Y (KC Y k) E M j n)(S:PJ Y (KR Y .X) E M i mk)(N:PJ Y (KR Y k) E M f m):PJ Y (KR Y k) E M (FL j i f) (C2 n mk m):=by
 intro B U As Z H T Q R P;refine hd.bnd R P λx v I L H1 O _ R1 e1 n1 J W=>?_;by_cases z:x8 x=true
 · rw[if_pos z]at W;obtain⟨a,p,V⟩:=Cn.dic J z;refine⟨a,p,V,S.bnd R1 W λy u B2 U2 H2 N2 _ R2 s n2 d2 P2=>N.bnd R2 P2 λw G F t C N3 _ A e n3 d3 P3=>?_⟩;unfold kE at P3;have c:=Cn.mono (jv (s.trans e)) (s.trans e).h J;cases q:ni x y with
   |none=>rw[q]at P3;exact P3.elim
   |some o=>
     rw[q]at P3;obtain⟨a',r,b,_,g,l⟩:=pV c (Dn.mono e.h d2) q;rw[p]at b;cases b;cases o with
     |none=>
       refine⟨r,g,?_⟩;rw[show r=none from l];exact P3 G F t C [] A (Gw.refl _ _ _) New.nil d3
     |some d=>
       obtain⟨K,rfl,dw⟩:=l;exact⟨_,g,P3 K F t C [] A (Gw.refl _ _ _) New.nil dw⟩
 ·rw[Xj z]at W;exact W.elim
def JP(a mk:T0->Res D):T0->Res D:=λT=>(a T).bind λd=>if x8 d=true then (mk T).bind λk=>kE d k .non else .bad
theorem Mp{k:Kd}{f e:TE}{i mk:T0->Res D}(hd:PJ Y (KC Y k) E M f i)(w:PJ Y (KR Y .X) E M e mk):PJ Y (KR Y k) E M (FM f e) (JP i mk):=by
 intro B U As Z H T Q R P;refine hd.bnd R P λx v I L H1 O _ G S N J W=>?_;by_cases z:x8 x=true
 · rw[if_pos z]at W;obtain⟨a,j,A⟩:=Cn.dic J z;refine⟨a,j,A,w.bnd G W λy u s n p N2 _ R2 m K F P3=>?_⟩;unfold kE at P3;have c:=Cn.mono (jv m) m.h J;cases q:ni x y with
   |none=>rw[q]at P3;exact P3.elim
   |some o=>
     rw[q]at P3;obtain⟨V,r,b,_,g,l⟩:=pV c F q;rw[j]at b;cases b;cases o with
     |none=>
       refine⟨r,g,?_⟩;rw[show r=none from l];exact P3 .non s n p [] R2 (Gw.refl _ _ _) New.nil (show Dn Y _ .non .non by rw[Dn])
     |some d=>
       obtain⟨t,rfl,C⟩:=l;exact⟨_,g,P3 t s n p [] R2 (Gw.refl _ _ _) New.nil C⟩
 ·rw[Xj z]at W;exact W.elim
end
section
variable{Y:Cm}{E:XK}{M:List Md}{K:L0}{B U H:Hp}{As:Nat->List Addr}{Z:St}{T:T0}
theorem xQ{G:Hp}:∀{fs:List (Str×V)} {ds:List D} {f:Str} {d:D},Dns Y G ds (fs.map (·.2))->dP (fs.map (·.1)) ds f=some d->∃v,fs.lookup f=some v/\Dn Y G d v
 |[],ds,f,d,h,e=>by cases ds<;>cases e
 | p::fs,ds,f,d,h,e=>by
   cases ds with
   |nil=>cases e
   |cons d0 ds=>
     rw[List.map_cons,Dns]at h;obtain⟨x,r,g,c,b⟩:=h;cases g;rw[List.map_cons]at e;unfold dP at e;by_cases q:p.1=f
     ·rw[Xl q]at e;cases e;exact⟨p.2,by rw[X7,<-q,YQ],c⟩
     · rw[Xj q]at e;obtain⟨v,a,i⟩:=xQ b e
       have:(f==p.1)=false:=Yd.mpr λz=>q z.symm
       exact⟨v,by rw[X7,this];exact a,i⟩
theorem Owf.get{B H:Hp}{sh:List (Str×Sh)}:∀{fs:List (Str×V)} {ds:List D} {A:List Addr} {f:Str} {d:D},Owf Y B H ds (fs.map (·.1)) sh (fs.map (·.2)) A->dP (fs.map (·.1)) ds f=some d->
 ∃v A1,fs.lookup f=some v/\Ow Y B H d ((sh.lookup f).getD .fz) v A1/\∀a∈A1,a∈A
 |[],ds,A,f,d,h,e=>by cases ds<;>cases e
 | p::fs,ds,A,f,d,h,e=>by
   cases ds with
   |nil=>cases e
   |cons d0 ds=>
     rw[List.map_cons,List.map_cons,Owf]at h;obtain⟨n,i,x,r,A1,t,k,h0,o,c,m⟩:=h;cases k;cases h0;subst o;rw[List.map_cons]at e;unfold dP at e;by_cases q:p.1=f
     ·rw[Xl q]at e;cases e;rw[q]at c;exact⟨p.2,A1,by rw[X7,<-q,YQ],c,λa b=>XA _ b⟩
     · rw[Xj q]at e;obtain⟨v,s,j,g,l⟩:=Owf.get m e
       have:(f==p.1)=false:=Yd.mpr λz=>q z.symm
       exact⟨v,s,by rw[X7,this];exact j,g,λa b=>Xr _ (l a b)⟩
theorem C4{c:Nat}{f:Str}{x d:D}(h:ie c f x=.ok d):∃ns vs,x=.obj c ns vs/\dP ns vs f=some d:=by
 cases x with
 |obj a ns vs=>
   unfold ie at h;dsimp only at h;by_cases e:a=c
   · rw[Xl e]at h;subst e;cases q:dP ns vs f with
     |none=>rw[q]at h;cases h
     |some y=>rw[q]at h;cases h;exact⟨ns,vs,rfl,q⟩
   ·rw[Xj e]at h;cases h
 |_=>cases h
theorem yb{c:Nat}{f:Str}{x:D}{e:Nat}(h:ie c f x=.exc e):False:=by
 cases x with
 |obj a ns vs=>
   have h:(if a=c then (match dP ns vs f with|some x=>Res.ok x|none=>.bad) else .bad)=.exc e:=h;by_cases e:a=c
   ·rw[Xl e]at h;cases q:dP ns vs f<;>(rw[q]at h;cases h)
   ·rw[Xj e]at h;cases h
 |_=>cases h
theorem qy{k:Kd}{c:Nat}{f:Str}{b:TE}{g:T0->Res D}(j:Cls K (Y c))(i:NoAttr K (Y c) f)(m:PJ Y (KC Y k) E M b g):PJ Y (KR Y k) E M (Ek K b f) (un (ie c f) g):=by
 intro B U As Z H T Q R P;refine m.bnd R P λx v I L H1 O _ s u t J W=>?_;cases e:ie c f x with
 |ok d=>
   rw[e]at W;obtain⟨ns,vs,rfl,l⟩:=C4 e;obtain⟨a,dx,fs,r,p,o,n⟩:=J;subst o;obtain⟨w,h,q⟩:=xQ n l;exact⟨a,_,dx,fs,w,r,p,j,i,h,W w I L H1 [] s (Gw.refl _ _ _) New.nil q⟩
 |exc y=>exact(yb e).elim
 |bad=>rw[e]at W;exact W.elim
theorem Qg{g:KT D V}{c:Nat}{f:Str}{i:Nat}{sh:List (Str×Sh)}(p:Cls K (Y c))(m:NoAttr K (Y c) f)(n:M.getD i .F= .O (.ob sh))
 (o:∀B U H d v A,Same B U->Same U H->Ow Y B H d ((sh.lookup f).getD .fz) v A->g d v B U H []):PJ Y g E M (Ek K (dF i) f) (un (ie c f) (vr i)):=by
 intro B U As Z H T Q R P;have l:=R.lo i;rw[n]at l;unfold un vr at P;cases e:rg T i with
 |none=>rw[e]at P;exact P.elim
 |some d0=>
   rw[e]at P l;obtain⟨v,k,q⟩:=l;replace P:Po Y g E M B U As Z H T (ie c f d0) Q:=P;refine⟨v,cI k,?_⟩;cases b:ie c f d0 with
   |ok d=>
     rw[b]at P;obtain⟨ns,vs,rfl,l⟩:=C4 b;have q:Ow Y B H (.obj c ns vs) (.ob sh) v (As i):=q;rw[Ow]at q;obtain⟨a,dx,fs,z,r,u,t,x,s⟩:=q;subst t;obtain⟨w,A1,j,h,_⟩:=Owf.get s l;exact⟨a,_,dx,fs,w,r,u,p,m,j,P w B U H [] R (Gw.refl _ _ _) New.nil (o B U H d w A1 R.bu R.uh h)⟩
   |exc y=>exact(yb b).elim
   |bad=>rw[b]at P;exact P.elim
theorem Qh{c:Nat}{f:Str}{i:Nat}{sh:List (Str×Sh)}(j:Cls K (Y c))(e:NoAttr K (Y c) f)(g:M.getD i .F= .O (.ob sh))(h:(sh.lookup f).getD .fz=.ct .fz):PJ Y (KC Y .F) E M (Ek K (dF i) f) (un (ie c f) (vr i)):=
 Qg j e g λB U H d v A b u a=>by
  rw[h]at a;exact Ow.cn (b.trans u) a
def Nr(J:It)(H:Hp)(vs:List V):Prop:=∀a,Same H a->(∀i,vs.length<=i->J.stop i a)/\(∀i,i<vs.length->J.go i a)/\∀i x H',i<vs.length->J.yld i a x H'->H'=a/\vs[i]?=some x
def KI(Y:Cm)(k g:Kd):KT (List D) It:=λds J B U H _=>∃vs,Nr J (hp g B U H) vs/\Dns Y (hp k B U H) ds vs
theorem k7{a:Addr}{xs:List V}(h:H a=some (.lst xs)\/SqF K H a xs):Nr (Xg K a) H xs:=λb s=>by
 have q:SqL K b a xs:=by
  rcases h with h|h
  ·exact .inl (.inl (s _ _ h))
  ·exact(h.mono s).sq
 exact⟨λi hi=>⟨xs,q,hi⟩,λi hi=>⟨xs,xs[i],q,Xy hi⟩,λi x H' hi y=>⟨y.1,y.2 xs q⟩⟩
theorem x5(lo:Int)(n:Nat):Nr (Ws lo n) H ((List.range n).map λi:Nat=>V.int (lo+i)):=λb s=>by
 have a:((List.range n).map λi:Nat=>V.int (lo+i)).length=n:=by rw[on,List.length_range]
 refine⟨λi hi=>by rw[a]at hi;exact hi,λi hi=>by rw[a]at hi;exact hi,λi x H' hi y=>⟨y.1,?_⟩⟩;rw[a]at hi;rw[X3,Zr hi,y.2];rfl
theorem vL{G:Hp}(lo:Int):∀n:Nat,Dns Y G ((List.range n).map λi:Nat=>D.int (lo+i)) ((List.range n).map λi:Nat=>V.int (lo+i))
 |0=>by rw[List.range_zero,Ym,Ym,Dns]
 | n+1=>by
   rw[List.range_succ,XJ,XJ];exact(vL lo n).append (Dns.one (by rw[Dn]))
theorem ju{k:Kd}{d:TE}{e:T0->Res D}(g:PJ Y (KC Y k) E M d e):PJ Y (KI Y k .X) E M (uf Y.K d) (fb e):=by
 intro B U As Z H T Q R P;refine g.bnd R P λx v I L H1 O _ f i h J W=>?_;cases x with
 |lst ds=>
   obtain⟨a,xs,r,b,c⟩:=J;exact⟨a,r,⟨xs,SqL.of b⟩,W _ I L H1 [] f (Gw.refl _ _ _) New.nil ⟨xs,k7 (.inl b),c⟩⟩
 |scr ds=>
   obtain⟨a,xs,r,b,c⟩:=J;exact⟨a,r,⟨xs,b.sq⟩,W _ I L H1 [] f (Gw.refl _ _ _) New.nil ⟨xs,k7 (.inr b),c⟩⟩
 |_=>exact W.elim
theorem iq{k:Kd}{e:TE}{f:T0->Res D}(g:PJ Y (KR Y k) E M e f):PJ Y (KI Y k k) E M (uf Y.K e) (fb f):=by
 intro B U As Z H T Q R P;refine g.bnd R P λx v I L H1 O _ c i h J W=>?_;have J:Dn Y (hp k I L H1) x v:=J;cases x with
 |lst ds=>
   rw[Dn]at J;obtain⟨a,xs,r,b,d⟩:=J;exact⟨a,r,⟨xs,SqL.of (c.hp k _ _ b)⟩,W _ I L H1 [] c (Gw.refl _ _ _) New.nil ⟨xs,k7 (.inl b),d⟩⟩
 |scr ds=>
   rw[Dn]at J;obtain⟨a,xs,r,b,d⟩:=J;exact⟨a,r,⟨xs,(b.mono (c.hp k)).sq⟩,W _ I L H1 [] c (Gw.refl _ _ _) New.nil ⟨xs,k7 (.inr b),d⟩⟩
 |_=>exact W.elim
theorem EY{g:Kd}{d tb:TE}{f e:T0->Res D}(m:PJ Y (KR Y .X) E M d f)(l:PJ Y (KR Y .X) E M tb e):PJ Y (KI Y .F g) E M (OK (b6 d (b6 tb dW))) (uQ f e):=by
 intro B U As Z H T Q R P;refine m.bnd R P λx v I L H1 O _ n r p J W=>l.bnd n W λy u k h c s _ R2 q o b a=>?_;have J:Dn Y H1 x v:=J;have b:Dn Y c y u:=b;cases x with
 |int i=>
   cases y with
   |int j=>
     rw[Dn]at J;rw[Dn]at b;subst J b;have a:Po Y (KI Y .F g) E M k h As Z c T (if -(2 ^ 62)<=i/\i<2 ^ 62/\-(2 ^ 62)<=j/\j<2 ^ 62 then .ok (rng i j) else .bad) Q:=a;by_cases z:-(2 ^ 62)<=i/\i<2 ^ 62/\-(2 ^ 62)<=j/\j<2 ^ 62
     ·rw[Xl z]at a;exact⟨i,j,rfl,z,a _ k h c [] R2 (Gw.refl _ _ _) New.nil ⟨_,x5 i _,vL i _⟩⟩
     ·rw[Xj z]at a;exact a.elim
   |_=>exact a.elim
 |_=>cases y<;>exact a.elim
theorem lB{g:Kd}{tb:TE}{c:T0->Res D}(k:PJ Y (KR Y .X) E M tb c):PJ Y (KI Y .F g) E M (OL (b6 tb dW)) (fI c):=by
 intro B U As Z H T Q R P
 have P:Po Y (KI Y .F g) E M B U As Z H T ((c T).bind λy=>match D.int 0,y with
  |.int i,.int j=>if -(2 ^ 62)<=i/\i<2 ^ 62/\-(2 ^ 62)<=j/\j<2 ^ 62 then .ok (rng i j) else .bad
  |_,_=>.bad) Q:=P
 refine k.bnd R P λy u h f d n _ R2 m l b a=>?_;have b:Dn Y d y u:=b;cases y with
 |int j=>
   rw[Dn]at b;subst b;have a:Po Y (KI Y .F g) E M h f As Z d T (if -(2 ^ 62)<=(0:Int)/\(0:Int)<2 ^ 62/\-(2 ^ 62)<=j/\j<2 ^ 62 then .ok (rng 0 j) else .bad) Q:=a;by_cases z:-(2 ^ 62)<=(0:Int)/\(0:Int)<2 ^ 62/\-(2 ^ 62)<=j/\j<2 ^ 62
   · rw[Xl z]at a;refine⟨j,rfl,z.2.2.1,z.2.2.2,a _ h f d [] R2 (Gw.refl _ _ _) New.nil ?_⟩;have e:(j-0).toNat=j.toNat:=by rw[Int.sub_zero]
     unfold rng;rw[e];exact⟨_,x5 0 _,vL 0 _⟩
   ·rw[Xj z]at a;exact a.elim
 |_=>exact a.elim
theorem Ca{X:Type}{l:List (Option X)}{x:Option X}{i:Nat}:rg (x::l) (i+1)=rg l i:=by unfold rg;rw[List.getElem?_cons_succ]
theorem B9{X:Type}{l:List (Option X)}{x:Option X}:rg (x::l) 0=x:=by unfold rg;rw[List.getElem?_cons_zero];rfl
theorem GC{X:Type}{l:List (Option X)}{ix:List Nat}{j:Nat}:rg (ix.map λi=>rg l i) j=match ix[j]? with|some i=>rg l i|none=>none:=by
 unfold rg;rw[List.getElem?_map];cases ix[j]?<;>rfl
theorem xD:∀{l:List Nat} {i j:Nat},l.Nodup->(a:i<l.length)->(b:j<l.length)->l[i]=l[j]->i=j
 |[],_,_,_,a,_,_=>by simp at a
 |x::l,0,0,_,_,_,_=>rfl
 | x::l,0,j+1,nd,a,b,e=>by
   have c:j<l.length:=by simpa using b
   exact absurd (show x∈l from by rw[show x=l[j] from e];exact YG c) (XH.mp nd).1
 | x::l,i+1,0,nd,a,b,e=>by
   have c:i<l.length:=by simpa using a
   exact absurd (show x∈l from by rw[show x=l[i] from e.symm];exact YG c) (XH.mp nd).1
 | x::l,i+1,j+1,nd,a,b,e=>by
   rw[xD (XH.mp nd).2 (by simpa using a) (by simpa using b) e]
def W9(As:Nat->List Addr)(ix:List Nat):Nat->List Addr
 |0=>[]
 |j+1=>match ix[j]? with|some i=>As i|none=>[]
def oh(m:Md)(M:List Md)(ix:List Nat):List Md:=m::ix.map λi=>M.getD i .F
theorem Rel.inner(R:Rel Y M B U As Z H T){ix:List Nat}(h:ix.Nodup){m:Md}{d:D}{v:V}(hd:Lo Y B U H m (some d) (some v) []):
 Rel Y (oh m M ix) B U (W9 As ix) (some v::jY Z ix) H (some d::h9 T ix) where
 bu:=R.bu
 uh:=R.uh
 nd:=λi=>by
  cases i with
  |zero=>exact Yl
  |succ j=>
    show(match ix[j]? with|some i=>As i|none=>[]).Nodup;cases ix[j]? with
    |none=>exact Yl
    |some i=>exact R.nd i
 dj:=λi j a g b c=>by
  cases i with
  |zero=>cases b
  |succ i=>
    cases j with
    |zero=>cases c
    |succ j=>
      have b:a∈(match ix[i]? with|some i=>As i|none=>[]):=b;have c:a∈(match ix[j]? with|some i=>As i|none=>[]):=c;cases f:ix[i]? with
      |none=>rw[f]at b;cases b
      |some x=>
        cases k:ix[j]? with
        |none=>rw[k]at c;cases c
        |some y=>
          rw[f]at b;rw[k]at c;by_cases e:x=y
          · subst e;obtain⟨p,n⟩:=XF.mp f;obtain⟨o,l⟩:=XF.mp k
            have:=xD h p o (n.trans l.symm)
            exact g (by rw[this])
          ·exact R.dj x y a e b c
 tb:=R.tb
 un:=λi a b=>by
  cases i with
  |zero=>cases b
  |succ i=>
    have b:a∈(match ix[i]? with|some i=>As i|none=>[]):=b;cases f:ix[i]? with
    |none=>rw[f]at b;cases b
    |some x=>rw[f]at b;exact R.un x a b
 lo:=λi=>by
  cases i with
  |zero=>
    rw[B9,B9];exact hd
  |succ j=>
    rw[Ca,Ca];unfold jY h9;have n:rg (ix.map λj=>rg T j) j=match ix[j]? with|some i=>rg T i|none=>none:=GC
    have l:rg (ix.map λj=>(Z[j]?).join) j=match ix[j]? with|some i=>rg Z i|none=>none:=GC
    rw[n,l];show Lo Y B U H ((m::ix.map λi=>M.getD i .F).getD (j+1) .F) _ _ (match ix[j]? with|some i=>As i|none=>[]);rw[YB,Xx,X3];cases ix[j]? with
    |none=>exact rfl
    |some i=>exact R.lo i
 len:=by
  rw[Xp,Xp,jY,h9,on,on]
theorem Rel.poke(R:Rel Y M B U As Z H T){p:Addr}{o:HO}(b:U p=none)(c:∀i,p∉As i):Rel Y M B U As Z (upd H p o) T:=
 ⟨R.bu,λa u q=>by rw[a7 (bE q b)];exact R.uh a u q,R.nd,R.dj,R.un,λi=>(R.lo i).mono (Same.refl _) (Same.refl _) λa h=>a7 (λz:a=p=>c i (z▸h)),R.len,R.tb⟩
theorem lg{X:Type}{l:List X}{i:Nat}{x:X}(h:l[i]?=some x):l.drop i=x::l.drop (i+1):=by
 obtain⟨b,a⟩:=XF.mp h;rw[Y5 b,a]
theorem M7{k k':Kd}{m0:Md}{K':KT D V}{ix:List Nat}{ti:TT}{te:TE}{mi:T0->Res Bool}{A:T0->Res D}(hix:ix.Nodup)(h0:∀B U H d v,Same B U->Same U H->Dn Y (hp k B U H) d v->Lo Y B U H m0 (some d) (some v) [])
 (hti:PJ Y KB E0 (oh m0 M ix) ti mi) (hte:PJ Y (KR Y k') E0 (oh m0 M ix) te A)
 (fin:∀B U As Z H T I L H1 Q l O p,Rel Y M I L As Z H1 T->Gw B U H I L H1->H p=none->L p=none->(∀i,p∉As i)->H1 p=some (.lst O)->Dns Y (hp k' I L H1) l O->Po Y K' E M B U As Z H T (.ok (.lst l)) Q->Q (.ref p) H1)
 (hk':k'= .F\/k'= .U) {As:Nat->List Addr} {Z:St} {T:T0} {Q:VK} {ds:List D} {J:It} {I L H1:Hp} {vs:List V} (R1:Rel Y M I L As Z H1 T) (hJ:Nr J H1 vs) (hd:Dns Y (hp k I L H1) ds vs)
 (W:Po Y K' E M I L As Z H1 T (if ds.length<am then (dD mi A (h9 T ix) ds).bind λr=>.ok (.lst r) else .bad) Q) (p:Addr) (hp:H1 p=none):Lf J (λv=>some v::jY Z ix) ti te p H1 Q:=by
 by_cases z:ds.length<am
 · rw[Xl z]at W;have hvl:ds.length=vs.length:=hd.len;have hpA:∀i,p∉As i:=λi=>R1.fresh hp i
   have G:∀{s f N B3 S H3:Hp},Gw s f N B3 S H3->Same (Mi.hp k' s f (λ_=>none)) (Mi.hp k' B3 S (λ_=>none)):=λg=>by
    rcases hk' with e|e<;>subst e
    ·exact g.b
    ·exact g.u
   have hpe:∀{s f N:Hp},Mi.hp k' s f N=Mi.hp k' s f (λ_=>none):=λ{s f N}=>by rcases hk' with e|e<;>subst e<;>rfl
   refine⟨λi m O N=>i<=ds.length/\m=ds.length-i/\N p=some (.lst O)/\O.length<=i/\∃s f l,Rel Y M s f As Z N T/\Gw I L H1 s f N/\f p=none/\Dns Y (Mi.hp k' s f (λ_=>none)) l O/\
    Po Y K' E M I L As Z H1 T ((dD mi A (h9 T ix) (ds.drop i)).bind λr=>.ok (.lst (l++r))) Q,⟨ds.length,YS _,rfl,bj,XD _,I,L,[],R1.new hp,Gw.newO R1 hp,R1.uh.free hp,by rw[Dns],W⟩,?_⟩
   rintro i m O N ⟨hi,rfl,hy,hle,s,f,l,R2,g2,u2,dz,t⟩;have C:=hJ N g2.h;refine⟨hy,YI hle (d6 (X4 (YI hi z))),?_⟩;by_cases hlt:i<ds.length
   · refine .inr ⟨C.2.1 i (by omega),λv H3 hyl=>?_⟩;obtain⟨rfl,ev⟩:=C.2.2 i v H3 (by omega) hyl;obtain⟨d,ed,dd⟩:=hd.geti ev;rw[lg ed,dD]at t;have RI:=R2.inner hix (h0 s f H3 d v R2.bu R2.uh (Dn.mono (jv g2) dd));refine hti s f _ _ H3 _ _ RI ?_;cases eb:mi (some d::h9 T ix) with
     |ok c=>
       rw[eb]at t;intro b B3 S H4 N3 K n n3 hb;cases hb
       have up3:S p=none:=by
        cases q:S p with
        |none=>rfl
        |some o=>
          rcases n.fr p o q with z|z|⟨xs,z⟩
          ·rw[u2]at z;cases z
          ·rw[hy]at z;cases z
          ·subst z;have:=K.uh p _ q;rw[n.h _ _ hy]at this;cases this
       have R3:Rel Y M B3 S As Z H4 T:=R2.grow n.b n.u n.h K.bu K.uh λj a P=>by
        cases q:S a with
        |none=>rfl
        |some o=>
          rcases n.fr a o q with z|z|z
          ·rw[R2.un j a P]at z;cases z
          ·obtain⟨o',w⟩:=R2.at P;rw[z]at w;cases w
          ·obtain⟨o',w⟩:=R2.at P;have e1:=n.h _ _ w;rw[K.uh a _ q]at e1;cases e1;exact(R2.nt P w z).elim
       cases c with
       |false=>
         rw[Xj Xw];exact⟨ds.length-(i+1),by omega,hlt,rfl,n.h _ _ hy,by omega,B3,S,l,R3,g2.trans n,up3,dz.mono (G n),t⟩
       |true=>
         rw[Xl rfl];refine hte B3 S _ _ H4 _ _ K ?_;cases ee:A (some d::h9 T ix) with
         |ok x=>
           have P3:Po Y K' E M I L As Z H1 T (((A (some d::h9 T ix)).calm.bind λx=>(dD mi A (h9 T ix) (ds.drop (i+1))).bind λxs=>.ok (x::xs)).bind λr=>.ok (.lst (l++r))) Q:=t;rw[ee]at P3;intro y B4 U4 H5 N4 X R n4 hx;have y5:H5 p=some (.lst O):=R.h _ _ (n.h _ _ hy)
           have up4:U4 p=none:=by
            cases q:U4 p with
            |none=>rfl
            |some o=>
              rcases R.fr p o q with z|z|⟨xs,z⟩
              ·rw[up3]at z;cases z
              ·rw[n.h _ _ hy]at z;cases z
              ·subst z;have:=X.uh p _ q;rw[y5]at this;cases this
           have R4:Rel Y M B4 U4 As Z H5 T:=R3.grow R.b R.u R.h X.bu X.uh λj a P=>by
            cases q:U4 a with
            |none=>rfl
            |some o=>
              rcases R.fr a o q with z|z|z
              ·rw[R3.un j a P]at z;cases z
              ·obtain⟨o',w⟩:=R3.at P;rw[z]at w;cases w
              ·obtain⟨o',w⟩:=R3.at P;have e1:=R.h _ _ w;rw[X.uh a _ q]at e1;cases e1;exact(R3.nt P w z).elim
           have g5:Gw I L H1 B4 U4 (upd H5 p (.lst (O++[y]))):=by
            have g:=(g2.trans n).trans R;exact⟨g.toEx,λa o q=>by rw[a7 (bE q hp)];exact g.h a o q,g.fr⟩
           refine⟨y5,ds.length-(i+1),by omega,hlt,rfl,bj,by rw[Xo,Ye];omega,B4,U4,l++[x],R4.poke up4 hpA,g5,up4,(dz.mono (G (n.trans R))).append (Dns.one ?_),?_⟩
           ·have hx:Dn Y (Mi.hp k' B4 U4 H5) x y:=hx;rw[hpe]at hx;exact hx
           · cases eg:dD mi A (h9 T ix) (ds.drop (i+1)) with
             |ok r=>
               rw[eg]at P3;show Po Y K' E M I L As Z H1 T (.ok (.lst (l++[x]++r))) Q;rw[Yh];exact P3
             |exc c=>rw[eg]at P3;exact P3
             |bad=>rw[eg]at P3;exact P3
         |exc c=>
           have P3:Po Y K' E M I L As Z H1 T (((A (some d::h9 T ix)).calm.bind λx=>(dD mi A (h9 T ix) (ds.drop (i+1))).bind λxs=>.ok (x::xs)).bind λr=>.ok (.lst (l++r))) Q:=t;rw[ee]at P3;exact P3.elim
         |bad=>
           have P3:Po Y K' E M I L As Z H1 T (((A (some d::h9 T ix)).calm.bind λx=>(dD mi A (h9 T ix) (ds.drop (i+1))).bind λxs=>.ok (x::xs)).bind λr=>.ok (.lst (l++r))) Q:=t;rw[ee]at P3;exact P3.elim
     |exc c=>rw[eb]at t;exact t.elim
     |bad=>rw[eb]at t;exact t.elim
   · have e:i=ds.length:=by omega
     subst e;rw[Zm,dD]at t;refine .inl ⟨C.1 _ (by omega),?_⟩;have P3:Po Y K' E M I L As Z H1 T (.ok (.lst (l++[]))) Q:=t;rw[XZ]at P3;exact fin I L As Z H1 T s f N Q l O p R2 g2 hp u2 hpA hy (by rw[hpe];exact dz) P3
 ·rw[Xj z]at W;exact W.elim
theorem wq{k k':Kd}{a:Md}{q:KT D V}{l:TI}{ix:List Nat}{m:TT}{te:TE}{src:T0->Res (List D)}{n:T0->Res Bool}{o:T0->Res D}
 (r:PJ Y (KI Y k .X) E M l src) (f:ix.Nodup) (h0:∀B U H d v,Same B U->Same U H->Dn Y (hp k B U H) d v->Lo Y B U H a (some d) (some v) [])
 (b:PJ Y KB E0 (oh a M ix) m n) (c:PJ Y (KR Y k') E0 (oh a M ix) te o)
 (g:∀B U As Z H T I L H1 Q h j p,Rel Y M I L As Z H1 T->Gw B U H I L H1->H p=none->L p=none->(∀i,p∉As i)->H1 p=some (.lst j)->Dns Y (hp k' I L H1) h j->Po Y q E M B U As Z H T (.ok (.lst h)) Q->Q (.ref p) H1)
 (e:k'= .F\/k'= .U):PJ Y q E M (qc l ix m te) (iO src ix n o):=by
 intro B U As Z H T Q R P;refine r.bnd R P λds J I L H1 O _ t w u ⟨vs,s,hd⟩ W p hp=>?_;exact M7 f h0 b c g e t s hd W p hp
theorem Vg{B U H:Hp}{d:D}{v:V}(_:Same B U)(_:Same U H)(h:Dn Y (hp .F B U H) d v):Lo Y B U H .F (some d) (some v) []:=⟨v,rfl,h,rfl⟩
theorem inU{B U H:Hp}{d:D}{v:V}(_:Same B U)(_:Same U H)(h:Dn Y (hp .U B U H) d v):Lo Y B U H .R (some d) (some v) []:=⟨v,rfl,h,rfl⟩
theorem Vn{B U:Hp}{As:Nat->List Addr}{Z:St}{H:Hp}{T:T0}{I L H1:Hp}{Q:VK}{b:List D}{c:List V}{p:Addr}(R:Rel Y M I L As Z H1 T)(g:Gw B U H I L H1)(hp:H p=none)(u:L p=none)(e:∀i,p∉As i)(h:H1 p=some (.lst c))
 (d:Dns Y (Mi.hp .F I L H1) b c) (P:Po Y (KO Y (.ct .fz)) E M B U As Z H T (.ok (.lst b)) Q):Q (.ref p) H1:=
 P (.ref p) I L H1 [p] R g ⟨by simp,λa q=>by rw[Xz.mp q];exact hp,λa q=>by rw[Xz.mp q];exact u⟩ (by
  show Ow Y I H1 (.lst b) (.ct .fz) (.ref p) [p];rw[Ow]
  exact⟨p,c,[],rfl,h,rfl,Ows.of d⟩)
theorem W4{B U:Hp}{As:Nat->List Addr}{Z:St}{H:Hp}{T:T0}{I L H1:Hp}{Q:VK}{f:List D}{c:List V}{p:Addr}(R:Rel Y M I L As Z H1 T)(g:Gw B U H I L H1)(hp:H p=none)(u:L p=none)(j:∀i,p∉As i)(h:H1 p=some (.lst c))
 (d:Dns Y (Mi.hp .U I L H1) f c) (P:Po Y (KR Y .U) E M B U As Z H T (.ok (.lst f)) Q):Q (.ref p) H1:=by
 have e:Same L (upd L p (.lst c)):=Gd.ci u
 have s2:Same (upd L p (.lst c)) H1:=λa o q=>by
  by_cases z:a=p
  ·subst z;rw[bj]at q;cases q;exact h
  ·rw[a7 z]at q;exact R.uh a o q
 refine P (.ref p) I (upd L p (.lst c)) H1 [] (R.grow (Same.refl _) e (Same.refl _) (R.bu.trans e) s2 λi a q=>by rw[a7 (λz:a=p=>j i (z▸q))];exact R.un i a q)
  ⟨⟨g.b,g.u.trans e,g.nb⟩,g.h,λa o q=>?_⟩ New.nil ?_
 · by_cases z:a=p
   ·subst z;exact .inr (.inl hp)
   ·rw[a7 z]at q;exact g.fr a o q
 ·show Dn Y (upd L p (.lst c)) (.lst f) (.ref p);rw[Dn];exact⟨p,c,rfl,bj,Dns.mono e d⟩
section
variable{wi:TI}{ix:List Nat}{ti:TT}{te:TE}{src:T0->Res (List D)}{mi:T0->Res Bool}{me:T0->Res D}
theorem iA:PJ Y KB E M Tb (λ_=>.ok true):=λB U As Z H T Q R P=>P _ B U H [] R (Gw.refl _ _ _) New.nil rfl
theorem gk(d:PJ Y (KI Y .F .X) E M wi src)(c:ix.Nodup)(a:PJ Y KB E0 (oh .F M ix) ti mi)(b:PJ Y (KR Y .F) E0 (oh .F M ix) te me):PJ Y (KO Y (.ct .fz)) E M (qc wi ix ti te) (iO src ix mi me):=
 wq d c (λ_ _ _ _ _=>Vg) a b (λ_ _ _ _ _ _ _ _ _ _ _ _ _=>Vn) (.inl rfl)
theorem m7(d:PJ Y (KI Y .U .X) E M wi src)(c:ix.Nodup)(a:PJ Y KB E0 (oh .R M ix) ti mi)(b:PJ Y (KR Y .F) E0 (oh .R M ix) te me):PJ Y (KO Y (.ct .fz)) E M (qc wi ix ti te) (iO src ix mi me):=
 wq d c (λ_ _ _ _ _=>inU) a b (λ_ _ _ _ _ _ _ _ _ _ _ _ _=>Vn) (.inl rfl)
theorem xu(d:PJ Y (KI Y .F .X) E M wi src)(c:ix.Nodup)(a:PJ Y KB E0 (oh .F M ix) ti mi)(b:PJ Y (KR Y .U) E0 (oh .F M ix) te me):PJ Y (KR Y .U) E M (qc wi ix ti te) (iO src ix mi me):=
 wq d c (λ_ _ _ _ _=>Vg) a b (λ_ _ _ _ _ _ _ _ _ _ _ _ _=>W4) (.inr rfl)
end
end
structure NewM (N:List Addr) (U:Hp) (As:Nat->List Addr):Prop where
 nd:N.Nodup
 un:∀a∈N,U a=none
 ap:∀a∈N,∀i,a∉As i
theorem NewM.nil{U:Hp}{As:Nat->List Addr}:NewM [] U As:=⟨Yl,λ_ h=>(nomatch h),λ_ h=>(nomatch h)⟩
def Kp(b:Nat->Bool)(Z a:St):Prop:=∀j,b j=true->rg a j=rg Z j
theorem Kp.refl(a:Nat->Bool)(Z:St):Kp a Z Z:=λ_ _=>rfl
theorem Kp.trans{e:Nat->Bool}{Z d c:St}(a:Kp e Z d)(b:Kp e d c):Kp e Z c:=λj h=>(b j h).trans (a j h)
section
variable(Y:Cm)
def Mo{X W:Type}(K:KT X W)(E:XK)(M:List Md)(B U:Hp)(Z:St)(r:Out X)(Q:W->Hp->Prop):Prop:=
 match r with
 |.ok d C=>∀v S J G H' N,Rel Y M S J G Z H' C->Ex B U S J->NewM N J G->K d v S J H' N->Q v H'
 |.exc c C=>∀S J G H',Rel Y M S J G Z H' C->Ex B U S J->∀a,E (.ref (Y c)) a H'
 |.bad=>False
def MJ{X W:Type}(K:KT X W)(E:XK)(M:List Md)(t:St->Hp->(W->Hp->Prop)->Prop)(m:T0->Out X):Prop:=
 ∀B U As Z H T Q,Rel Y M B U As Z H T->Mo Y K E M B U Z (m T) Q->t Z H Q
def So(E:XK)(f:KT D V)(b:Nat->Bool)(M:List Md)(B U:Hp)(Z:St)(r:SO)(D:Ends):Prop:=
 match r with
 |.nx C=>∀a S J G H',Rel Y M S J G a H' C->Ex B U S J->Kp b Z a->D.nx a H'
 |.bk C=>∀a S J G H',Rel Y M S J G a H' C->Ex B U S J->Kp b Z a->D.bk a H'
 |.ct C=>∀a S J G H',Rel Y M S J G a H' C->Ex B U S J->Kp b Z a->D.ct a H'
 |.rt d C=>∀v a S J G H' N,Rel Y M S J G a H' C->Ex B U S J->Kp b Z a->NewM N J G->f d v S J H' N->D.rt v H'
 |.exc c C=>∀a S J G H',Rel Y M S J G a H' C->Ex B U S J->Kp b Z a->∀e,E (.ref (Y c)) e H'
 |.bad=>False
def SJ(E:XK)(b:KT D V)(a:Nat->Bool)(M:List Md)(t:TS)(m:T0->SO):Prop:=
 ∀B U As Z H T D,Rel Y M B U As Z H T->So Y E b a M B U Z (m T) D->t D Z H
end
section
variable{Y:Cm}{E:XK}{Kr:KT D V}{pr:Nat->Bool}{M:List Md}{K:L0}{B U H I L H1:Hp}{As:Nat->List Addr}{Z σ1:St}{T:T0}
theorem Mo.at{X W:Type}{K:KT X W}{r:Out X}{Q:W->Hp->Prop}(P:Mo Y K E M B U Z r Q)(e:Ex B U I L):Mo Y K E M I L Z r Q:=by
 cases r with
 |ok d C=>exact λv S J G H' N b a f k=>P v S J G H' N b (e.trans a) f k
 |exc c C=>exact λS J G H' b a=>P S J G H' b (e.trans a)
 |bad=>exact P
theorem So.at{r:SO}{D:Ends}(P:So Y E Kr pr M B U Z r D)(e:Ex B U I L)(k:Kp pr Z σ1):So Y E Kr pr M I L σ1 r D:=by
 cases r with
 |nx C=>exact λa S J G H' f b k'=>P a S J G H' f (e.trans b) (k.trans k')
 |bk C=>exact λa S J G H' f b k'=>P a S J G H' f (e.trans b) (k.trans k')
 |ct C=>exact λa S J G H' f b k'=>P a S J G H' f (e.trans b) (k.trans k')
 |rt d C=>exact λv a S J G H' N f b k'=>P v a S J G H' N f (e.trans b) (k.trans k')
 |exc c C=>exact λa S J G H' f b k'=>P a S J G H' f (e.trans b) (k.trans k')
 |bad=>exact P
theorem aR{X W:Type}{K:KT X W}{t:St->Hp->(W->Hp->Prop)->Prop}{m:T0->Res X}(h:PJ Y K E M t m):MJ Y K E M t (λT=>(m T).up T):=by
 intro B U As Z H T Q R P;replace P:Mo Y K E M B U Z ((m T).up T) Q:=P;refine h B U As Z H T Q R ?_;cases e:m T with
 |ok d=>
   rw[e]at P;exact λv S J H' N a g n k=>P v S J As H' N a g.toEx ⟨n.nd,n.un,R.apart n⟩ k
 |exc c=>
   rw[e]at P;exact λS J H' a g=>P S J As H' a g.toEx
 |bad=>rw[e]at P;exact P
theorem WX{s:Sh}{t:TE}{m:T0->Out D}(h:MJ Y (KO Y s) E M t m):MJ Y (KR Y .F) E M t m:=by
 intro B U As Z H T Q R P;refine h B U As Z H T Q R ?_;cases e:m T with
 |ok d C=>
   rw[e]at P;intro v S J G H' N g k f i;obtain⟨R2,j⟩:=g.freeze λa b=>⟨f.un a b,f.ap a b⟩;refine P v _ _ G H' [] R2 (k.trans j) NewM.nil (Ow.dn (eD g.bh) (λa b o q=>?_) i);unfold Mi.frz;rw[if_pos b];exact q
 |exc c C=>rw[e]at P;exact P
 |bad=>rw[e]at P;exact P
theorem MJ.bnd{X W O J:Type}{i:KT X W}{g:KT O J}{d:St->Hp->(W->Hp->Prop)->Prop}{b:T0->Out X}(l:MJ Y i E M d b)(R:Rel Y M B U As Z H T){k:X->T0->Out O}{Q:J->Hp->Prop}
 (P:Mo Y g E M B U Z ((b T).bind k) Q) {body:W->Hp->Prop}
 (h:∀x C v I L a H1 N,Rel Y M I L a Z H1 C->Ex B U I L->NewM N L a->i x v I L H1 N->Mo Y g E M I L Z (k x C) Q->body v H1):d Z H body:=by
 refine l B U As Z H T body R ?_;cases e:b T with
 |ok x C=>
   rw[e]at P;exact λv I L a H1 N m f j k1=>h x C v I L a H1 N m f j k1 (Mo.at (r:=k x C) P f)
 |exc c C=>rw[e]at P;exact P
 |bad=>rw[e]at P;exact P
theorem MJ.bndS{X W:Type}{g:KT X W}{d:St->Hp->(W->Hp->Prop)->Prop}{b:T0->Out X}(j:MJ Y g E M d b)(R:Rel Y M B U As Z H T){k:X->T0->SO}{D:Ends}
 (P:So Y E Kr pr M B U Z (lD (b T) k) D) {body:W->Hp->Prop}
 (h:∀x C v I L a H1 N,Rel Y M I L a Z H1 C->Ex B U I L->NewM N L a->g x v I L H1 N->So Y E Kr pr M I L Z (k x C) D->body v H1):d Z H body:=by
 refine j B U As Z H T body R ?_;cases e:b T with
 |ok x C=>
   rw[e]at P;exact λv I L a H1 N m f i k1=>h x C v I L a H1 N m f i k1 (So.at (r:=k x C) P f (Kp.refl _ _))
 |exc c C=>rw[e]at P;exact λS J G H' n l=>P Z S J G H' n l (Kp.refl _ _)
 |bad=>rw[e]at P;exact P
theorem gU{X:Type}{l:List (Option X)}{i j:Nat}{x:Option X}:rg (l.set i x) j=if i=j/\i<l.length then x else rg l j:=by
 unfold rg;rw[List.getElem?_set];by_cases e:i=j
 · subst e;by_cases h:i<l.length
   ·rw[Xl rfl,Xl h,Xl ⟨rfl,h⟩];rfl
   ·rw[Xl rfl,Xj h,Xj λz=>h z.2,XO (by omega)]
 ·rw[Xj e,Xj λz=>e z.1]
theorem Rel.store(R:Rel Y M B U As Z H T){i:Nat}{d:D}{v:V}{N:List Addr}(n:NewM N U As)(l:Lo Y B U H (M.getD i .F) (some d) (some v) N):
 ∃G,Rel Y M B U G (Z.set i (some v)) H (T.set i (some d)):=by
 by_cases hi:i<T.length
 · refine⟨λj=>if j=i then N else As j,R.bu,R.uh,λj=>?_,λj k a f b c=>?_,λj a b=>?_,λj=>?_,by rw[Yc,Yc];exact R.len,R.tb⟩
   · show(if j=i then N else As j).Nodup;split
     ·exact n.nd
     ·exact R.nd j
   · replace b:a∈(if j=i then N else As j):=b;replace c:a∈(if k=i then N else As k):=c;split at b
     · split at c
       ·rename_i h g;exact f (h.trans g.symm)
       ·exact n.ap a b k c
     · split at c
       ·exact n.ap a c j b
       ·exact R.dj j k a f b c
   · replace b:a∈(if j=i then N else As j):=b;split at b
     ·exact n.un a b
     ·exact R.un j a b
   · rw[gU,gU];show Lo Y B U H (M.getD j .F) _ _ (if j=i then N else As j);by_cases e:i=j
     ·subst e;rw[Xl ⟨rfl,hi⟩,Xl ⟨rfl,by rw[<-R.len];exact hi⟩,Xl rfl];exact l
     ·rw[Xj λz=>e z.1,Xj λz=>e z.1,Xj λz=>e z.symm];exact R.lo j
 ·have g:=R.len;have o:Z.set i (some v)=Z:=ZG (by omega);have m:T.set i (some d)=T:=ZG (by omega);rw[o,m];exact⟨As,R⟩
theorem Kp.set{i:Nat}{x:Option V}(h:pr i=false):Kp pr Z (Z.set i x):=λj a=>by
 rw[gU,Xj];rintro⟨e,_⟩;rw[e,a]at h;cases h
theorem F5{f:KT D V}{i:Nat}{te:TE}{m:T0->Out D}(h:MJ Y f E M te m)(k:∀B U H d v N,f d v B U H N->∃a,(a=[]\/a=N)/\Lo Y B U H (M.getD i .F) (some d) (some v) a)(hp:pr i=false):SJ Y E Kr pr M (uP te (eZ i)) (bF i m):=by
 intro B U As Z H T D R P;refine h.bndS R P λx C v I L c H1 N o p j k1 W=>?_;obtain⟨a,n,l⟩:=k I L H1 x v N k1
 have g:NewM a L c:=by
  rcases n with e|e
  ·subst e;exact NewM.nil
  ·subst e;exact j
 obtain⟨b,R2⟩:=o.store g l;exact W _ I L b H1 R2 (Ex.refl _ _) (Kp.set hp)
theorem bg{i:Nat}{te:TE}{m:T0->Out D}(h:MJ Y (KR Y .F) E M te m)(a:M.getD i .F= .F)(hp:pr i=false):SJ Y E Kr pr M (uP te (eZ i)) (bF i m):=
 F5 h (λB U H d v N k=>⟨[],.inl rfl,by rw[a];exact⟨v,rfl,k,rfl⟩⟩) hp
theorem F4{i:Nat}{te:TE}{m:T0->Out D}(h:MJ Y (KR Y .U) E M te m)(a:M.getD i .F= .R)(hp:pr i=false):SJ Y E Kr pr M (uP te (eZ i)) (bF i m):=
 F5 h (λB U H d v N k=>⟨[],.inl rfl,by rw[a];exact⟨v,rfl,k,rfl⟩⟩) hp
theorem c6{i:Nat}{s:Sh}{te:TE}{m:T0->Out D}(h:MJ Y (KO Y s) E M te m)(a:M.getD i .F= .O s)(hp:pr i=false):SJ Y E Kr pr M (uP te (eZ i)) (bF i m):=
 F5 h (λB U H d v N k=>⟨N,.inr rfl,by rw[a];exact⟨v,rfl,k⟩⟩) hp
theorem bI:SJ Y E Kr pr M BU bo:=λB U As Z H T D R P=>P Z B U As H R (Ex.refl _ _) (Kp.refl _ _)
theorem aq{t u:TS}{m n:T0->SO}(h:SJ Y E Kr pr M t m)(k:SJ Y E Kr pr M u n):SJ Y E Kr pr M (FG t u) (ax m n):=by
 intro B U As Z H T D R P;refine h B U As Z H T _ R ?_;unfold ax at P;cases e:m T with
 |nx C=>rw[e]at P;exact λa S J G H' f b kp=>k S J G a H' C D f (So.at P b kp)
 |bk C=>rw[e]at P;exact P
 |ct C=>rw[e]at P;exact P
 |rt d C=>rw[e]at P;exact P
 |exc c C=>rw[e]at P;exact P
 |bad=>rw[e]at P;exact P
theorem Ga:SJ Y E Kr pr M NK M8:=λB U As Z H T D R P=>P Z B U As H R (Ex.refl _ _) (Kp.refl _ _)
theorem b7{c:KT D V}{te:TE}{m:T0->Out D}(h:MJ Y c E M te m):SJ Y E Kr pr M (wT te) (cC m):=by
 intro B U As Z H T D R P;refine h.bndS R P λx C v I L a H1 N b e d k1 W=>?_;exact W Z I L a H1 b (Ex.refl _ _) (Kp.refl _ _)
theorem a8{te:TE}{m:T0->Out D}(h:MJ Y Kr E M te m):SJ Y E Kr pr M (O6 te) (bG m):=by
 intro B U As Z H T D R P;refine h.bndS R P λx C v I L a H1 N c d b k1 W=>?_;exact W v Z I L a H1 N c (Ex.refl _ _) (Kp.refl _ _) b k1
theorem cN{c:TT}{t u:TS}{mc:T0->Out Bool}{m n:T0->SO}(d:MJ Y KB E M c mc)(h:SJ Y E Kr pr M t m)(k:SJ Y E Kr pr M u n):SJ Y E Kr pr M (LB c t u) (fG mc m n):=by
 intro B U As Z H T D R P;refine d.bndS R P λx C v I L a H1 N b f e k1 W=>?_;cases k1;cases x with
 |true=>exact h I L a Z H1 C D b W
 |false=>exact k I L a Z H1 C D b W
def TJ(Y:Cm)(k:Kd)(pr:Nat->Bool)(M:List Md)(g:TG)(c:D->T0->Option T0):Prop:=∀B U As Z H T d v a Q,Rel Y M B U As Z H T->Dn Y (hp k B U H) d v->c d T=some a->(∀σ1 b,Rel Y M B U b σ1 H a->Kp pr Z σ1->Q σ1 H)->g v Z H Q
theorem sS{i:Nat}(c:M.getD i .F= .F)(hp:pr i=false):TJ Y .F pr M (eZ i) (kX i):=by
 intro B U As Z H T d v b Q R hd e h;cases e;obtain⟨a,R2⟩:=R.store (i:=i) (d:=d) (v:=v) NewM.nil (by rw[c];exact⟨v,rfl,hd,rfl⟩);exact h _ a R2 (Kp.set hp)
theorem Ln{i:Nat}(c:M.getD i .F= .R)(hp:pr i=false):TJ Y .U pr M (eZ i) (kX i):=by
 intro B U As Z H T d v b Q R hd e h;cases e;obtain⟨a,R2⟩:=R.store (i:=i) (d:=d) (v:=v) NewM.nil (by rw[c];exact⟨v,rfl,hd,rfl⟩);exact h _ a R2 (Kp.set hp)
theorem S9{i:Nat}(b:M.getD i .F= .R)(hp:pr i=false):TJ Y .F pr M (eZ i) (kX i):=λB U As Z H T d v a Q R hd e h=>Ln b hp B U As Z H T d v a Q R (Dn.mono R.bu hd) e h
theorem tg2{k:Kd}{i j:Nat}(hi:TJ Y k pr M (eZ i) (kX i))(t:TJ Y k pr M (eZ j) (kX j)):TJ Y k pr M (Vj K 2 (JR (eZ i) (JR (eZ j) Vk))) (O5 i j):=by
 intro B U As Z H T d v p Q R hd e h;cases d with
 |tup ds=>
   rcases ds with _|⟨x,_|⟨y,_|⟨z,ds⟩⟩⟩
   ·cases e
   ·cases e
   ·cases e;rw[Dn]at hd;obtain⟨a,xs,rfl,u,o⟩:=hd;rw[Dns]at o;obtain⟨f,r,rfl,s,n⟩:=o;rw[Dns]at n;obtain⟨b,A,rfl,q,m⟩:=n;rw[Dns]at m;subst m;refine⟨a,[f,b],rfl,SqT.of (R.hp k _ _ u),rfl,f,[b],rfl,?_⟩;refine hi B U As Z H T x f _ _ R s rfl λσ1 l w k1=>⟨b,[],rfl,?_⟩;exact t B U l σ1 H _ y b _ _ w q rfl λc g R2 k2=>⟨rfl,h c g R2 (k1.trans k2)⟩
   ·cases e
 |_=>cases e
theorem cR{k:Kd}{wi:TI}{g:TG}{tb:TS}{src:T0->Out (List D)}{Q:D->T0->Option T0}{body:T0->SO}(hs:MJ Y (KI Y k .U) E M wi src)(hk:k= .F\/k= .U)(hg:TJ Y k pr M g Q)(hb:SJ Y E Kr pr M tb body):
 SJ Y E Kr pr M (O8 wi g tb) (cB src Q body):=by
 intro B U As Z H T D R P;refine hs.bndS R P λds ρ0 J I L As1 H1 N R1 e1 n1 ⟨vs,hJ,hd⟩ W=>?_;have hvl:ds.length=vs.length:=hd.len
 have hp1:∀{p o H2:Hp},Ex I L p o->Same (hp k I L H1) (hp k p o H2):=λe=>by
  rcases hk with z|z<;>subst z
  ·exact e.b
  ·exact e.u
 refine⟨λi m r H'=>i<=ds.length/\m=ds.length-i/\∃p o n h,Rel Y M p o n r H' h/\Ex I L p o/\Kp pr Z r/\So Y E Kr pr M I L Z (vG Q body (ds.drop i) h) D,⟨_,YS _,rfl,I,L,As1,ρ0,R1,Ex.refl _ _,Kp.refl _ _,W⟩,?_⟩;rintro i m r H' ⟨hi,rfl,p,o,n,h,R2,C,k2,a⟩;have hj:=hJ H' (C.u.trans R2.uh);by_cases S:i<ds.length
 · refine .inr ⟨hj.2.1 i (by omega),λq V=>i+1<=ds.length/\∃p o n h,Rel Y M p o n q V h/\Ex I L p o/\Kp pr Z q/\So Y E Kr pr M I L Z (vG Q body (ds.drop (i+1)) h) D,λq V ⟨h1,h2⟩=>⟨ds.length-(i+1),by omega,h1,rfl,h2⟩,λx Hx hy=>?_⟩;obtain⟨rfl,ev⟩:=hj.2.2 i x Hx (by omega) hy;obtain⟨d,ed,dd⟩:=hd.geti ev;rw[lg ed,vG]at a;cases et:Q d h with
   |none=>rw[et]at a;exact a.elim
   |some G=>
     rw[et]at a;refine hg p o n r Hx h d x G _ R2 (Dn.mono (hp1 C) dd) et λX As3 R3 k3=>?_;refine hb p o As3 X Hx G _ R3 ?_;dsimp only at a;cases O:body G with
     |nx l=>
       rw[O]at a;exact λj A w f K y t s=>⟨S,A,w,f,l,y,C.trans t,(k2.trans k3).trans s,a⟩
     |ct l=>
       rw[O]at a;exact λj A w f K y t s=>⟨S,A,w,f,l,y,C.trans t,(k2.trans k3).trans s,a⟩
     |bk l=>
       rw[O]at a;exact λj A w f K y t s=>a j A w f K y (C.trans t) ((k2.trans k3).trans s)
     |rt d l=>
       rw[O]at a;exact λv j A w f K N y t s=>a v j A w f K N y (C.trans t) ((k2.trans k3).trans s)
     |exc c l=>
       rw[O]at a;exact λj A w f K y t s=>a j A w f K y (C.trans t) ((k2.trans k3).trans s)
     |bad=>rw[O]at a;exact a.elim
 · have e:i=ds.length:=by omega
   subst e;rw[Zm,vG]at a;exact .inl ⟨hj.1 _ (by omega),a r p o n H' R2 C k2⟩
theorem u0{c:TT}{tb:TS}{mc:T0->Out Bool}{body:T0->SO}(n:Nat)(S:MJ Y KB E M c mc)(V:SJ Y E Kr pr M tb body):SJ Y E Kr pr M (FD c tb) (zO mc body n):=by
 intro B U As Z H T D R P;refine⟨λm i H'=>∃Q J A p,Rel Y M Q J A i H' p/\Ex B U Q J/\Kp pr Z i/\So Y E Kr pr M B U Z (zO mc body m p) D,⟨n,B,U,As,T,R,Ex.refl _ _,Kp.refl _ _,P⟩,?_⟩;rintro m i H' ⟨Q,J,A,p,R2,y,k2,b⟩;cases m with
 |zero=>exact b.elim
 |succ m=>
   rw[zO]at b;refine S Q J A i H' p _ R2 ?_;cases e:mc p with
   |ok x q=>
     rw[e]at b;intro v O I u L N K w W k3;cases k3;cases x with
     |false=>
       rw[Xj Xw];exact b i O I u L K (y.trans w) k2
     |true=>
       rw[Xl rfl]
       have b:So Y E Kr pr M B U Z (match body q with
        |.nx C=>zO mc body m C
        |.ct C=>zO mc body m C
        |.bk C=>.nx C
        |o=>o) D:=b
       refine⟨λl G=>∃k j a f,Rel Y M k j a l G f/\Ex B U k j/\Kp pr Z l/\So Y E Kr pr M B U Z (zO mc body m f) D,λl G h=>⟨m,Y3 m,h⟩,?_⟩;refine V O I u i L q _ K ?_;cases F:body q with
       |nx f=>
         rw[F]at b;exact λg k j a z t s r=>⟨k,j,a,f,t,(y.trans w).trans s,k2.trans r,b⟩
       |ct f=>
         rw[F]at b;exact λg k j a z t s r=>⟨k,j,a,f,t,(y.trans w).trans s,k2.trans r,b⟩
       |bk f=>
         rw[F]at b;exact λg k j a z t s r=>b g k j a z t ((y.trans w).trans s) (k2.trans r)
       |rt d f=>
         rw[F]at b;exact λv g k j a z N t s r=>b v g k j a z N t ((y.trans w).trans s) (k2.trans r)
       |exc c f=>
         rw[F]at b;exact λg k j a z t s r=>b g k j a z t ((y.trans w).trans s) (k2.trans r)
       |bad=>rw[F]at b;exact b.elim
   |exc c q=>rw[e]at b;exact λO I u L K w=>b i O I u L K (y.trans w) k2
   |bad=>rw[e]at b;exact b.elim
end
inductive Ap where
 |F|U|X|O (i:Nat)|Bo (i:Nat)
deriving DecidableEq
def ic:List Ap->Nat->T0->T0->T0
 |[],_,_,T=>T
 |.O i::r,j,a,T=>ic r (j+1) a (T.set i (rg a j))
 |_::r,j,a,T=>ic r (j+1) a T
def je(a:List Ap)(e:List D->Out D)(ds:List D)(T:T0):Out D:=match e ds with
 |.ok d b=>.ok d (ic a 0 b T)
 |.exc c b=>.exc c (ic a 0 b T)
 |.bad=>.bad
def kQ(a:List D->Out D)(ds:List D):Res D:=match a ds with
 |.ok d _=>.ok d
 |.exc c _=>.exc c
 |.bad=>.bad
def ip(M:List Md)(T:T0):T0:=(List.range M.length).map λi=>match M.getD i .F with | .O _=>rg T i|_=>none
section
variable(Y:Cm)
def dX(M:List Md)(e:KT D V)(b:List D->Out D):Sp:=λvs H Q E=>∃B U As ds,Rel Y M B U As (vs.map some) H (ds.map some)/\vs.length=M.length/\match b ds with
 |.ok d C=>∀v S J G H' N,Rel Y M S J G (vs.map some) H' (ip M C)->Ex B U S J->NewM N J G->e d v S J H' N->Q v H'
 |.exc c C=>∀S J G H',Rel Y M S J G (vs.map some) H' (ip M C)->Ex B U S J->∀a,E (.ref (Y c)) a H'
 |.bad=>False
def A1(p:Ap)(B U H:Hp)(Z:St)(T:T0)(d:D)(v:V):Prop:=match p with
 |.F=>Dn Y B d v
 |.U=>Dn Y U d v
 |.X=>Dn Y H d v
 |.O i=>rg Z i=some v/\rg T i=some d
 |.Bo i=>rg Z i=some v/\rg T i=some d
def Ag(B U H:Hp)(Z:St)(T:T0):List Ap->List D->List V->Prop
 |[],ds,vs=>ds=[]/\vs=[]
 |p::ps,ds,vs=>∃d a v vr,ds=d::a/\vs=v::vr/\A1 Y p B U H Z T d v/\Ag B U H Z T ps a vr
end
section
variable{Y:Cm}{E:XK}{M:List Md}{B U H:Hp}{As:Nat->List Addr}{Z:St}{T:T0}
theorem A1.mono{p:Ap}{S J H':Hp}{d:D}{v:V}(h:A1 Y p B U H Z T d v)(g:Gw B U H S J H'):A1 Y p S J H' Z T d v:=by
 cases p with
 |F=>exact Dn.mono g.b h
 |U=>exact Dn.mono g.u h
 |X=>exact Dn.mono g.h h
 |O i=>exact h
 |Bo i=>exact h
def A1J(Y:Cm)(E:XK)(M:List Md)(p:Ap)(t:TE)(m:T0->Res D):Prop:=∀B U As Z H T Q,Rel Y M B U As Z H T->Po Y (λd v B U H _=>A1 Y p B U H Z T d v) E M B U As Z H T (m T) Q->t Z H Q
def AJ(Y:Cm)(E:XK)(M:List Md)(ps:List Ap)(t:TA)(m:T0->Res (List D)):Prop:=∀B U As Z H T Q,Rel Y M B U As Z H T->Po Y (λd v B U H _=>Ag Y B U H Z T ps d v) E M B U As Z H T (m T) Q->t Z H Q
theorem aF{t:TE}{m:T0->Res D}(h:PJ Y (KR Y .F) E M t m):A1J Y E M .F t m:=λB U As Z H T Q R P=>h B U As Z H T Q R P
theorem aU{t:TE}{m:T0->Res D}(h:PJ Y (KR Y .U) E M t m):A1J Y E M .U t m:=λB U As Z H T Q R P=>h B U As Z H T Q R P
theorem aX{t:TE}{m:T0->Res D}(h:PJ Y (KR Y .X) E M t m):A1J Y E M .X t m:=λB U As Z H T Q R P=>h B U As Z H T Q R P
theorem SK{i:Nat}{p:Ap}(hp:∀B U H Z T d v,rg Z i=some v->rg T i=some d->A1 Y p B U H Z T d v):A1J Y E M p (dF i) (vr i):=by
 intro B U As Z H T Q R P;unfold vr at P;have l:=R.lo i;cases e:rg T i with
 |none=>rw[e]at P;exact P.elim
 |some d=>
   rw[e]at P l;obtain⟨v,a,q⟩:=l;exact⟨v,cI a,P v B U H [] R (Gw.refl _ _ _) New.nil (hp _ _ _ _ _ _ _ a e)⟩
theorem aO{i:Nat}:A1J Y E M (.O i) (dF i) (vr i):=SK λ_ _ _ _ _ _ _ h k=>⟨h,k⟩
theorem aJ:AJ Y E M [] dW bq:=λB U As Z H T Q R P=>P [] B U H [] R (Gw.refl _ _ _) New.nil ⟨rfl,rfl⟩
theorem A1J.bnd{p:Ap}{O J:Type}{f:KT O J}{b:TE}{a:T0->Res D}(g:A1J Y E M p b a)(R:Rel Y M B U As Z H T){k:D->Res O}{Q:J->Hp->Prop}
 (P:Po Y f E M B U As Z H T ((a T).bind k) Q) {body:V->Hp->Prop}
 (h:∀x v I L H1,Rel Y M I L As Z H1 T->Gw B U H I L H1->A1 Y p I L H1 Z T x v->Po Y f E M I L As Z H1 T (k x) Q->body v H1):b Z H body:=by
 refine g B U As Z H T body R ?_;cases e:a T with
 |ok x=>
   rw[e]at P;exact λv I L H1 N i d j k1=>h x v I L H1 i d k1 (Po.at (r:=k x) P d)
 |exc c=>rw[e]at P;exact P
 |bad=>rw[e]at P;exact P
theorem AJ.bnd{ps:List Ap}{O J:Type}{f:KT O J}{b:TA}{a:T0->Res (List D)}(g:AJ Y E M ps b a)(R:Rel Y M B U As Z H T){k:List D->Res O}{Q:J->Hp->Prop}
 (P:Po Y f E M B U As Z H T ((a T).bind k) Q) {body:List V->Hp->Prop}
 (h:∀x v I L H1,Rel Y M I L As Z H1 T->Gw B U H I L H1->Ag Y I L H1 Z T ps x v->Po Y f E M I L As Z H1 T (k x) Q->body v H1):b Z H body:=by
 refine g B U As Z H T body R ?_;cases e:a T with
 |ok x=>
   rw[e]at P;exact λv I L H1 N i d j k1=>h x v I L H1 i d k1 (Po.at (r:=k x) P d)
 |exc c=>rw[e]at P;exact P
 |bad=>rw[e]at P;exact P
theorem ag{p:Ap}{ps:List Ap}{b:TE}{a:TA}{d:T0->Res D}{c:T0->Res (List D)}(f:A1J Y E M p b d)(e:AJ Y E M ps a c):AJ Y E M (p::ps) (b6 b a) (aA d c):=by
 intro B U As Z H T Q R P;refine f.bnd R P λx v I L H1 j n J W=>e.bnd j W λy u m i l R2 g h k=>?_;exact k (v::u) m i l [] R2 (Gw.refl _ _ _) New.nil ⟨x,y,v,u,rfl,rfl,J.mono g,h⟩
def vH(M:List Md)(pure:Bool):Ap->Md->Bool
 |.F,.F=>true
 |.F,.R=>true
 |.U,.R=>true
 |.X,.R=>pure
 |.Bo _,.R=>true
 |_,_=>false
theorem Ag.len:∀{ps:List Ap} {ds:List D} {vs:List V},Ag Y B U H Z T ps ds vs->ds.length=ps.length/\vs.length=ps.length
 |[],_,_,h=>by obtain⟨rfl,rfl⟩:=h;exact⟨rfl,rfl⟩
 | p::ps,_,_,h=>by
   obtain⟨d,a,v,vr,rfl,rfl,_,h⟩:=h
   have:=Ag.len h
   exact⟨by rw[Xp,Xp,this.1],by rw[Xp,Xp,this.2]⟩
theorem Ag.get:∀{ps:List Ap} {ds:List D} {vs:List V} {j:Nat} {p:Ap},Ag Y B U H Z T ps ds vs->ps[j]?=some p->∃d v,ds[j]?=some d/\vs[j]?=some v/\A1 Y p B U H Z T d v
 |[],_,_,_,_,_,e=>by cases e
 | p::ps,_,_,j,q,h,e=>by
   obtain⟨d,b,v,vr,rfl,rfl,a,h⟩:=h;cases j with
   |zero=>cases e;exact⟨d,v,rfl,rfl,a⟩
   |succ j=>exact Ag.get (j:=j) h (by simpa using e)
theorem fW{X:Type}{l:List X}{i:Nat}:rg (l.map some) i=l[i]?:=by
 unfold rg;rw[List.getElem?_map];cases l[i]?<;>rfl
theorem Rel.read(R:Rel Y M B U As Z H T){i:Nat}{d:D}{v:V}(a:rg Z i=some v)(hd:rg T i=some d):Dn Y H d v:=by
 have l:=R.lo i;rw[hd]at l;have q:=gY l a;cases e:M.getD i .F with
 |F=>rw[e]at q;exact Dn.mono R.bh q.1
 |R=>rw[e]at q;exact Dn.mono R.uh q.1
 |O s=>rw[e]at q;exact Ow.dn R.bh (λ_ _ _ q=>q) q
theorem A1.read(R:Rel Y M B U As Z H T){p:Ap}{d:D}{v:V}(h:A1 Y p B U H Z T d v):Dn Y H d v:=by
 cases p with
 |F=>exact Dn.mono R.bh h
 |U=>exact Dn.mono R.uh h
 |X=>exact h
 |O i=>exact R.read h.1 h.2
 |Bo i=>exact R.read h.1 h.2
def ov(B U:Hp):Hp:=λa=>match B a with|some o=>some o|none=>U a
theorem sG{f:List Md}{y:KT D V}{L:List D->Out D}{ps:List Ap}{ds:List D}{vs:List V}{Q:VK}(R:Rel Y M B U As Z H T)(A:Ag Y B U H Z T ps ds vs)(hl:ps.length=f.length)
 (hf:∀(j:Nat) p,ps[j]?=some p->vH M true p (f.getD j .F)=true) (hU:∀d v B U J H N,y d v B U H N->y d v B J H N) (P:Po Y y E M B U As Z H T (kQ L ds) Q):dX Y f y L vs H Q E:=by
 have n:=A.len
 have Rc:Rel Y f B H (λ_=>[]) (vs.map some) H (ds.map some):=by
  refine⟨R.bh,Same.refl _,λ_=>Yl,λ_ _ _ _ h=>(nomatch h),λ_ _ h=>(nomatch h),λj=>?_,by rw[on,on,n.1,n.2],R.tb⟩;rw[fW,fW];cases e:ps[j]? with
  |none=>
    have:ps.length<=j:=YK.mp e
    rw[XO (by omega)];rfl
  |some p=>
    obtain⟨d,v,ed,ev,t⟩:=A.get e;rw[ed,ev];refine⟨v,rfl,?_⟩;have hr:=A1.read R t;have q:=hf j p e;cases em:f.getD j .F with
    |F=>
      rw[em]at q;cases p with
      |F=>exact⟨t,rfl⟩
      |_=>cases q
    |R=>exact⟨hr,rfl⟩
    |O s=>rw[em]at q;cases p<;>cases q
 refine⟨B,H,λ_=>[],ds,Rc,by omega,?_⟩
 have m:∀{S J H':Hp} {G:Nat->List Addr} {x:T0},Rel Y f S J G (vs.map some) H' x->Ex B H S J->Rel Y M S (ov S U) As Z H' T/\Gw B U H S (ov S U) H':=λ{S J H' G x} l g=>by
  have same:∀a o,U a=some o->∀o',S a=some o'->o'=o:=λa o q o' w=>by
   have t:=g.u a o (R.uh a o q);have X:=l.bu a o' w;rw[t]at X;exact(XQ X).symm
  have W:Same U (ov S U):=λa o q=>by
   unfold ov;cases z:S a with
   |none=>exact q
   |some o'=>rw[same a o q o' z]
  have sh:Same H H':=g.u.trans l.uh
  have uh:Same (ov S U) H':=λa o q=>by
   unfold ov at q;cases z:S a with
   |none=>rw[z]at q;exact sh a o (R.uh a o q)
   |some o'=>rw[z]at q;cases q;exact l.bh a _ z
  have bu:Same S (ov S U):=λa o q=>by unfold ov;rw[q]
  have new:∀a o,S a=some o->B a=some o\/H a=none\/jR o:=g.nb;refine⟨R.grow g.b W sh bu uh λi a r=>?_,⟨g.b,W,λa o q=>?_⟩,sh,λa o q=>?_⟩
  · unfold ov;cases z:S a with
    |none=>exact R.un i a r
    |some o=>
      obtain⟨o',w⟩:=R.at r;rcases new a o z with q|q|q
      ·have:=R.bu a o q;rw[R.un i a r]at this;cases this
      ·rw[q]at w;cases w
      ·have e1:=sh _ _ w;rw[l.bh a o z]at e1;cases e1;exact(R.nt r w q).elim
  · rcases new a o q with q|q|q
    ·exact .inl q
    ·exact .inr (.inl (R.uh.free q))
    ·exact .inr (.inr q)
  · unfold ov at q;cases z:S a with
    |none=>rw[z]at q;exact .inl q
    |some o'=>
      rw[z]at q;cases q;rcases new a _ z with q|q
      ·exact .inl (R.bu a _ q)
      ·exact .inr q
 cases e:L ds with
 |ok d C=>
   unfold kQ at P;rw[e]at P;intro v S J G H' N l g I k;obtain⟨R2,K⟩:=m l g;refine P v S _ H' N R2 K ⟨I.nd,λa r=>g.u.free (I.un a r),λa r=>?_⟩ (hU d v S J (ov S U) H' N k);unfold ov;have t:=I.un a r;cases z:S a with
   |none=>exact R.uh.free (g.u.free t)
   |some o=>have:=l.bu a o z;rw[t]at this;cases this
 |exc c C=>
   unfold kQ at P;rw[e]at P;intro S J G H' l g;obtain⟨R2,K⟩:=m l g;exact P S _ H' R2 K
 |bad=>
   unfold kQ at P;rw[e]at P;exact P
theorem hF{d:D}{v:V}{B U J H:Hp}{N:List Addr}(h:KR Y .F d v B U H N):KR Y .F d v B J H N:=h
theorem hO{s:Sh}{d:D}{v:V}{B U J H:Hp}{N:List Addr}(h:KO Y s d v B U H N):KO Y s d v B J H N:=h
theorem Hr{a:List Md}{b:KT D V}{c:List D->Out D}{ps:List Ap}{t:TA}{m:T0->Res (List D)}(h:AJ Y E M ps t m)(e:ps.length=a.length)
 (f:∀(j:Nat) p,ps[j]?=some p->vH M true p (a.getD j .F)=true) (g:∀d v B U J H N,b d v B U H N->b d v B J H N):PJ Y b E M (tO (dX Y a b c) [] E t) (λT=>(m T).bind (kQ c)):=by
 intro B U As Z H T Q R P;refine h.bnd R P λds vs I L H1 i k A W=>?_;rw[XZ];exact sG i A e f g W
def eh(c:Nat)(m:Str):D->Bool
 |.obj a ns _=>decide (a=c)&&!ns.contains m
 |_=>false
theorem oV{m:Str}:∀{fs:List (Str×V)},(fs.map (·.1)).contains m=false->fs.lookup m=none
 |[],_=>rfl
 | p::fs,h=>by
   rw[Xm,List.contains_cons,Bool.or_eq_false_iff]at h;rw[X7,h.1];exact oV h.2
theorem t4{c:Nat}{m:Str}{d:D}{v:V}(h:eh c m d=true)(hd:Dn Y H d v):∃a dx fs,v=.ref a/\H a=some (.ins (Y c) dx fs)/\fs.lookup m=none:=by
 cases d with
 |obj g ns ds=>
   have h:(decide (g=c)&&!ns.contains m)=true:=h;rw[YF]at h;have e:=Yy h.1;subst e;rw[Dn]at hd;obtain⟨a,dx,fs,r,f,b,_⟩:=hd;refine⟨a,dx,fs,r,f,oV ?_⟩;rw[b];simpa using h.2
 |_=>cases h
theorem Hk{c:Nat}{f:Str}{b:List Md}{e:KT D V}{k:List D->Out D}{p:Ap}{ps:List Ap}{g:TE}{i:T0->Res D}{t:TA}{m:T0->Res (List D)}(u:A1J Y E M p g i)(h:AJ Y E M ps t m)(r:(p::ps).length=b.length)
 (s:∀(j:Nat) q,(p::ps)[j]?=some q->vH M true q (b.getD j .F)=true) (w:∀d v B U J H N,e d v B U H N->e d v B J H N):
 PJ Y e E M (qb (Y c) f (dX Y b e k) [] E g t) (λT=>(i T).bind λo=>if eh c f o=true then (m T).bind λds=>kQ k (o::ds) else .bad):=by
 intro B U As Z H T Q R P;refine u.bnd R P λo v I L H1 n K l W=>?_;by_cases z:eh c f o=true
 ·rw[Xl z]at W;obtain⟨a,dx,fs,rfl,y,x⟩:=t4 z (A1.read n l);refine⟨a,dx,fs,rfl,y,x,h.bnd n W λds vs X O S R2 C A G=>?_⟩;rw[XZ];exact sG (ps:=p::ps) (ds:=o::ds) R2 ⟨o,ds,_,vs,rfl,rfl,l.mono C,A⟩ r s w G
 ·rw[Xj z]at W;exact W.elim
end
section
variable{Y:Cm}{E:XK}{M:List Md}{B U H:Hp}{As:Nat->List Addr}{Z:St}{T:T0}
def kc:List Ap->Nat->Option Nat
 |[],_=>none
 |p::r,i=>if p= .O i then some 0 else (kc r i).map (·+1)
theorem iX:∀{ps:List Ap} {i j:Nat},kc ps i=some j->ps[j]?=some (.O i)
 |[],_,_,h=>by cases h
 | p::r,i,j,h=>by
   unfold kc at h;by_cases e:p= .O i
   ·rw[Xl e]at h;cases h;rw[e];rfl
   ·rw[Xj e]at h;obtain⟨k,a,rfl⟩:=XR.mp h;rw[YR];exact iX a
def kq:List Ap->List Nat
 |[]=>[]
 |.O i::r=>i::kq r
 |_::r=>kq r
def Fn:List Ap->List Nat
 |[]=>[]
 |.Bo i::r=>i::Fn r
 |_::r=>Fn r
theorem ko:∀{ps:List Ap} {i j:Nat},ps[j]?=some (.O i)->i∈kq ps
 |[],_,_,h=>by cases h
 | p::r,i,j,h=>by
   cases j with
   |zero=>cases h;exact Xk
   |succ j=>
     have:=ko (ps:=r) (j:=j) (by simpa using h)
     cases p <;> first | exact this | exact no _ this
theorem qL:∀{ps:List Ap} {i:Nat},i∈kq ps->∃j,kc ps i=some j
 |[],_,h=>by cases h
 | p::r,i,h=>by
   unfold kc;by_cases e:p= .O i
   ·exact⟨0,by rw[Xl e]⟩
   · rw[Xj e]
     have:i∈kq r:=by
      cases p with
      |O k=>
        rcases Xv.mp h with z|z
        ·exact absurd (by rw[z]) e
        ·exact z
      |_=>exact h
     obtain⟨j,a⟩:=qL this;exact⟨j+1,by rw[a];rfl⟩
theorem xM:∀{ps:List Ap} {i j:Nat},ps[j]?=some (.Bo i)->i∈Fn ps
 |[],_,_,h=>by cases h
 | p::r,i,j,h=>by
   cases j with
   |zero=>cases h;exact Xk
   |succ j=>
     have:=xM (ps:=r) (j:=j) (by simpa using h)
     cases p <;> first | exact this | exact no _ this
theorem t6:∀{ps:List Ap} {i j k:Nat},(kq ps).Nodup->ps[j]?=some (.O i)->ps[k]?=some (.O i)->j=k
 |[],_,_,_,_,h,_=>by cases h
 | p::r,i,j,k,nd,c,b=>by
   cases j with
   |zero=>
     cases k with
     |zero=>rfl
     |succ k=>
       cases c;exact absurd (ko (ps:=r) (j:=k) (by simpa using b)) (XH.mp nd).1
   |succ j=>
     cases k with
     |zero=>
       cases b;exact absurd (ko (ps:=r) (j:=j) (by simpa using c)) (XH.mp nd).1
     |succ k=>
       have a:(kq r).Nodup:=by
        cases p with
        |O x=>exact(XH.mp nd).2
        |_=>exact nd
       rw[t6 a (j:=j) (k:=k) (by simpa using c) (by simpa using b)]
theorem lQ:∀{ps:List Ap} {j:Nat} {a T:T0},(ic ps j a T).length=T.length
 |[],_,_,_=>rfl
 | p::r,j,a,T=>by
   cases p with
   |O i=>rw[ic,lQ,Yc]
   |F=>rw[ic,lQ];all_goals simp
   |U=>rw[ic,lQ];all_goals simp
   |X=>rw[ic,lQ];all_goals simp
   |Bo i=>rw[ic,lQ];all_goals simp
theorem uM:∀{ps:List Ap} {b:Nat} {a T:T0} {i:Nat},(kq ps).Nodup->i<T.length->rg (ic ps b a T) i=match kc ps i with|some j=>rg a (b+j)|none=>rg T i
 |[],_,_,_,_,_,_=>rfl
 | p::r,b,a,T,i,nd,hi=>by
   have step:∀C:T0,C.length=T.length->(kq r).Nodup->(p≠ .O i)->rg C i=rg T i->rg (ic r (b+1) a C) i=match kc (p::r) i with|some j=>rg a (b+j)|none=>rg T i:=λC g d hp e=>by
    rw[uM d (by rw[g];exact hi),kc,Xj hp];cases kc r i with
    |none=>exact e
    |some j=>
      show rg a (b+1+j)=rg a (b+(j+1));rw[show b+1+j=b+(j+1) by omega]
   cases p with
   |O k=>
     rw[ic];by_cases e:k=i
     · subst e
       have f:kc r k=none:=by
        cases q:kc r k with
        |none=>rfl
        |some j=>exact absurd (ko (iX q)) (XH.mp nd).1
       rw[uM (XH.mp nd).2 (by rw[Yc];exact hi),f,kc,Xl rfl,gU,Xl ⟨rfl,hi⟩];rfl
     ·exact step _ (Yc ..) (XH.mp nd).2 (λz=>e (by cases z;rfl)) (by rw[gU,Xj λz=>e z.1])
   |F=>rw[ic];exact step T rfl nd (λz=>by cases z) rfl;all_goals simp
   |U=>rw[ic];exact step T rfl nd (λz=>by cases z) rfl;all_goals simp
   |X=>rw[ic];exact step T rfl nd (λz=>by cases z) rfl;all_goals simp
   |Bo k=>rw[ic];exact step T rfl nd (λz=>by cases z) rfl;all_goals simp
def Vm(M:List Md):Ap->Md->Prop
 |.F,.F=>True
 |.F,.R=>True
 |.U,.R=>True
 |.Bo _,.R=>True
 |.O i,.O s=>M.getD i .F= .O s
 |_,_=>False
def fitM(M:List Md):List Ap->List Md->Prop
 |[],[]=>True
 |p::ps,m::r=>Vm M p m/\fitM M ps r
 |_,_=>False
theorem fitM.len:∀{ps:List Ap} {mc:List Md},fitM M ps mc->ps.length=mc.length
 |[],[],_=>rfl
 |[],_::_,h=>h.elim
 |_::_,[],h=>h.elim
 |p::ps,m::r,h=>by rw[Xp,Xp,fitM.len h.2]
theorem fitM.get:∀{ps:List Ap} {mc:List Md} {j:Nat} {p:Ap},fitM M ps mc->ps[j]?=some p->Vm M p (mc.getD j .F)
 |[],_,_,_,_,e=>by cases e
 |_::_,[],_,_,h,_=>h.elim
 | p::ps,m::r,j,q,h,e=>by
   cases j with
   |zero=>cases e;exact h.1
   |succ j=>rw[YB];exact fitM.get (j:=j) h.2 (by simpa using e)
theorem oo{mc:List Md}{a:T0}{j:Nat}{s:Sh}(h:mc.getD j .F= .O s):rg (ip mc a) j=rg a j:=by
 have b:j<mc.length:=by
  by_cases z:j<mc.length
  ·exact z
  ·rw[Xx,XO (by omega)]at h;cases h
 unfold ip;show((((List.range mc.length).map _)[j]?).join)=_;rw[List.getElem?_map,List.getElem?_range b];show(some (match mc.getD j .F with | .O _=>rg a j|_=>none)).join=_;rw[h];rfl
open Classical in
theorem K6{g:List Md}{Kr:KT D V}{fm:List D->Out D}{ps:List Ap}{ds:List D}{vs:List V}{Q:VK}(R:Rel Y M B U As Z H T)(A:Ag Y B U H Z T ps ds vs)(hf:fitM M ps g)(hd:(kq ps).Nodup)
 (hb:∀i∈Fn ps,i∉kq ps) (hU:∀d v B U J H N,Kr d v B U H N->Kr d v B J H N) (P:Mo Y Kr E M B U Z (je ps fm ds T) Q):dX Y g Kr fm vs H Q E:=by
 have hlen:=A.len;have hl:=hf.len
 have K:∀{i j:Nat},ps[j]?=some (.O i)->∃d v s,ds[j]?=some d/\vs[j]?=some v/\rg Z i=some v/\rg T i=some d/\g.getD j .F= .O s/\M.getD i .F= .O s:=λ{i j} e=>by
  obtain⟨d,v,ed,ev,r⟩:=A.get e;have q:=hf.get e;cases y:g.getD j .F with
  |O s=>rw[y]at q;exact⟨d,v,s,ed,ev,r.1,r.2,rfl,q⟩
  |F=>rw[y]at q;exact q.elim
  |R=>rw[y]at q;exact q.elim
 have FPd:∃Uc:Hp,(∀a,(∃j i:Nat,ps[j]?=some (.O i)/\a∈As i)->Uc a=none)/\(∀a,(¬ ∃j i:Nat,ps[j]?=some (.O i)/\a∈As i)->Uc a=H a):=
  ⟨λa=>if (∃j i:Nat,ps[j]?=some (.O i)/\a∈As i) then none else H a,λa h=>Xl h,λa h=>Xj h⟩
 obtain⟨Uc,uc1,uc2⟩:=FPd
 have notFP:∀{a o},U a=some o->¬ ∃j i:Nat,ps[j]?=some (.O i)/\a∈As i:=λ{a o} q ⟨j,i,_,f⟩=>by
  rw[R.un i a f]at q;cases q
 have m:Same U Uc:=λa o q=>by rw[uc2 a (notFP q)];exact R.uh a o q
 have ucH:Same Uc H:=λa o q=>by
  by_cases z:∃j i:Nat,ps[j]?=some (.O i)/\a∈As i
  ·rw[uc1 a z]at q;cases q
  ·rw[uc2 a z]at q;exact q
 -- what is owned and not kq
 have other:∀{i a},i∉kq ps->a∈As i->∃o,Uc a=some o/\H a=some o:=λ{i a} hi f=>by
  obtain⟨o,q⟩:=R.at f;refine⟨o,?_,q⟩;rw[uc2 a]
  ·exact q
  · rintro⟨j,k,ek,x⟩;by_cases e:k=i
    ·subst e;exact hi (ko ek)
    ·exact R.dj k i a e x f
 have Rc:Rel Y g B Uc (λj=>match ps[j]? with|some (.O i)=>As i|_=>[]) (vs.map some) H (ds.map some):=by
  refine⟨R.bu.trans m,ucH,λj=>?_,λj k a hne f x=>?_,λj a f=>?_,λj=>?_,by rw[on,on,hlen.1,hlen.2],R.tb⟩
  · try dsimp only
    split
    ·exact R.nd _
    ·exact Yl
  · try dsimp only at f x
    split at f
    · rename_i i e1;split at x
      · rename_i i' e2;by_cases e:i=i'
        ·subst e;exact hne (t6 hd e1 e2)
        ·exact R.dj i i' a e f x
      ·cases x
    ·cases f
  · try dsimp only at f
    split at f
    ·rename_i i e1;exact uc1 a ⟨j,i,e1,f⟩
    ·cases f
  · rw[fW,fW];cases e:ps[j]? with
    |none=>
      have:ps.length<=j:=YK.mp e
      rw[XO (by omega)];rfl
    |some p=>
      obtain⟨d,v,ed,ev,r⟩:=A.get e;rw[ed,ev];refine⟨v,rfl,?_⟩;have q:=hf.get e;cases p with
      |F=>
        have r:Dn Y B d v:=r;cases y:g.getD j .F with
        |F=>exact⟨r,rfl⟩
        |R=>exact⟨Dn.mono (R.bu.trans m) r,rfl⟩
        |O s=>rw[y]at q;exact q.elim
      |U=>
        have r:Dn Y U d v:=r;cases y:g.getD j .F with
        |F=>rw[y]at q;exact q.elim
        |R=>exact⟨Dn.mono m r,rfl⟩
        |O s=>rw[y]at q;exact q.elim
      |X=>cases y:g.getD j .F<;>(rw[y]at q;exact q.elim)
      |Bo i=>
        cases y:g.getD j .F with
        |F=>rw[y]at q;exact q.elim
        |O s=>rw[y]at q;exact q.elim
        |R=>
          refine⟨?_,rfl⟩;have l:=R.lo i;rw[r.2]at l;have w:=gY l r.1;cases e2:M.getD i .F with
          |F=>rw[e2]at w;exact Dn.mono (R.bu.trans m) w.1
          |R=>rw[e2]at w;exact Dn.mono m w.1
          |O s=>
            rw[e2]at w;refine Ow.dn (R.bu.trans m) (λa f o q=>?_) w;obtain⟨o',q1,q2⟩:=other (hb i (xM e)) f;rw[q2]at q;cases q;exact q1
      |O i=>
        obtain⟨d',v',s,ed',ev',L,h3,h4,h5⟩:=K e;rw[h4];have l:=R.lo i;rw[r.2,h5]at l;exact gY l r.1
 refine⟨B,Uc,_,ds,Rc,by omega,?_⟩
 have main:∀{S J H':Hp} {G:Nat->List Addr} {W:T0},Rel Y g S J G (vs.map some) H' (ip g W)->Ex B Uc S J->
  Rel Y M S (ov S U) (λi=>match kc ps i with|some j=>G j|none=>As i) Z H' (ic ps 0 W T)/\Ex B U S (ov S U)/\∀N,NewM N J G->NewM N (ov S U) (λi=>match kc ps i with|some j=>G j|none=>As i):=λ{S J H' G W} t I=>by
  have su:Same U (ov S U):=λa o q=>by
   unfold ov;cases z:S a with
   |none=>exact q
   |some o'=>
     have r:=I.u a o (m a o q);have L:=t.bu a o' z;rw[r]at L;cases L;rfl
  have uh:Same (ov S U) H':=λa o q=>by
   unfold ov at q;cases z:S a with
   |none=>rw[z]at q;exact t.uh a o (I.u a o (m a o q))
   |some o'=>rw[z]at q;cases q;exact t.bh a _ z
  have bu:Same S (ov S U):=λa o q=>by unfold ov;rw[q]
  have free:∀{a},J a=none->ov S U a=none:=λ{a} h=>by
   unfold ov;cases z:S a with
   |none=>exact m.free (I.u.free h)
   |some o=>have:=t.bu a o z;rw[h]at this;cases this
  have there:∀{i a},kc ps i=none->a∈As i->∃o,J a=some o/\H a=some o/\H' a=some o:=λ{i a} hi f=>by
   obtain⟨o,q1,q2⟩:=other (λz=>by obtain⟨j,hj⟩:=qL z;rw[hi]at hj;cases hj) f;exact⟨o,I.u a o q1,q2,t.uh a o (I.u a o q1)⟩
  refine⟨⟨bu,uh,λi=>?_,λi k a hne f x=>?_,λi a f=>?_,λi=>?_,by rw[lQ];exact R.len,t.tb⟩,⟨I.b,su,λa o q=>?_⟩,λN n=>⟨n.nd,λa f=>free (n.un a f),λa f i=>?_⟩⟩
  · try dsimp only
    split
    ·exact t.nd _
    ·exact R.nd _
  · try dsimp only at f x
    split at f
    · rename_i j ej;split at x
      ·rename_i j' ej';refine t.dj j j' a (λz=>hne ?_) f x;subst z;have r:=iX ej;have L:=iX ej';rw[r]at L;cases L;rfl
      ·rename_i ek;obtain⟨o,q,_⟩:=there ek x;rw[t.un j a f]at q;cases q
    · rename_i ei;obtain⟨o,q,_⟩:=there ei f;split at x
      ·rename_i j' ej';rw[t.un j' a x]at q;cases q
      ·exact R.dj i k a hne f x
  · try dsimp only at f
    split at f
    ·rename_i j ej;exact free (t.un j a f)
    · rename_i ei;obtain⟨o,q,_⟩:=there ei f;unfold ov;cases z:S a with
      |none=>exact R.un i a f
      |some o'=>
        rcases I.nb a o' z with w|w|w
        ·have:=R.bu a o' w;rw[R.un i a f]at this;cases this
        ·obtain⟨o2,q1,q2⟩:=other (λz=>by obtain⟨j,hj⟩:=qL z;rw[ei]at hj;cases hj) f;rw[w]at q1;cases q1
        ·obtain⟨o2,_,q2,q3⟩:=there ei f;rw[t.bh a o' z]at q3;cases q3;exact(R.nt f q2 w).elim
  · try dsimp only
    cases ep:kc ps i with
    |some j=>
      obtain⟨d,v,s,ed,ev,L,h3,h4,h5⟩:=K (iX ep)
      have hi:i<T.length:=by
       have:=cI h3
       exact(XF.mp this).1
      rw[uM hd hi,ep]
      try dsimp only
      have l:=t.lo j;rw[oo h4,fW,ev,h4]at l;rw[L,h5,Nat.zero_add];exact l
    |none=>
      try dsimp only
      by_cases hi:i<T.length
      ·rw[uM hd hi,ep];refine(R.lo i).mono I.b su λa f=>?_;obtain⟨o,_,q1,q2⟩:=there ep f;rw[q1,q2]
      · have r:rg (ic ps 0 W T) i=none:=by
         unfold rg;rw[List.getElem?_eq_none (by rw[lQ];omega)];rfl
        have L:rg T i=none:=by
         unfold rg;rw[List.getElem?_eq_none (by omega)];rfl
        have l:=R.lo i;rw[L]at l;rw[r];exact l
  · rcases I.nb a o q with w|w|w
    ·exact .inl w
    ·exact .inr (.inl (m.free w))
    ·exact .inr (.inr w)
  · try dsimp only
    cases ep:kc ps i with
    |some j=>exact n.ap a f j
    |none=>
      intro z;obtain⟨o,q,_⟩:=there ep z;rw[n.un a f]at q;cases q
 cases e:fm ds with
 |ok d C=>
   unfold je at P;rw[e]at P;intro v S J G H' N t I n' k;obtain⟨R2,e2,n2⟩:=main t I;exact P v S _ _ H' N R2 e2 (n2 N n') (hU d v S J (ov S U) H' N k)
 |exc c C=>
   unfold je at P;rw[e]at P;intro S J G H' t I;obtain⟨R2,e2,n2⟩:=main t I;exact P S _ _ H' R2 e2
 |bad=>
   unfold je at P;rw[e]at P;exact P
end
def lI(c:Nat)(a:List D->Out D)(ds:List D):Res D:=match a (.obj c [] []::ds) with
 |.ok .non C=>(match rg C 0 with|some d=>.ok d|none=>.bad)
 |.ok _ _=>.bad
 |.exc c _=>.exc c
 |.bad=>.bad
section
variable{Y:Cm}{E:XK}{M:List Md}{B U H:Hp}{As:Nat->List Addr}{Z:St}{T:T0}{K:L0}
theorem Rf{c:Nat}{g:Str}{f:List Md}{b:KT D V}{j:List D->Out D}{p:Ap}{ps:List Ap}{u:TE}{k:T0->Res D}{t:TA}{m:T0->Res (List D)}(K:A1J Y E M p u k)(h:AJ Y E M ps t m)(F:fitM M (p::ps) f)(hd:(kq (p::ps)).Nodup)
 (G:∀i∈Fn (p::ps),i∉kq (p::ps)) (O:∀d v B U J H N,b d v B U H N->b d v B J H N):
 MJ Y b E M (qb (Y c) g (dX Y f b j) [] E u t) (λT=>((k T).up T).bind λo T=>if eh c g o=true then ((m T).up T).bind λds T=>je (p::ps) j (o::ds) T else .bad):=by
 intro B U As Z H T Q R P;replace P:Mo Y b E M B U Z (((k T).up T).bind λo T=>if eh c g o=true then ((m T).up T).bind λds T=>je (p::ps) j (o::ds) T else .bad) Q:=P;refine K B U As Z H T _ R ?_;cases e:k T with
 |ok o=>
   rw[e]at P;intro v I L H1 N q n n1 w;replace P:Mo Y b E M B U Z (if eh c g o=true then ((m T).up T).bind λds T=>je (p::ps) j (o::ds) T else .bad) Q:=P;by_cases z:eh c g o=true
   · rw[Xl z]at P;obtain⟨a,dx,fs,rfl,W,S⟩:=t4 z (A1.read q w);refine⟨a,dx,fs,rfl,W,S,h I L As Z H1 T _ q ?_⟩;cases s:m T with
     |ok ds=>
       rw[s]at P;intro vs C x y N2 R2 l X A;rw[XZ];exact K6 (ps:=p::ps) (ds:=o::ds) R2 ⟨o,ds,_,vs,rfl,rfl,w.mono l,A⟩ F hd G O (Mo.at (r:=je (p::ps) j (o::ds) T) P (n.toEx.trans l.toEx))
     |exc c=>rw[s]at P;exact λC x y R2 l=>P C x As y R2 (n.toEx.trans l.toEx)
     |bad=>rw[s]at P;exact P
   ·rw[Xj z]at P;exact P.elim
 |exc c=>rw[e]at P;exact λI L H1 q n=>P I L As H1 q n.toEx
 |bad=>rw[e]at P;exact P
theorem MB{c:Nat}{sh:List (Str×Sh)}{f:List Md}{fm:List D->Out D}{ps:List Ap}{ds:List D}{vs:List V}{Q:VK}(R:Rel Y M B U As Z H T)(A:Ag Y B U H Z T ps ds vs)(hl:ps.length+1=f.length)(h0:f.getD 0 .F= .O (.ob sh))
 (hf:∀(j:Nat) p,ps[j]?=some p->vH M true p (f.getD (j+1) .F)=true) (P:Po Y (KO Y (.ob sh)) E M B U As Z H T (lI c fm ds) Q) (x dx:Addr) (hx:H x=none) (hdx:H dx=none) (hne:dx≠x):
 dX Y f (KR Y .F) fm (.ref x::vs) (upd (upd H dx (.own x)) x (.ins (Y c) dx [])) (λv H2=>v=.non/\Q (.ref x) H2) E:=by
 have K:=A.len;have sH:Same H (upd (upd H dx (.own x)) x (.ins (Y c) dx [])):=Gd.xa hx (Gd.ci hdx);have hUc:∃y:Hp,y x=none/\∀a,a≠x->y a=upd (upd H dx (.own x)) x (.ins (Y c) dx []) a:=⟨λa=>if a=x then none else upd (upd H dx (.own x)) x (.ins (Y c) dx []) a,Xl rfl,λa h=>Xj h⟩;obtain⟨y,u1,u2⟩:=hUc;have n:Same H y:=λa o q=>by rw[u2 a (bE q hx)];exact sH a o q
 have ucH:Same y (upd (upd H dx (.own x)) x (.ins (Y c) dx [])):=λa o q=>by
  by_cases z:a=x
  ·subst z;rw[u1]at q;cases q
  ·rw[u2 a z]at q;exact q
 have r:∀{a},y a=none->H a=none:=λh=>n.free h
 have Rc:Rel Y f B y (λj=>match j with|0=>[x]|_+1=>[]) ((.ref x::vs).map some) (upd (upd H dx (.own x)) x (.ins (Y c) dx [])) ((.obj c [] []::ds).map some):=by
  refine⟨R.bh.trans n,ucH,λj=>?_,λj k a W g hk=>?_,λj a g=>?_,λj=>?_,by rw[on,on,Xp,Xp,K.1,K.2],R.tb⟩
  · cases j with
    |zero=>simp
    |succ j=>exact Yl
  · cases j with
    |zero=>
      cases k with
      |zero=>exact W rfl
      |succ k=>cases hk
    |succ j=>cases g
  · cases j with
    |zero=>rw[Xz.mp g];exact u1
    |succ j=>cases g
  · rw[fW,fW];cases j with
    |zero=>
      rw[h0];refine⟨.ref x,rfl,?_⟩;show Ow Y B _ (.obj c [] []) (.ob sh) (.ref x) [x];rw[Ow];exact⟨x,dx,[],[],rfl,bj,rfl,rfl,by rw[Owf];exact⟨rfl,rfl⟩⟩
    |succ j=>
      rw[YR,YR];cases e:ps[j]? with
      |none=>
        have:ps.length<=j:=YK.mp e
        rw[XO (by omega)];rfl
      |some p=>
        obtain⟨d,v,ed,ev,h1⟩:=A.get e;rw[ed,ev];refine⟨v,rfl,?_⟩;have hr:=A1.read R h1;have q:=hf j p e;cases em:f.getD (j+1) .F with
        |F=>
          rw[em]at q;cases p with
          |F=>exact⟨h1,rfl⟩
          |_=>cases q
        |R=>exact⟨Dn.mono n hr,rfl⟩
        |O s=>rw[em]at q;cases p<;>cases q
 refine⟨B,y,_,.obj c [] []::ds,Rc,by rw[Xp];omega,?_⟩
 have I:∀{S J H':Hp} {G:Nat->List Addr} {L:T0},Rel Y f S J G ((.ref x::vs).map some) H' L->Ex B y S J->Rel Y M S (ov S U) As Z H' T/\Gw B U H S (ov S U) H'/\∀a,J a=none->ov S U a=none:=λ{S J H' G L} m t=>by
  have sU:Same U J:=(R.uh.trans n).trans t.u
  have su:Same U (ov S U):=λa o q=>by
   unfold ov;cases z:S a with
   |none=>exact q
   |some o'=>
     have h1:=sU a o q;have h2:=m.bu a o' z;rw[h1]at h2;cases h2;rfl
  have sh:Same H H':=(n.trans t.u).trans m.uh
  have uh:Same (ov S U) H':=λa o q=>by
   unfold ov at q;cases z:S a with
   |none=>rw[z]at q;exact sh a o (R.uh a o q)
   |some o'=>rw[z]at q;cases q;exact m.bh a _ z
  have bu:Same S (ov S U):=λa o q=>by unfold ov;rw[q]
  have new:∀a o,S a=some o->B a=some o\/H a=none\/jR o:=λa o q=>(t.nb a o q).imp id λz=>z.imp r id;refine⟨R.grow t.b su sh bu uh λi a g=>?_,⟨⟨t.b,su,λa o q=>?_⟩,sh,λa o q=>?_⟩,λa h=>?_⟩
  · unfold ov;cases z:S a with
    |none=>exact R.un i a g
    |some o=>
      obtain⟨o',q'⟩:=R.at g;rcases new a o z with q|q|q
      ·have:=R.bu a o q;rw[R.un i a g]at this;cases this
      ·rw[q]at q';cases q'
      ·have e1:=sh _ _ q';rw[m.bh a o z]at e1;cases e1;exact(R.nt g q' q).elim
  · rcases new a o q with q|q|q
    ·exact .inl q
    ·exact .inr (.inl (R.uh.free q))
    ·exact .inr (.inr q)
  · unfold ov at q;cases z:S a with
    |none=>rw[z]at q;exact .inl q
    |some o'=>
      rw[z]at q;cases q;rcases new a _ z with q|q
      ·exact .inl (R.bu a _ q)
      ·exact .inr q
  · unfold ov;cases z:S a with
    |none=>exact sU.free h
    |some o=>have:=m.bu a o z;rw[h]at this;cases this
 unfold lI at P;cases e:fm (.obj c [] []::ds) with
 |ok d C=>
   rw[e]at P;intro v S J G H' N m t n' k;obtain⟨R2,g2,X⟩:=I m t;cases d with
   |non=>
     have k:Dn Y S .non v:=k;rw[Dn]at k;refine⟨k,?_⟩;replace P:Po Y (KO Y (.ob sh)) E M B U As Z H T (match rg C 0 with|some d=>.ok d|none=>.bad) Q:=P;have l:=m.lo 0;rw[oo h0,h0]at l;cases e0:rg C 0 with
     |none=>rw[e0]at P;exact P.elim
     |some d=>
       rw[e0]at P l;have w:=gY l (v:=.ref x) rfl;exact P (.ref x) S _ H' (G 0) R2 g2 ⟨m.nd 0,λa g=>r (t.u.free (m.un 0 a g)),λa g=>X a (m.un 0 a g)⟩ w
   |_=>exact P.elim
 |exc c' C=>
   rw[e]at P;intro S J G H' m t;obtain⟨R2,g2,X⟩:=I m t;exact P S _ H' R2 g2
 |bad=>rw[e]at P;exact P
theorem Qc{c:Nat}{sh:List (Str×Sh)}{a:List Md}{e:List D->Out D}{ps:List Ap}{t:TA}{m:T0->Res (List D)}(h:AJ Y E M ps t m)(g:ps.length+1=a.length)(h0:a.getD 0 .F= .O (.ob sh))
 (i:∀(j:Nat) p,ps[j]?=some p->vH M true p (a.getD (j+1) .F)=true):PJ Y (KO Y (.ob sh)) E M (FJ (Y c) (dX Y a (KR Y .F) e) [] E t) (λT=>(m T).bind (lI c e)):=by
 intro B U As Z H T Q R P;refine h.bnd R P λds vs I L H1 k l A W=>?_;intro x dx f d b;rw[XZ];exact MB k A g h0 i W x dx f d b
structure Pth (Y:Cm) (M:List Md) (t:TE) (get:T0->Option D) (set:T0->D->T0):Prop where
 rd:∀{B U:Hp} {As:Nat->List Addr} {Z:St} {H:Hp} {T:T0} {d:D},Rel Y M B U As Z H T->get T=some d->∃v A,(∀Q:VK,Q v H->t Z H Q)/\Ow Y B H d (.ct .fz) v A/\(∀a∈A,∃i,a∈As i)/\
  ∀I L H1,Rel Y M I L As Z H1 T->Same B I->Same H H1->∀a∈A,∀o' d',Ow Y I (upd H1 a o') d' (.ct .fz) v A->Rel Y M I L As Z (upd H1 a o') (set T d')
theorem Rel.mut(R:Rel Y M B U As Z H T){i:Nat}{a:Addr}{o':HO}{d d':D}{v:V}{sh:Sh}(g:M.getD i .F= .O sh)(f:rg Z i=some v)(hd:rg T i=some d)(c:a∈As i)(w:Ow Y B (upd H a o') d' sh v (As i)):
 Rel Y M B U As Z (upd H a o') (T.set i (some d')):=by
 have hi:i<T.length:=(XF.mp (cI hd)).1;refine⟨R.bu,λb u q=>?_,R.nd,R.dj,R.un,λj=>?_,by rw[Yc];exact R.len,R.tb⟩
 ·rw[a7 (bE q (R.un i a c))];exact R.uh b u q
 · rw[gU];by_cases e:i=j
   ·subst e;rw[Xl ⟨rfl,hi⟩,g];exact⟨v,f,w⟩
   ·rw[Xj λz=>e z.1];exact(R.lo j).mono (Same.refl _) (Same.refl _) λb h=>a7 (λz:b=a=>R.dj i j a e c (z▸h))
def gb(i:Nat):T0->Option D:=λT=>rg T i
def eC(i:Nat):T0->D->T0:=λT d=>T.set i (some d)
theorem lu{i:Nat}(f:M.getD i .F= .O (.ct .fz)):Pth Y M (dF i) (gb i) (eC i) where
 rd:=λ{B U As Z H T d} R e=>by
  replace e:rg T i=some d:=e;have l:=R.lo i;rw[e,f]at l;obtain⟨v,c,w⟩:=l;exact⟨v,As i,λQ q=>⟨v,cI c,q⟩,w,λa b=>⟨i,b⟩,λI L H1 h _ _ a b o' d' g=>h.mut f c e b g⟩
theorem Owf.upd{sh:List (Str×Sh)}{f:Str}{B H:Hp}:∀{fs:List (Str×V)} {ds:List D} {A:List Addr} {d:D},Owf Y B H ds (fs.map (·.1)) sh (fs.map (·.2)) A->A.Nodup->dP (fs.map (·.1)) ds f=some d->
 ∃v A1,fs.lookup f=some v/\Ow Y B H d ((sh.lookup f).getD .fz) v A1/\(∀a∈A1,a∈A)/\∀I H1 d',Same B I->(∀b∈A,b∉A1->H1 b=H b)->Ow Y I H1 d' ((sh.lookup f).getD .fz) v A1->Owf Y I H1 (ik (fs.map (·.1)) ds f d') (fs.map (·.1)) sh (fs.map (·.2)) A
 |[],ds,A,d,h,nd,e=>by cases ds<;>cases e
 | p::fs,ds,A,d,h,nd,e=>by
   cases ds with
   |nil=>cases e
   |cons d0 ds=>
     rw[List.map_cons,List.map_cons,Owf]at h;obtain⟨n,E,x,r,s,y,J,h0,K,o,u⟩:=h;cases J;cases h0;subst K;obtain⟨F,j,g⟩:=List.nodup_append.mp nd;rw[List.map_cons]at e;unfold dP at e;by_cases q:p.1=f
     ·rw[Xl q]at e;cases e;rw[q]at o;refine⟨p.2,s,by rw[X7,<-q,YQ],o,λa m=>XA _ m,λI H1 d' i k w=>?_⟩;rw[Xm,Xm,ik,Xl q,Owf];exact⟨p.1,_,p.2,_,s,y,rfl,rfl,rfl,by rw[q];exact w,Owf.mono i (λb c=>k b (Xr _ c) λz=>g b z b c rfl) u⟩
     ·rw[Xj q]at e;obtain⟨v,A1,G,C,t,L⟩:=Owf.upd u j e;have c:(f==p.1)=false:=Yd.mpr λz=>q z.symm;refine⟨v,A1,by rw[X7,c];exact G,C,λa m=>Xr _ (t a m),λI H1 d' i k w=>?_⟩;rw[Xm,Xm,ik,Xj q,Owf];exact⟨p.1,_,p.2,_,s,y,rfl,rfl,rfl,Ow.mono i (λb c=>k b (XA _ c) λz=>g b c b (t b z) rfl) o,L I H1 d' i (λb c l=>k b (Xr _ c) l) w⟩
def A9(c:Nat)(f:Str)(i:Nat):T0->Option D:=λT=>match rg T i with
 |some (.obj a ns vs)=>if a=c then dP ns vs f else none
 |_=>none
def wY(f:Str)(i:Nat):T0->D->T0:=λT d=>match rg T i with
 |some (.obj c ns vs)=>T.set i (some (.obj c ns (ik ns vs f d)))
 |_=>T
theorem Ha{c:Nat}{f:Str}{i:Nat}{sh:List (Str×Sh)}(hc:Cls K (Y c))(hn:NoAttr K (Y c) f)(G:M.getD i .F= .O (.ob sh))(J:(sh.lookup f).getD .fz=.ct .fz):Pth Y M (Ek K (dF i) f) (A9 c f i) (wY f i) where
 rd:=λ{B U As Z H T d} R e=>by
  have l:=R.lo i;unfold A9 at e;cases g:rg T i with
  |none=>rw[g]at e;cases e
  |some d0=>
    cases d0 with
    |obj m ns vs=>
      rw[g]at e;replace e:(if m=c then dP ns vs f else none)=some d:=e;by_cases q:m=c
      · subst q;rw[Xl rfl]at e;rw[g,G]at l;obtain⟨v,D,w⟩:=l;have A:Ow Y B H (.obj m ns vs) (.ob sh) v (As i):=w;rw[Ow]at A;obtain⟨a,dx,xs,A',rfl,P,h2,k,N⟩:=A;subst h2;have nd:=R.nd i;rw[k]at nd;obtain⟨p,n⟩:=XH.mp nd;obtain⟨u,A1,X,C,x,cl⟩:=Owf.upd N n e;rw[J]at C;refine⟨u,A1,λQ q=>⟨.ref a,cI D,a,_,dx,xs,u,rfl,P,hc,hn,X,q⟩,C,λb j=>⟨i,by rw[k];exact no _ (x b j)⟩,λI L H1 R1 V h b j o' d' S=>?_⟩;have t:b∈As i:=by rw[k];exact no _ (x b j)
        have:wY f i T d'=T.set i (some (.obj m (xs.map (·.1)) (ik (xs.map (·.1)) vs f d'))):=by unfold wY;rw[g]
        rw[this];refine R1.mut G D g t ?_;rw[k,Ow];have r:a≠b:=λz=>p (by rw[z];exact x b j);refine⟨a,dx,xs,A',rfl,by rw[a7 r];exact h _ _ P,rfl,rfl,cl I _ d' V (λy W s=>?_) (by rw[J];exact S)⟩
        have:y≠b:=λz=>s (by rw[z];exact j)
        rw[a7 this];obtain⟨o,E⟩:=Owf.at N W;rw[E,h _ _ E]
      ·rw[Xj q]at e;cases e
    |_=>rw[g]at e;cases e
def AW(set:T0->D->T0)(T:T0):Option (D×List D)->Out D
 |some (d,a)=>.ok d (set T (.lst a))
 |none=>.bad
def Rn(set:T0->D->T0)(f:List D->D->Option (D×List D))(T:T0)(xs:List D):Res D->Out D
 |.ok x=>AW set T (f xs x)
 |.exc c=>.exc c T
 |.bad=>.bad
def jW(get:T0->Option D)(set:T0->D->T0)(f:List D->D->Option (D×List D))(a:T0->Res D):T0->Out D:=λT=>match get T with
 |some (.lst xs)=>Rn set f T xs (a T)
 |_=>.bad
theorem Ow.lst{d:D}{v:V}{A:List Addr}{ds:List D}(w:Ow Y B H d (.ct .fz) v A)(e:d=.lst ds):∃a xs,v=.ref a/\H a=some (.lst xs)/\A=[a]/\Dns Y B ds xs:=by
 subst e;rw[Ow]at w;obtain⟨a,xs,i,r,h,g,f⟩:=w;obtain⟨c,b⟩:=Ows.fz f;exact⟨a,xs,r,h,by rw[g,b],c⟩
theorem Ow.lst'{a:Addr}{ds:List D}{xs:List V}(h:H a=some (.lst xs))(d:Dns Y B ds xs):Ow Y B H (.lst ds) (.ct .fz) (.ref a) [a]:=by
 rw[Ow];exact⟨a,xs,[],rfl,h,rfl,Ows.of d⟩
section
variable{t:TE}{get:T0->Option D}{set:T0->D->T0}
theorem Jb{k:Kd}{r:V->List V->Hp->VK->Prop}{f:List D->D->Option (D×List D)}{te:TE}{j:T0->Res D}(p:Pth Y M t get set)(J:PJ Y (KR Y k) E M te j)
 (G:∀(B U H:Hp) (a:Addr) (ds:List D) (xs:List V) (x:D) (u:V) (d:D) (l:List D) (Q:VK),Same B U->Same U H->H a=some (.lst xs)->Dns Y B ds xs->Dn Y (hp k B U H) x u->f ds x=some (d,l)->(∀v m,Dn Y B d v->Dns Y B l m->Q v (upd H a (.lst m)))->r (.ref a) [u] H Q):
 MJ Y (KR Y .F) E M (NL K "list" r t (b6 te dW)) (jW get set f j):=by
 intro B U As Z H T Q R P;unfold jW at P;cases e:get T with
 |none=>rw[e]at P;exact P.elim
 |some d0=>
   cases d0 with
   |lst ds=>
     rw[e]at P;replace P:Mo Y (KR Y .F) E M B U Z (Rn set f T ds (j T)) Q:=P;obtain⟨v,A,C,w,hA,W⟩:=p.rd R e;obtain⟨a,xs,rfl,q,rfl,O⟩:=w.lst rfl;refine C _ ⟨.inl ⟨rfl,xs,SqL.of q⟩,J B U As Z H T _ R ?_⟩;cases n:j T with
     |ok x=>
       rw[n]at P;replace P:Mo Y (KR Y .F) E M B U Z (AW set T (f ds x)) Q:=P;intro u I L H1 N i g X z;cases o:f ds x with
       |none=>rw[o]at P;exact P.elim
       |some S=>
         obtain⟨d,l⟩:=S;rw[o]at P;refine G I L H1 a ds xs x u d l Q i.bu i.uh (g.h _ _ q) (O.mono g.b) z o λv m y s=>?_;exact P v I L As _ [] (W I L H1 i g.b g.h a Xk _ _ (Ow.lst' bj s)) g.toEx NewM.nil y
     |exc c=>rw[n]at P;exact λI L H1 i g=>P I L As H1 i g.toEx
     |bad=>rw[n]at P;exact P.elim
   |_=>rw[e]at P;exact P.elim
def iP(xs:List D)(x:D):Option (D×List D):=if xs.length<am then some (.non,xs++[x]) else none
theorem fi{te:TE}{c:T0->Res D}(p:Pth Y M t get set)(h:PJ Y (KR Y .F) E M te c):MJ Y (KR Y .F) E M (NL K "list" mW t (b6 te dW)) (jW get set iP c):=
 Jb (f:=iP) p h λB U H a ds xs x u d j Q _ _ i e g b k=>by
  unfold iP at b;by_cases z:ds.length<am
  ·rw[Xl z]at b;cases b;exact⟨a,xs,u,rfl,rfl,i,d6 (X4 (by rw[<-e.len];exact z)),k .non _ (by rw[Dn]) (e.append (Dns.one g))⟩
  ·rw[Xj z]at b;cases b
def Hc(xs:List D)(x:D):Option (D×List D):=match x with
 |.int i=>if 0<=i/\i<xs.length/\xs.length<=am then xs[i.toNat]?.map λd=>(d,xs.eraseIdx i.toNat) else none
 |_=>none
theorem MC{te:TE}{g:T0->Res D}(p:Pth Y M t get set)(n:PJ Y (KR Y .X) E M te g):MJ Y (KR Y .F) E M (NL K "list" G5 t (b6 te dW)) (jW get set Hc g):=
 Jb (f:=Hc) p n λB U H a ds xs x u d r Q _ _ o e c b k=>by
  cases x with
  |int i=>
    have c:Dn Y H (.int i) u:=c;rw[Dn]at c;subst c;replace b:(if 0<=i/\i<ds.length/\ds.length<=am then ds[i.toNat]?.map λd=>(d,ds.eraseIdx i.toNat) else none)=some (d,r):=b;by_cases z:0<=i/\i<ds.length/\ds.length<=am
    ·rw[if_pos z]at b;obtain⟨y,q,s⟩:=Option.map_eq_some_iff.mp b;cases s;obtain⟨w,m,v⟩:=e.get q;obtain⟨l,j,h⟩:=z;unfold am at h;refine⟨a,xs,i,i.toNat,w,rfl,rfl,o,by omega,by omega,?_,m,k w _ v (e.erase _)⟩;refine(CY ?_).1;unfold JG;rw[if_pos l,if_pos (by rw[<-e.len];exact j)]
    ·rw[Xj z]at b;cases b
  |_=>cases b
def sJ(i:Nat)(x:D)(T:T0):Out D:=match rg T i with
 |some (.lst xs)=>AW (eC i) T (iP xs x)
 |_=>.bad
def zy(i:Nat)(a:T0->Out D):T0->Out D:=λT=>match rg T i with
 |some (.lst _)=>(a T).bind (sJ i)
 |_=>.bad
theorem EI{i:Nat}{te:TE}{f:T0->Out D}(h:M.getD i .F= .O (.ct .fz))(r:MJ Y (KR Y .F) E M te f):MJ Y (KR Y .F) E M (NL K "list" mW (dF i) (b6 te dW)) (zy i f):=by
 intro B U As Z H T Q R P;unfold zy at P;cases e:rg T i with
 |none=>rw[e]at P;exact P.elim
 |some d0=>
   cases d0 with
   |lst ds=>
     rw[e]at P;replace P:Mo Y (KR Y .F) E M B U Z ((f T).bind (sJ i)) Q:=P;have l:=R.lo i;rw[e,h]at l;obtain⟨v,g,w⟩:=l;obtain⟨a,xs,rfl,t,_,J⟩:=Ow.lst w rfl;refine⟨.ref a,cI g,.inl ⟨rfl,xs,SqL.of t⟩,r.bnd R P λx C u I L j H1 N o S G q W=>?_⟩;have k:=o.lo i;unfold sJ at W;cases b:rg C i with
     |none=>rw[b]at W;exact W.elim
     |some A=>
       cases A with
       |lst c=>
         rw[b]at W;rw[b,h,g]at k;have p:=gY k rfl;obtain⟨V,d,y,s,n,m⟩:=Ow.lst p rfl;cases y;replace W:Mo Y (KR Y .F) E M I L Z (AW (eC i) C (iP c x)) Q:=W;unfold iP at W;by_cases z:c.length<am
         ·rw[Xl z]at W;refine⟨a,d,u,rfl,rfl,s,d6 (X4 (by rw[<-m.len];exact z)),?_⟩;refine W .non I L j _ [] (o.mut h g b (by rw[n];exact Xk) ?_) (Ex.refl _ _) NewM.nil (show Dn Y I .non .non by rw[Dn]);rw[n];exact Ow.lst' bj (m.append (Dns.one q))
         ·rw[Xj z]at W;exact W.elim
       |_=>rw[b]at W;exact W.elim
   |_=>rw[e]at P;exact P.elim
end
end
section
variable{Y:Cm}{E:XK}{Kr:KT D V}{pr:Nat->Bool}{M:List Md}{B U H:Hp}{As:Nat->List Addr}{Z:St}{T:T0}{K:L0}
def yf(set:T0->D->T0)(x d:D)(T:T0):Res D->SO
 |.ok k=>(match yg d k x with|some d'=>.nx (set T d')|none=>.bad)
 |.exc c=>.exc c T
 |.bad=>.bad
def jS(get:T0->Option D)(set:T0->D->T0)(mk:T0->Res D)(b:T0->Out D):T0->SO:=λT=>lD (b T) λx a=>match get a with
 |some d=>yf set x d a (mk a)
 |none=>.bad
section
variable{X:Type}[DecidableEq X]
theorem p9{a:List (X×V)}{k:X}:(a.any λb=>decide (b.1=k))=fq (a.map (·.1)) k:=by
 unfold fq;rw[List.any_map];rfl
theorem xo{a:List (X×V)}{k:X}{v:V}(h:fq (a.map (·.1)) k=true):(gG a k v).map (·.1)=a.map (·.1):=by
 unfold gG;rw[p9,if_pos h,List.map_map];refine List.map_congr_left λp _=>?_;show(if p.1=k then (p.1,v) else p).1=p.1;split<;>rfl
theorem gK{a:List (X×V)}{k:X}{v:V}(h:¬ fq (a.map (·.1)) k=true):gG a k v=a++[(k,v)]:=by
 unfold gG;rw[p9,if_neg h]
theorem qr{G:Hp}{x:D}{v:V}{k:X}(c:Dn Y G x v):∀{a:List (X×V)} {ds:List D},Dns Y G ds (a.map (·.2))->Dns Y G (n5 (a.map (·.1)) ds k x) ((a.map λb=>if b.1=k then (b.1,v) else b).map (·.2))
 |[],ds,h=>by cases ds<;>exact(by rw[List.map_nil,List.map_nil,List.map_nil];unfold n5;rw[Dns])
 | p::a,ds,h=>by
   cases ds with
   |nil=>rw[Dns]at h;cases h
   |cons d ds=>
     rw[Xm,Dns]at h;obtain⟨y,r,e,g,f⟩:=h;cases e;rw[Xm,Xm,Xm,n5,Dns];refine⟨_,_,rfl,?_,qr c f⟩;by_cases q:p.1=k
     ·rw[Xl q,Xl q];exact c
     ·rw[Xj q,Xj q];exact g
end
theorem Ow.dT{d:D}{v:V}{A:List Addr}{c:List (List c9)}{ds:List D}(w:Ow Y B H d (.ct .fz) v A)(e:d=.dT c ds):∃(a:Addr) (b:List (List c9×V)),v=.ref a/\H a=some (.dT b)/\b.map (·.1)=c/\A=[a]/\Dns Y B ds (b.map (·.2)):=by
 subst e;rw[Ow]at w;obtain⟨a,xs,l,r,k,j,i,h⟩:=w;obtain⟨g,f⟩:=Ows.fz h;exact⟨a,xs,r,k,j,by rw[i,f],g⟩
theorem Ow.dK{d:D}{v:V}{A:List Addr}{c:List c9}{ds:List D}(w:Ow Y B H d (.ct .fz) v A)(e:d=.dK c ds):∃(a:Addr) (b:List (c9×V)),v=.ref a/\H a=some (.dK b)/\b.map (·.1)=c/\A=[a]/\Dns Y B ds (b.map (·.2)):=by
 subst e;rw[Ow]at w;obtain⟨a,xs,l,r,k,j,i,h⟩:=w;obtain⟨g,f⟩:=Ows.fz h;exact⟨a,xs,r,k,j,by rw[i,f],g⟩
theorem Ow.dT'{a:Addr}{b:List (List c9×V)}{ds:List D}(h:H a=some (.dT b))(d:Dns Y B ds (b.map (·.2))):Ow Y B H (.dT (b.map (·.1)) ds) (.ct .fz) (.ref a) [a]:=by
 rw[Ow];exact⟨a,b,[],rfl,h,rfl,rfl,Ows.of d⟩
theorem Ow.dK'{a:Addr}{b:List (c9×V)}{ds:List D}(h:H a=some (.dK b))(d:Dns Y B ds (b.map (·.2))):Ow Y B H (.dK (b.map (·.1)) ds) (.ct .fz) (.ref a) [a]:=by
 rw[Ow];exact⟨a,b,[],rfl,h,rfl,rfl,Ows.of d⟩
theorem M4{d k x d':D}{v u w:V}{A:List Addr}(r:Ow Y B H d (.ct .fz) v A)(n:Dn Y H k u)(l:Dn Y B x w)(e:yg d k x=some d'):∃a o',v=.ref a/\a∈A/\DPut H a u w (upd H a o')/\Ow Y B (upd H a o') d' (.ct .fz) v A:=by
 cases d with
 |dT f vs=>
   obtain⟨a,c,rfl,o,j,rfl,i⟩:=r.dT rfl;cases k with
   |tup s=>
     replace e:((gx s).bind λk=>if f.length<am then some (if fq f k=true then D.dT f (n5 f vs k x) else .dT (f++[k]) (vs++[x])) else none)=some d':=e;obtain⟨g,p,e⟩:=ZM.mp e;rw[Dn]at n;obtain⟨b,xs,rfl,C,y⟩:=n;have ex:=lZ p y;subst ex;by_cases z:f.length<am
     · rw[Xl z]at e;cases e;have m:c.length<sizeLine:=d6 (X4 (by rw[<-j,on]at z;exact z));refine⟨a,_,rfl,Xk,DPut.t o C m,?_⟩;subst j;by_cases q:fq (c.map (·.1)) g=true
       · rw[if_pos q];have hp:gG c g w=c.map λh=>if h.1=g then (h.1,w) else h:=by unfold gG;rw[p9,if_pos q]
         have:=Ow.dT' (Y:=Y) (B:=B) (H:=upd H a (.dT (gG c g w))) (ds:=n5 (c.map (·.1)) vs g x) bj (by rw[hp];exact qr l i)
         rw[xo q]at this;exact this
       · rw[Xj q]
         have:=Ow.dT' (Y:=Y) (B:=B) (H:=upd H a (.dT (gG c g w))) (ds:=vs++[x]) bj (by rw[gK q,XJ];exact i.append (Dns.one l))
         rw[gK q,XJ]at this;rw[gK q];exact this
     ·rw[Xj z]at e;cases e
   |_=>cases e
 |dK f vs=>
   obtain⟨a,c,rfl,o,j,rfl,i⟩:=r.dK rfl;replace e:((bR k).bind λk=>if f.length<am then some (if fq f k=true then D.dK f (n5 f vs k x) else .dK (f++[k]) (vs++[x])) else none)=some d':=by cases k<;>exact e
   obtain⟨g,p,e⟩:=ZM.mp e;have ex:=xX p n;subst ex;by_cases z:f.length<am
   · rw[Xl z]at e;cases e;have m:c.length<sizeLine:=d6 (X4 (by rw[<-j,on]at z;exact z));refine⟨a,_,rfl,Xk,DPut.k o m,?_⟩;subst j;by_cases q:fq (c.map (·.1)) g=true
     · rw[if_pos q];have hp:gG c g w=c.map λh=>if h.1=g then (h.1,w) else h:=by unfold gG;rw[p9,if_pos q]
       have:=Ow.dK' (Y:=Y) (B:=B) (H:=upd H a (.dK (gG c g w))) (ds:=n5 (c.map (·.1)) vs g x) bj (by rw[hp];exact qr l i)
       rw[xo q]at this;exact this
     · rw[Xj q]
       have:=Ow.dK' (Y:=Y) (B:=B) (H:=upd H a (.dK (gG c g w))) (ds:=vs++[x]) bj (by rw[gK q,XJ];exact i.append (Dns.one l))
       rw[gK q,XJ]at this;rw[gK q];exact this
   ·rw[Xj z]at e;cases e
 |_=>cases k<;>cases e
section
variable{t:TE}{get:T0->Option D}{set:T0->D->T0}{tk tv:TE}{mk:T0->Res D}{mv:T0->Out D}
theorem iz(p:Pth Y M t get set)(S:PJ Y (KR Y .X) E M tk mk)(K:MJ Y (KR Y .F) E M tv mv):SJ Y E Kr pr M (NT t tk tv) (jS get set mk mv):=by
 intro B U As Z H T D R P;refine K.bndS R P λx f w I L i H1 N G e1 n1 J W=>?_;cases e:get f with
 |none=>rw[e]at W;exact W.elim
 |some d=>
   rw[e]at W;replace W:So Y E Kr pr M I L Z (yf set x d f (mk f)) D:=W;obtain⟨v,A,Q,z,hA,cl⟩:=p.rd G e;refine Q _ (S I L i Z H1 f _ G ?_);cases s:mk f with
   |ok k=>
     rw[s]at W;replace W:So Y E Kr pr M I L Z (match yg d k x with|some d'=>.nx (set f d')|none=>.bad) D:=W;intro u j l m N2 R2 g n2 O;cases y:yg d k x with
     |none=>rw[y]at W;exact W.elim
     |some d'=>
       rw[y]at W
       have q:Ow Y j m d (.ct .fz) v A:=Ow.mono g.b (λa r=>by
        obtain⟨o,C⟩:=Ow.at z r
        rw[C,g.h _ _ C]) z
       obtain⟨a,o',V,r,dp,n⟩:=M4 q O (Dn.mono g.b J) y;exact⟨a,_,V,dp,W Z j l i _ (cl j l m R2 g.b g.h a r o' d' n) g.toEx (Kp.refl _ _)⟩
   |exc c=>rw[s]at W;exact λj l m R2 g=>W Z j l i m R2 g.toEx (Kp.refl _ _)
   |bad=>rw[s]at W;exact W.elim
end
theorem tV{f:Str}{y:V}:∀{fs:List (Str×V)},(gW f y fs).map (·.1)=if fq (fs.map (·.1)) f=true then fs.map (·.1) else fs.map (·.1)++[f]
 |[]=>rfl
 | p::fs=>by
   obtain⟨g,z⟩:=p;unfold gW fq;rw[List.map_cons,List.any_cons];by_cases q:g=f
   ·rw[Xl q,X8 q,Bool.true_or,Xl rfl,Xm]
   · rw[if_neg q,decide_eq_false q,Bool.false_or,List.map_cons,tV];unfold fq;split
     ·rfl
     ·rw[Yo]
theorem Owf.put{sh:List (Str×Sh)}{f:Str}{x:D}{y:V}{N:List Addr}(s:Ow Y B H x ((sh.lookup f).getD .fz) y N)(v:N.Nodup):∀{fs:List (Str×V)} {ds:List D} {A:List Addr},Owf Y B H ds (fs.map (·.1)) sh (fs.map (·.2)) A->A.Nodup->(∀a∈N,a∉A)->
 ∃i,Owf Y B H (if fq (fs.map (·.1)) f=true then ik (fs.map (·.1)) ds f x else ds++[x]) ((gW f y fs).map (·.1)) sh ((gW f y fs).map (·.2)) i/\i.Nodup/\∀a∈i,a∈A\/a∈N
 | [],ds,A,h,nd,hd=>by
   cases ds with
   |nil=>
     refine⟨N,?_,v,λa c=>.inr c⟩;show Owf Y B H [x] [f] sh [y] N;rw[Owf];exact⟨f,[],y,[],N,[],rfl,rfl,by rw[XZ],s,by rw[Owf];exact⟨rfl,rfl⟩⟩
   |cons d ds=>
     rw[Owf]at h;obtain⟨_,_,_,_,_,_,e,_⟩:=h;cases e
 | p::fs,ds,A,h,nd,hd=>by
   obtain⟨g,z⟩:=p;cases ds with
   |nil=>
     rw[Owf]at h;cases h.1
   |cons d ds=>
     rw[List.map_cons,List.map_cons,Owf]at h;obtain⟨n,J,u,r,E,I,K,h0,M,L,G⟩:=h;cases K;cases h0;subst M;obtain⟨o,j,m⟩:=List.nodup_append.mp nd;unfold gW;by_cases q:g=f
     · have t:fq (((g,z)::fs).map (·.1)) f=true:=by
        unfold fq;rw[List.map_cons,List.any_cons,decide_eq_true q,Bool.true_or]
       rw[Xl q,t,Xl rfl,Xm,ik,Xl q,Xm,Xm];refine⟨N++I,?_,XV.mpr ⟨v,j,λa c b k e=>hd a c (Xr _ (e▸k))⟩,λa c=>?_⟩
       ·rw[Owf];exact⟨g,_,y,_,N,I,rfl,rfl,rfl,by rw[q];exact s,G⟩
       · rcases XE.mp c with z|z
         ·exact .inr z
         ·exact .inl (Xr _ z)
     · obtain⟨i,w,l,F⟩:=Owf.put s v G j (λa c k=>hd a c (Xr _ k))
       have t:fq (((g,z)::fs).map (·.1)) f=fq (fs.map (·.1)) f:=by
        unfold fq;rw[List.map_cons,List.any_cons,decide_eq_false q,Bool.false_or]
       rw[Xj q,t,Xm,Xm,Xm,ik,Xj q]
       have C:∀a∈E,∀b∈i,a≠b:=λa c b k e=>by
        rcases F b k with z|z
        ·exact m a c b z e
        ·exact hd b z (XA _ (e▸c))
       refine⟨E++i,?_,XV.mpr ⟨o,l,C⟩,λa c=>?_⟩
       · have:(if fq (fs.map (·.1)) f=true then d::ik (fs.map (·.1)) ds f x else (d::ds)++[x])=d::(if fq (fs.map (·.1)) f=true then ik (fs.map (·.1)) ds f x else ds++[x]):=by split<;>rfl
         rw[this,Owf];exact⟨g,_,z,_,E,i,rfl,rfl,rfl,L,w⟩
       · rcases XE.mp c with z|z
         ·exact .inl (XA _ z)
         · rcases F a z with z|z
           ·exact .inl (Xr _ z)
           ·exact .inr z
def nj(c:Nat)(f:Str)(i:Nat)(b:T0->Out D):T0->SO:=λT=>lD (b T) λx a=>match rg a i with
 |some d=>(match CD c f x d with|some d'=>.nx (a.set i (some d'))|none=>.bad)
 |none=>.bad
theorem NR{K':KT D V}{c:Nat}{f:Str}{i:Nat}{sh:List (Str×Sh)}{te:TE}{me:T0->Out D}(hc:Cls K (Y c))(hn:NoAttr K (Y c) f)(hm:M.getD i .F= .O (.ob sh))(he:MJ Y K' E M te me)
 (r:∀B U H d v N,K' d v B U H N->∃N',(N'=[]\/N'=N)/\Ow Y B H d ((sh.lookup f).getD .fz) v N'):SJ Y E Kr pr M (L7 K (dF i) te f) (nj c f i me):=by
 intro B U As Z H T D R P;refine he.bndS R P λx s y I L g H1 N m e1 n1 hx W=>?_;obtain⟨N',hN,ow⟩:=r _ _ _ _ _ _ hx
 have J:NewM N' L g:=by
  rcases hN with e|e
  ·subst e;exact NewM.nil
  ·subst e;exact n1
 have l:=m.lo i;cases e:rg s i with
 |none=>rw[e]at W;exact W.elim
 |some d=>
   rw[e]at W;replace W:So Y E Kr pr M I L Z (match CD c f x d with|some d'=>.nx (s.set i (some d'))|none=>.bad) D:=W;rw[e,hm]at l;obtain⟨v,hv,w⟩:=l;cases d with
   |obj p ns vs=>
     have ep:CD c f x (.obj p ns vs)=if p=c/\ns.length<900 then some (if fq ns f=true then .obj p ns (ik ns vs f x) else .obj p (ns++[f]) (vs++[x])) else none:=rfl
     rw[ep]at W;by_cases q:p=c/\ns.length<900
     · rw[Xl q]at W;obtain⟨q1,q2⟩:=q;subst q1;have w:Ow Y I H1 (.obj p ns vs) (.ob sh) v (g i):=w;rw[Ow]at w;obtain⟨a,dx,fs,A',rfl,h1,h2,h3,h4⟩:=w;subst h2;have nd:=m.nd i;rw[h3]at nd;obtain⟨nd1,nd2⟩:=XH.mp nd;have n:a∈g i:=by rw[h3];exact Xk
       obtain⟨o,w2,nda,hA⟩:=Owf.put ow J.nd h4 nd2 (λb h A=>J.ap b h i (by rw[h3];exact no _ A))
       have X:a∉o:=λz=>by
        rcases hA a z with z|z
        ·exact nd1 z
        ·exact J.ap a z i n
       refine⟨.ref a,cI hv,a,_,dx,fs,rfl,h1,hc,hn,by rw[on]at q2;omega,?_⟩
       have w3:Ow Y I (upd H1 a (.ins (Y p) dx (gW f y fs))) (if fq (fs.map (·.1)) f=true then .obj p (fs.map (·.1)) (ik (fs.map (·.1)) vs f x) else .obj p (fs.map (·.1)++[f]) (vs++[x])) (.ob sh) (.ref a) (a::o):=by
        have C:=Owf.mono (H':=upd H1 a (.ins (Y p) dx (gW f y fs))) (Same.refl I) (λb h=>a7 (λz:b=a=>X (z▸h))) w2;have G:=tV (f:=f) (y:=y) (fs:=fs);by_cases k:fq (fs.map (·.1)) f=true
        ·rw[Xl k]at G C ⊢;rw[Ow];rw[G]at C;exact⟨a,dx,_,o,rfl,bj,G,rfl,C⟩
        ·rw[Xj k]at G C ⊢;rw[Ow];rw[G]at C;exact⟨a,dx,_,o,rfl,bj,G,rfl,C⟩
       have hi:i<s.length:=(XF.mp (cI e)).1;refine W Z I L (λj=>if j=i then a::o else g j) _ ⟨m.bu,λb u z=>?_,λj=>?_,λj k b S h r=>?_,λj b h=>?_,λj=>?_,by rw[Yc];exact m.len,m.tb⟩ (Ex.refl _ _) (Kp.refl _ _)
       ·rw[a7 (bE z (m.un i a n))];exact m.uh b u z
       · show(if j=i then a::o else g j).Nodup;split
         ·exact XH.mpr ⟨X,nda⟩
         ·exact m.nd j
       · replace h:b∈(if j=i then a::o else g j):=h;replace r:b∈(if k=i then a::o else g k):=r
         have Q:∀{j},j≠i->b∈a::o->b∈g j->False:=λ{j} hj A t=>by
          rcases Xv.mp A with z|z
          ·exact m.dj i j b (Y2 hj) (by rw[z];exact n) t
          · rcases hA b z with z|z
            ·exact m.dj i j b (Y2 hj) (by rw[h3];exact no _ z) t
            ·exact J.ap b z j t
         split at h
         · rename_i z1;split at r
           ·rename_i z2;exact S (z1.trans z2.symm)
           ·rename_i z2;exact Q z2 h r
         · rename_i z1;split at r
           ·exact Q z1 r h
           ·exact m.dj j k b S h r
       · replace h:b∈(if j=i then a::o else g j):=h;split at h
         · rcases Xv.mp h with z|z
           ·rw[z];exact m.un i a n
           · rcases hA b z with z|z
             ·exact m.un i b (by rw[h3];exact no _ z)
             ·exact J.un b z
         ·exact m.un j b h
       · rw[gU];show Lo Y I L _ (M.getD j .F) _ _ (if j=i then a::o else g j);by_cases z:i=j
         ·subst z;rw[Xl ⟨rfl,hi⟩,Xl rfl,hm];exact⟨.ref a,hv,w3⟩
         ·rw[Xj λy=>z y.1,Xj λy=>z y.symm];exact(m.lo j).mono (Same.refl _) (Same.refl _) λb h=>a7 (λy:b=a=>m.dj i j a z n (y▸h))
     ·rw[Xj q]at W;exact W.elim
   |_=>exact W.elim
theorem PM{c:Nat}{f:Str}{i:Nat}{sh:List (Str×Sh)}{te:TE}{a:T0->Out D}(j:Cls K (Y c))(b:NoAttr K (Y c) f)(e:M.getD i .F= .O (.ob sh))(g:(sh.lookup f).getD .fz=.fz)(h:MJ Y (KR Y .F) E M te a):SJ Y E Kr pr M (L7 K (dF i) te f) (nj c f i a):=
 NR j b e h λB U H d v N k=>⟨[],.inl rfl,by rw[g,Ow];exact⟨k,rfl⟩⟩
theorem u6{c:Nat}{f:Str}{i:Nat}{sh:List (Str×Sh)}{s:Sh}{te:TE}{a:T0->Out D}(j:Cls K (Y c))(b:NoAttr K (Y c) f)(e:M.getD i .F= .O (.ob sh))(g:(sh.lookup f).getD .fz=s)(h:MJ Y (KO Y s) E M te a):SJ Y E Kr pr M (L7 K (dF i) te f) (nj c f i a):=
 NR j b e h λB U H d v N k=>⟨N,.inr rfl,by rw[g];exact k⟩
def wM(M:List Md)(a:Nat):Nat->Bool:=λj=>decide (j<a)&&(match M.getD j .F with | .O _=>true|_=>false)
theorem z8{X:Type}{l:List (Option X)}{n i:Nat}:rg (l++List.replicate n none) i=rg l i:=by
 unfold rg;by_cases h:i<l.length
 ·rw[Ys h]
 · rw[Yi (by omega),XO (show l.length<=i by omega)];by_cases a:i-l.length<n
   ·rw[Zc,Xl a];rfl
   ·rw[Zc,Xj a]
def iT(k:Nat)(body:T0->SO)(ds:List D):Out D:=match body (ds.map some++List.replicate (k-ds.length) none) with
 |.rt d T=>.ok d T
 |.exc c T=>.exc c T
 |_=>.bad
theorem Rel.enter{more:List Md}{vs:List V}{ds:List D}{n:Nat}(R:Rel Y M B U As (vs.map some) H (ds.map some))(a:vs.length=M.length):Rel Y (M++more) B U As (vs.map some++List.replicate n none) H (ds.map some++List.replicate n none):=by
 have hd:ds.length=vs.length:=by have:=R.len;rw[on,on]at this;exact this
 refine⟨R.bu,R.uh,R.nd,R.dj,R.un,λi=>?_,by rw[Xo,Xo,R.len,Z6,Z6],R.tb⟩;rw[z8,z8];have l:=R.lo i;by_cases h:i<M.length
 ·rw[Xx,Ys h,<-Xx];exact l
 · have:rg (ds.map some) i=none:=by rw[fW,XO (by omega)]
   rw[this]at l ⊢;exact l
theorem Rel.leave{more:List Md}{vs:List V}{d:St}{C:T0}{n:Nat}(h:vs.length=M.length)(R:Rel Y (M++more) B U As d H C)(k:Kp (wM M M.length) (vs.map some++List.replicate n none) d):
 ∃G,Rel Y M B U G (vs.map some) H (ip M C)/\∀N,NewM N U As->NewM N U G:=by
 refine⟨λi=>if wM M M.length i=true then As i else [],⟨R.bu,R.uh,λi=>?_,λi j a g b f=>?_,λi a b=>?_,λi=>?_,?_,R.tb⟩,λN n=>⟨n.nd,n.un,λa b i=>?_⟩⟩
 · show(if wM M M.length i=true then As i else []).Nodup;split
   ·exact R.nd i
   ·exact Yl
 · replace b:a∈(if wM M M.length i=true then As i else []):=b;replace f:a∈(if wM M M.length j=true then As j else []):=f;split at b
   · split at f
     ·exact R.dj i j a g b f
     ·cases f
   ·cases b
 · replace b:a∈(if wM M M.length i=true then As i else []):=b;split at b
   ·exact R.un i a b
   ·cases b
 · show Lo Y B U H (M.getD i .F) (rg (ip M C) i) (rg (vs.map some) i) (if wM M M.length i=true then As i else []);by_cases hi:i<M.length
   · have m:(M++more).getD i .F=M.getD i .F:=by
      rw[Xx,Ys hi,<-Xx]
     cases c:M.getD i .F with
     |O s=>
       have hp:wM M M.length i=true:=by unfold wM;rw[c,decide_eq_true hi];rfl
       rw[Xl hp,oo c];have l:=R.lo i;rw[m,c,k i hp,z8]at l;exact l
     |F=>
       have hp:wM M M.length i=false:=by unfold wM;rw[c];simp
       have e:rg (ip M C) i=none:=by
        unfold ip rg;rw[List.getElem?_map,List.getElem?_range hi];show(some (match M.getD i .F with | .O _=>_|_=>none)).join=none;rw[c];rfl
       rw[hp,e];exact rfl
     |R=>
       have hp:wM M M.length i=false:=by unfold wM;rw[c];simp
       have e:rg (ip M C) i=none:=by
        unfold ip rg;rw[List.getElem?_map,List.getElem?_range hi];show(some (match M.getD i .F with | .O _=>_|_=>none)).join=none;rw[c];rfl
       rw[hp,e];exact rfl
   · have hp:wM M M.length i=false:=by unfold wM;rw[decide_eq_false hi];rfl
     have e:rg (ip M C) i=none:=by
      unfold ip rg;rw[List.getElem?_eq_none (by rw[List.length_map,List.length_range];omega)];rfl
     rw[hp,e];exact rfl
 ·unfold ip;rw[List.length_map,List.length_map,List.length_range,h]
 · show a∉(if wM M M.length i=true then As i else []);split
   ·exact n.ap a b i
   ·simp
theorem aG{vs:List V}{Q:VK}{b:List D->Out D}(h:dX Y M Kr b vs H Q E):vs.length=M.length:=by
 obtain⟨_,_,_,_,_,a,_⟩:=h;exact a
end
end Mi
namespace Mi
open PySem PySem.Spec L2
mutual
def toPy:D->Option PyData
 |.non=>some .none
 |.bl b=>some (.bool b)
 |.int i=>some (.int i)
 |.str x=>some (.str x)
 |.lst xs=>(toPys xs).map .list
 |.scr xs=>(toPys xs).map .list
 |.tup xs=>(toPys xs).map .tuple
 |.ty _=>none
 |.dK _ _=>none
 |.dT _ _=>none
 |.obj _ _ _=>none
def toPys:List D->Option (List PyData)
 |[]=>some []
 | d::r=>match toPy d,toPys r with
   |some p,some q=>some (p::q)
   |_,_=>none
end
section
variable{Y:Cm}{E:XK}{Kr:KT D V}{pr:Nat->Bool}{M:List Md}{B U H:Hp}{As:Nat->List Addr}{Z:St}{T:T0}{K:L0}
mutual
theorem den_of:∀{d:D} {p:PyData} {v:V},toPy d=some p->Dn Y H d v->L2.Den Y.K H p v
 |.non,p,v,e,h=>by rw[Dn]at h;cases e;rw[L2.Den];exact h
 |.bl _,p,v,e,h=>by rw[Dn]at h;cases e;rw[L2.Den];exact h
 |.int _,p,v,e,h=>by rw[Dn]at h;cases e;rw[L2.Den];exact h
 |.str _,p,v,e,h=>by rw[Dn]at h;cases e;rw[L2.Den];exact h
 | .lst xs,p,v,e,h=>by
   rw[Dn]at h;obtain⟨a,b,rfl,f,c⟩:=h;rw[toPy]at e;obtain⟨ps,g,rfl⟩:=XR.mp e;rw[L2.Den];exact⟨a,b,rfl,SqL.of f,dens_of g c⟩
 | .scr xs,p,v,e,h=>by
   rw[Dn]at h;obtain⟨a,b,rfl,f,c⟩:=h;rw[toPy]at e;obtain⟨ps,g,rfl⟩:=XR.mp e;rw[L2.Den];exact⟨a,b,rfl,f.sq,dens_of g c⟩
 | .tup xs,p,v,e,h=>by
   rw[Dn]at h;obtain⟨a,b,rfl,f,c⟩:=h;rw[toPy]at e;obtain⟨ps,g,rfl⟩:=XR.mp e;rw[L2.Den];exact⟨a,b,rfl,SqT.of f,dens_of g c⟩
 |.ty _,p,v,e,h=>by cases e
 |.dK _ _,p,v,e,h=>by cases e
 |.dT _ _,p,v,e,h=>by cases e
 |.obj _ _ _,p,v,e,h=>by cases e
theorem dens_of:∀{ds:List D} {ps:List PyData} {xs:List V},toPys ds=some ps->Dns Y H ds xs->L2.Dens Y.K H ps xs
 |[],ps,xs,e,h=>by rw[Dns]at h;rw[toPys]at e;cases e;rw[L2.Dens];exact h
 | d::ds,ps,xs,e,h=>by
   rw[Dns]at h;obtain⟨x,r,rfl,f,c⟩:=h;rw[toPys]at e;cases a:toPy d with
   |none=>rw[a]at e;cases e
   |some p=>
     cases b:toPys ds with
     |none=>rw[a,b]at e;cases e
     |some q=>
       rw[a,b]at e;cases e;rw[L2.Dens];exact⟨x,r,rfl,den_of a f,dens_of b c⟩
end
def Lu(neg:Bool)(x y:D):Res D:=match toPy x,toPy y with
 |some p,some q=>if SeqAt.shaped p=true/\SeqAt.shaped q=true then .ok (.bl (neg.xor (PyData.eqv p q))) else .bad
 |_,_=>.bad
theorem qo{neg:Bool}:S2 Y (G7 Y.K neg) (Lu neg):=by
 intro H x y v u b a;unfold Lu;cases d:toPy x with
 |none=>trivial
 |some p=>
   cases c:toPy y with
   |none=>trivial
   |some q=>
     dsimp only;by_cases z:SeqAt.shaped p=true/\SeqAt.shaped q=true
     ·rw[Xl z];refine⟨.bl _,λ_=>by rw[Dn],λQ h=>⟨p,q,den_of d b,den_of c a,z.1,z.2,?_⟩⟩;cases neg<;>simpa using h
     ·rw[Xj z];trivial
def EW(x y:D):Res D:=match toPy x,toPy y with
 |some p,some (.list xs)=>if SeqAt.shaped p=true/\SeqAt.shaped (.list xs)=true/\(xs.all λz=>SeqAt.noMix z p)=true then .ok (.bl (decide (countIn p xs≠0))) else .bad
 |_,_=>.bad
theorem qm:S2 Y (λx y H Q=>∃d xs,L2.Den Y.K H d x/\L2.Den Y.K H (.list xs) y/\SeqAt.shaped d=true/\SeqAt.shaped (.list xs)=true/\(∀z∈xs,SeqAt.noMix z d=true)/\Q (.bl (decide (countIn d xs≠0))) H) EW:=by
 intro H x y v u b a;unfold EW;cases e:toPy x with
 |none=>trivial
 |some p=>
   cases c:toPy y with
   |none=>trivial
   |some q=>
     cases q with
     |list xs=>
       dsimp only;by_cases z:SeqAt.shaped p=true/\SeqAt.shaped (.list xs)=true/\(xs.all λz=>SeqAt.noMix z p)=true
       ·rw[Xl z];exact⟨.bl _,λ_=>by rw[Dn],λQ h=>⟨p,xs,den_of e b,den_of c a,z.1,z.2.1,λy a=>YE.mp z.2.2 y a,h⟩⟩
       ·rw[Xj z];trivial
     |_=>trivial
def zP:D->Option String
 |.non=>some "NoneType" | .bl _=>some "bool" | .int _=>some "int" | .str _=>some "str" | .lst _=>some "list" | .tup _=>some "tuple" | .dK _ _=>some "dict" | .dT _ _=>none
 |.ty _=>none | .obj _ _ _=>none | .scr _=>none
def kit(t n:String):Option Bool:=PySem.W.kitOne [] (.type t) (.type n)
def EU(x y:D):Res D:=match y,zP x with
 |.ty n,some t=>(match kit t n with|some b=>.ok (.bl b)|none=>.bad)
 |_,_=>.bad
theorem Eh{d:D}{v:V}{t:String}(e:zP d=some t)(h:Dn Y H d v):TyOf K H v (.type t):=by
 cases d with
 |non=>rw[Dn]at h;cases e;subst h;exact .non
 |bl b=>rw[Dn]at h;cases e;subst h;exact .bl b
 |int i=>rw[Dn]at h;cases e;subst h;exact .int i
 |str x=>rw[Dn]at h;cases e;subst h;exact .str x
 |lst _=>rw[Dn]at h;cases e;obtain⟨a,xs,rfl,c,_⟩:=h;exact .lst c
 |scr _=>cases e
 |tup _=>rw[Dn]at h;cases e;obtain⟨a,xs,rfl,c,_⟩:=h;exact .tup c
 |dK _ _=>rw[Dn]at h;cases e;obtain⟨a,xs,rfl,c,_⟩:=h;exact .dK c
 |dT _ _=>cases e
 |ty _=>cases e
 |obj _ _ _=>cases e
theorem tT:S2 Y (λv u H Q=>∃x c t b,[v,u]=[x,.ty c]/\TyOf K H x t/\PySem.W.kitOne K t (.type c)=some b/\Q (.bl b) H) EU:=by
 intro H x y v u d a;unfold EU;cases y with
 |ty n=>
   cases e:zP x with
   |none=>trivial
   |some t=>
     dsimp only;cases f:kit t n with
     |none=>trivial
     |some b=>
       rw[Dn]at a;subst a;exact⟨.bl b,λ_=>by rw[Dn],λQ h=>⟨v,n,_,b,rfl,Eh e d,f,h⟩⟩
 |_=>trivial
def tY(i:Nat):T0->Out D:=λT=>match rg T i with|some d=>.ok d (T.set i none)|none=>.bad
theorem Rel.take(R:Rel Y M B U As Z H T)(i:Nat):Rel Y M B U (λj=>if j=i then [] else As j) Z H (T.set i none)/\∀a∈As i,U a=none/\∀j,a∉(λj=>if j=i then [] else As j) j:=by
 refine⟨⟨R.bu,R.uh,λj=>?_,λj k a f b d=>?_,λj a b=>?_,λj=>?_,by rw[Yc];exact R.len,R.tb⟩,λa b=>⟨R.un i a b,λj c=>?_⟩⟩
 · show(if j=i then [] else As j).Nodup;split
   ·exact Yl
   ·exact R.nd j
 · replace b:a∈(if j=i then [] else As j):=b;replace d:a∈(if k=i then [] else As k):=d;split at b
   ·cases b
   · split at d
     ·cases d
     ·exact R.dj j k a f b d
 · replace b:a∈(if j=i then [] else As j):=b;split at b
   ·cases b
   ·exact R.un j a b
 · show Lo Y B U H (M.getD j .F) (rg (T.set i none) j) (rg Z j) (if j=i then [] else As j);rw[gU];by_cases e:i=j
   · subst e;rw[Xl rfl];by_cases h:i<T.length
     ·rw[Xl ⟨rfl,h⟩];exact rfl
     · rw[Xj λz=>h z.2]
       have:rg T i=none:=by unfold rg;rw[List.getElem?_eq_none (by omega)];rfl
       rw[this];exact rfl
   ·rw[Xj λz=>e z.1,Xj λz=>e z.symm];exact R.lo j
 · replace c:a∈(if j=i then [] else As j):=c;split at c
   ·cases c
   ·rename_i z;exact R.dj i j a (λq=>z q.symm) b c
theorem ly{i:Nat}{s:Sh}(g:M.getD i .F= .O s):MJ Y (KO Y s) E M (dF i) (tY i):=by
 intro B U As Z H T Q R P;unfold tY at P;have l:=R.lo i;cases e:rg T i with
 |none=>rw[e]at P;exact P.elim
 |some d=>
   rw[e]at P;rw[e,g]at l;obtain⟨v,f,w⟩:=l;obtain⟨R2,c⟩:=R.take i;exact⟨v,cI f,P v B U _ H (As i) R2 (Ex.refl _ _) ⟨R.nd i,λa b=>(c a b).1,λa b=>(c a b).2⟩ w⟩
def bL:D->Bool | .int _=>true | .bl _=>true | .non=>true | .str _=>true|_=>false
def qh:D->Bool
 |.lst xs=>xs.all bL
 |.scr xs=>xs.all bL
 |.tup xs=>xs.all bL
 |.dK _ xs=>xs.all bL
 |.dT _ xs=>xs.all bL
 |.obj _ _ xs=>xs.all bL
 |d=>bL d
def tD(m:T0->Res D):T0->Res D:=λT=>(m T).bind λd=>if qh d=true then .ok d else .bad
theorem ii{G a:Hp}{d:D}{v:V}(h:bL d=true)(q:Dn Y G d v):Dn Y a d v:=by
 cases d with
 |int _=>rw[Dn]at q ⊢;exact q
 |bl _=>rw[Dn]at q ⊢;exact q
 |non=>rw[Dn]at q ⊢;exact q
 |str _=>rw[Dn]at q ⊢;exact q
 |_=>cases h
theorem gT{G c:Hp}:∀{ds:List D} {xs:List V},ds.all bL=true->Dns Y G ds xs->Dns Y c ds xs
 |[],_,_,q=>by rw[Dns]at q ⊢;exact q
 | d::ds,_,h,q=>by
   rw[List.all_cons,YF]at h;rw[Dns]at q ⊢;obtain⟨x,r,e,b,a⟩:=q;exact⟨x,r,e,ii h.1 b,gT h.2 a⟩
theorem cS{k k':Kd}{t:TE}{m:T0->Res D}(h:PJ Y (KC Y k) E M t m):PJ Y (KC Y k') E M t (tD m):=by
 intro B U As Z H T Q R P;refine h.bnd R P λx v I L H1 O _ g j i J W=>?_;by_cases z:qh x=true
 · rw[Xl z]at W;refine W v I L H1 [] g (Gw.refl _ _ _) New.nil ?_;cases x with
   |lst ds=>obtain⟨a,xs,r,d,b⟩:=J;exact⟨a,xs,r,d,gT z b⟩
   |scr ds=>obtain⟨a,xs,r,d,b⟩:=J;exact⟨a,xs,r,d,gT z b⟩
   |tup ds=>obtain⟨a,xs,r,d,b⟩:=J;exact⟨a,xs,r,d,gT z b⟩
   |dK f ds=>obtain⟨a,xs,r,d,b,e⟩:=J;exact⟨a,xs,r,d,b,gT z e⟩
   |dT f ds=>obtain⟨a,xs,r,d,b,e⟩:=J;exact⟨a,xs,r,d,b,gT z e⟩
   |obj c ns ds=>obtain⟨a,dx,xs,r,d,b,e⟩:=J;exact⟨a,dx,xs,r,d,b,gT z e⟩
   |int _=>exact ii (G:=hp k I L H1) z J
   |bl _=>exact ii (G:=hp k I L H1) z J
   |non=>exact ii (G:=hp k I L H1) z J
   |str _=>exact ii (G:=hp k I L H1) z J
   |ty _=>cases z
 ·rw[Xj z]at W;exact W.elim
theorem rS{k:Kd}{t:TE}{m:T0->Res D}(h:PJ Y (KR Y .X) E M t m):PJ Y (KR Y .F) E M t (λT=>(m T).bind λd=>if bL d=true then .ok d else .bad):=by
 intro B U As Z H T Q R P;refine h.bnd R P λx v I L H1 O _ a c b J W=>?_;by_cases z:bL x=true
 ·rw[Xl z]at W;exact W v I L H1 [] a (Gw.refl _ _ _) New.nil (ii z J)
 ·rw[Xj z]at W;exact W.elim
def kD:c9->D | .inl i=>.int i | .inr x=>.str x
def CV:D->Res D | .dT a _=>.ok (.lst (a.map λk=>.tup (k.map kD)))|_=>.bad
theorem J0{G:Hp}:∀k:List c9,Dns Y G (k.map kD) (k.map kV)
 |[]=>by rw[Ym,Ym,Dns]
 | x::k=>by
   rw[Xm,Xm,Dns];refine⟨_,_,rfl,?_,J0 k⟩;cases x with
   |inl i=>show Dn Y G (.int i) (.int i);rw[Dn]
   |inr i=>show Dn Y G (.str i) (.str i);rw[Dn]
theorem Dns.of_get{G:Hp}:∀{ds:List D} {xs:List V},ds.length=xs.length->(∀(i:Nat) d x,ds[i]?=some d->xs[i]?=some x->Dn Y G d x)->Dns Y G ds xs
 | [],xs,h,_=>by
   rw[Dns];exact Yn.mp h.symm
 |d::ds,[],h,_=>by cases h
 | d::ds,x::xs,h,k=>by
   rw[Dns];exact⟨x,xs,rfl,k 0 d x rfl rfl,Dns.of_get (by simpa using h) λi d x b a=>k (i+1) d x (by simpa using b) (by simpa using a)⟩
theorem CK{k:Kd}{r:TE}{s:T0->Res D}(j:PJ Y (KC Y k) E M r s):PJ Y (KO Y (.ct .fz)) E M (Lq (λxs H Q=>∃a f,xs=[.ref a]/\Rd H a (.dT f)/\
 ∀(h:List Addr) (l:Addr),h.length=f.length->(∀(i:Nat) k v b,f[i]?=some (k,v)->h[i]?=some b->H b=some (.tup (k.map kV)))->H l=none->Q (.ref l) (upd H l (.lst (h.map V.ref)))) (b6 r dW)) (un CV s):=by
 intro B U As Z H T Q R P;refine j.bnd R P λx v I L H1 O _ g e1 n1 J W=>?_;cases x with
 |dT h ds=>
   obtain⟨a,f,rfl,S,w,h3⟩:=J;refine⟨a,f,rfl,S,λbs l G u F=>?_⟩
   have c:∀b∈bs,∃o,H1 b=some o/\jR o:=λb n=>by
    obtain⟨i,hi,e⟩:=List.getElem_of_mem n;have N:bs[i]?=some b:=by rw[<-e];exact Xy hi
    have K:f[i]?=some (f[i]'(by omega)):=Xy (by omega);exact⟨_,u i _ _ b (by rw[K]) N,_,rfl⟩
   have R2:Rel Y M (Mi.frz I H1 bs) (Mi.frz L H1 bs) As Z H1 T:=g.grow (eD g.bh) (eD g.uh) (Same.refl _) (ya g.bu) (C3 g.uh) λi a j=>by
    unfold Mi.frz;split
    ·rename_i z;obtain⟨o,e,t⟩:=c a z;exact(g.nt j e t).elim
    ·exact g.un i a j
   have X:Gw I L H1 (Mi.frz I H1 bs) (Mi.frz L H1 bs) H1:=by
    refine⟨⟨eD g.bh,eD g.uh,λa o q=>?_⟩,Same.refl _,λa o q=>?_⟩
    · unfold Mi.frz at q;split at q
      ·rename_i z;obtain⟨o',e,t⟩:=c a z;rw[e]at q;cases q;exact .inr (.inr t)
      ·exact .inl q
    · unfold Mi.frz at q;split at q
      ·rename_i z;obtain⟨o',e,t⟩:=c a z;rw[e]at q;cases q;exact .inr (.inr t)
      ·exact .inl q
   have P2:Po Y (KO Y (.ct .fz)) E M (Mi.frz I H1 bs) (Mi.frz L H1 bs) As Z H1 T (.ok (.lst (h.map λk=>.tup (k.map kD)))) Q:=Po.at W X;refine i0 R2 P2 (Dns.of_get (by rw[List.length_map,List.length_map,G,<-w,List.length_map]) λi d x A ex=>?_) F;rw[List.getElem?_map]at A ex;obtain⟨kk,y,rfl⟩:=Option.map_eq_some_iff.mp A;obtain⟨b,C,rfl⟩:=Option.map_eq_some_iff.mp ex;rw[<-w,List.getElem?_map]at y;obtain⟨m,p,rfl⟩:=Option.map_eq_some_iff.mp y;have n:=u i m.1 m.2 b p C;rw[Dn];refine⟨b,_,rfl,?_,J0 m.1⟩;unfold Mi.frz;rw[if_pos (List.mem_of_getElem? C)];exact n
 |_=>exact W.elim
def c7:List D->Option (List Int)
 |[]=>some []
 |.int i::r=>(c7 r).map (i::·)
 |_::_=>none
theorem fP{G:Hp}:∀{ds:List D} {ns:List Int} {xs:List V},c7 ds=some ns->Dns Y G ds xs->xs=ns.map V.int
 |[],ns,xs,e,h=>by rw[Dns]at h;cases e;rw[h];rfl
 | d::ds,ns,xs,e,h=>by
   rw[Dns]at h;obtain⟨x,r,rfl,a,b⟩:=h;cases d with
   |int i=>
     rw[c7]at e;obtain⟨M,c,rfl⟩:=XR.mp e;rw[Dn]at a;rw[fP c b,a,Xm]
   |_=>cases e
def fk:List Int->Int->Int
 |[],m=>m
 |x::r,m=>fk r (if x<m then x else m)
def i3:List Int->Int->Int
 |[],m=>m
 |x::r,m=>i3 r (if m<x then x else m)
theorem kt:∀(l:List Int) (m:Int),(fk l m=m\/fk l m∈l)/\fk l m<=m/\∀x∈l,fk l m<=x
 |[],m=>⟨.inl rfl,Int.le_refl _,λ_ h=>(nomatch h)⟩
 | x::r,m=>by
   unfold fk;obtain⟨a,b,d⟩:=kt r (if x<m then x else m);refine⟨?_,?_,λy c=>?_⟩
   · rcases a with a|a
     · by_cases z:x<m
       ·rw[Xl z]at a ⊢;exact .inr (by rw[a];exact Xk)
       ·rw[Xj z]at a ⊢;exact .inl a
     ·exact .inr (no _ a)
   ·split at b<;>split<;>omega
   · rcases Xv.mp c with z|z
     ·subst z;split at b<;>split<;>omega
     ·exact d y z
theorem lX:∀(l:List Int) (m:Int),(i3 l m=m\/i3 l m∈l)/\m<=i3 l m/\∀x∈l,x<=i3 l m
 |[],m=>⟨.inl rfl,Int.le_refl _,λ_ h=>(nomatch h)⟩
 | x::r,m=>by
   unfold i3;obtain⟨a,b,d⟩:=lX r (if m<x then x else m);refine⟨?_,?_,λy c=>?_⟩
   · rcases a with a|a
     · by_cases z:m<x
       ·rw[Xl z]at a ⊢;exact .inr (by rw[a];exact Xk)
       ·rw[Xj z]at a ⊢;exact .inl a
     ·exact .inr (no _ a)
   ·split at b<;>split<;>omega
   · rcases Xv.mp c with z|z
     ·subst z;split at b<;>split<;>omega
     ·exact d y z
def qU(f:List Int->Int->Int)(x d:D):Res D:=match x with
 |.lst ds=>(match c7 ds with|some []=>(if bL d=true then .ok d else .bad)|some (n::ns)=>.ok (.int (f ns n))|none=>.bad)
 |_=>.bad
theorem NY{f:List Int->Int->Int}{ok:Int->Int->Prop}(sp:∀ns n m,m∈n::ns->(∀x∈n::ns,ok m x)->m=f ns n){o l:TE}{r q:T0->Res D}(A:PJ Y (KR Y .X) E M o r)(hd:PJ Y (KR Y .X) E M l q):
 PJ Y (KR Y .F) E M (FN (λxs w H Q=>∃p ns d,xs=[.ref p]/\w=[d]/\SqL K H p (ns.map V.int)/\(ns=[]->Q d H)/\∀m∈ns,(∀x∈ns,ok m x)->Q (.int m) H) (b6 o dW) (b6 l dW)) (bn (qU f) r q):=by
 intro B U As Z H T Q R P;refine A.bnd R P λx v I L H1 O _ N e1 n1 J W=>hd.bnd N W λy u i e g N2 _ R2 t S G b=>?_;have J:Dn Y H1 x v:=J;cases x with
 |lst ds=>
   rw[Dn]at J;obtain⟨a,xs,rfl,s,C⟩:=J;replace b:Po Y (KR Y .F) E M i e As Z g T (match c7 ds with|some []=>(if bL y=true then .ok y else .bad)|some (n::ns)=>.ok (.int (f ns n))|none=>.bad) Q:=b;cases c:c7 ds with
   |none=>rw[c]at b;exact b.elim
   |some ns=>
     have ex:=fP c C;subst ex;cases ns with
     |nil=>
       rw[c]at b;replace b:Po Y (KR Y .F) E M i e As Z g T (if bL y=true then .ok y else .bad) Q:=b;by_cases z:bL y=true
       ·rw[Xl z]at b;exact⟨a,[],u,rfl,rfl,SqL.of (t.h _ _ s),λ_=>b u i e g [] R2 (Gw.refl _ _ _) New.nil (ii z G),λm j=>(nomatch j)⟩
       ·rw[Xj z]at b;exact b.elim
     |cons n ns=>
       rw[c]at b;refine⟨a,n::ns,u,rfl,rfl,SqL.of (t.h _ _ s),(λz=>by cases z),λm j k=>?_⟩;rw[sp ns n m j k];exact b _ i e g [] R2 (Gw.refl _ _ _) New.nil (show Dn Y _ (.int (f ns n)) _ by rw[Dn])
 |_=>exact b.elim
theorem Qa{c b:TE}{f e:T0->Res D}(k:PJ Y (KR Y .X) E M c f)(hd:PJ Y (KR Y .X) E M b e):
 PJ Y (KR Y .F) E M (FN (λxs g H Q=>∃p ns d,xs=[.ref p]/\g=[d]/\SqL K H p (ns.map V.int)/\(ns=[]->Q d H)/\∀m∈ns,(∀x∈ns,m<=x)->Q (.int m) H) (b6 c dW) (b6 b dW)) (bn (qU fk) f e):=NY (ok:=λm x=>m<=x) (λns n m j a=>by
 obtain⟨i,s2,h⟩:=kt ns n;have l2:=a _ (i.elim (λz=>by rw[z];exact Xk) (no _));rcases Xv.mp j with z|z
 ·rw[z]at l2 ⊢;omega
 ·have:=h m z;omega) k hd
theorem Qb{c b:TE}{f e:T0->Res D}(k:PJ Y (KR Y .X) E M c f)(hd:PJ Y (KR Y .X) E M b e):
 PJ Y (KR Y .F) E M (FN (λxs g H Q=>∃p ns d,xs=[.ref p]/\g=[d]/\SqL K H p (ns.map V.int)/\(ns=[]->Q d H)/\∀m∈ns,(∀x∈ns,x<=m)->Q (.int m) H) (b6 c dW) (b6 b dW)) (bn (qU i3) f e):=NY (ok:=λm x=>x<=m) (λns n m j a=>by
 obtain⟨i,s2,h⟩:=lX ns n;have l2:=a _ (i.elim (λz=>by rw[z];exact Xk) (no _));rcases Xv.mp j with z|z
 ·rw[z]at l2 ⊢;omega
 ·have:=h m z;omega) k hd
def qN:D->Res D
 |.lst ds=>(match c7 ds with|some ns=>(if ns.length<4000 then .ok (.int (dd ns).length) else .bad)|none=>.bad)
 |_=>.bad
theorem Hl{c:TE}{d:T0->Res D}(g:PJ Y (KR Y .X) E M c d):PJ Y (KR Y .F) E M
 (Lq (λxs H Q=>∃a S n,xs=[.ref a]/\H a=some (.set S n)/\Q (.int n) H) (b6 (Lq (λxs H Q=>∃p ns,xs=[.ref p]/\SqL K H p (ns.map V.int)/\ns.length<4000/\∀q,H q=none->Q (.ref q) (upd H q (.set (λk=>(dd ns).any (·==k)) (dd ns).length))) (b6 c dW)) dW)) (un qN d):=by
 intro B U As Z H T Q R P;refine g.bnd R P λx v I L H1 O _ f l j J W=>?_;have J:Dn Y H1 x v:=J;cases x with
 |lst ds=>
   rw[Dn]at J;obtain⟨a,xs,rfl,i,h⟩:=J;replace W:Po Y (KR Y .F) E M I L As Z H1 T (match c7 ds with|some ns=>(if ns.length<4000 then .ok (.int (dd ns).length) else .bad)|none=>.bad) Q:=W;cases b:c7 ds with
   |none=>rw[b]at W;exact W.elim
   |some ns=>
     have ex:=fP b h;subst ex;rw[b]at W;replace W:Po Y (KR Y .F) E M I L As Z H1 T (if ns.length<4000 then .ok (.int (dd ns).length) else .bad) Q:=W;by_cases z:ns.length<4000
     ·rw[Xl z]at W;exact⟨a,ns,rfl,SqL.of i,z,λq e=>⟨q,_,_,rfl,bj,W _ I L _ [] (f.new e) (Gw.newO f e) New.nil (show Dn Y _ (.int _) _ by rw[Dn])⟩⟩
     ·rw[Xj z]at W;exact W.elim
 |_=>exact W.elim
def pH:D->Option (Int×Int×List Int)
 |.tup [.int a,.int b,.lst xs]=>(c7 xs).map λns=>(a,b,ns)
 |_=>none
def SY(x y:D):Res D:=match pH x,pH y with
 |some (a,b,ns),some (c,d,M)=>.ok (.bl (HT.ua a b ns c d M))
 |_,_=>.bad
theorem EO{x:D}{a b:Int}{ns:List Int}(h:pH x=some (a,b,ns)):∃xs,x=.tup [.int a,.int b,.lst xs]/\c7 xs=some ns:=by
 unfold pH at h;split at h
 ·obtain⟨M,e,c⟩:=XR.mp h;cases c;exact⟨_,rfl,e⟩
 ·cases h
theorem iE{x:D}{v:V}{a b:Int}{ns:List Int}(e:pH x=some (a,b,ns))(c:Dn Y H x v):∃p l,v=.ref p/\SqT K H p [.int a,.int b,.ref l]/\SqL K H l (ns.map V.int):=by
 obtain⟨xs,rfl,o⟩:=EO e;rw[Dn]at c;obtain⟨p,r,rfl,n,i⟩:=c;rw[Dns]at i;obtain⟨u,z,rfl,J,h⟩:=i;rw[Dns]at h;obtain⟨t,y,rfl,k,g⟩:=h;rw[Dns]at g;obtain⟨s,w,rfl,j,f⟩:=g;rw[Dns]at f;rw[Dn]at J;rw[Dn]at k;rw[Dn]at j;obtain⟨l,q,rfl,d,m⟩:=j;subst J k f;rw[fP o m]at d;exact⟨p,l,rfl,SqT.of n,SqL.of d⟩
theorem TM:S2 Y (PV K) SY:=by
 intro H x y v u f e;unfold SY;cases o:pH x with
 |none=>trivial
 |some k1=>
   cases n:pH y with
   |none=>trivial
   |some k2=>
     obtain⟨a,b,ns⟩:=k1;obtain⟨c,d,M⟩:=k2;obtain⟨p,l,rfl,k,j⟩:=iE (K:=K) o f;obtain⟨q,m,rfl,i,g⟩:=iE (K:=K) n e;exact⟨.bl _,λ_=>by rw[Dn],λQ h=>⟨p,q,a,b,c,d,l,m,ns,M,rfl,rfl,k,i,j,g,h⟩⟩
def xG(x y:D):Res D:=match toPy x,toPy y with
 |some p,some (.list xs)=>if SeqAt.shaped p=true/\SeqAt.shaped (.list xs)=true/\(xs.all λz=>SeqAt.noMix z p)=true then .ok (.bl (!decide (countIn p xs≠0))) else .bad
 |_,_=>.bad
def G6(K:L0):R2:=λx y H Q=>∃d xs,L2.Den K H d x/\L2.Den K H (.list xs) y/\SeqAt.shaped d=true/\SeqAt.shaped (.list xs)=true/\(∀z∈xs,SeqAt.noMix z d=true)/\Q (.bl (!decide (countIn d xs≠0))) H
theorem F8:S2 Y (G6 Y.K) xG:=by
 intro H x y v u b a;unfold xG;cases d:toPy x with
 |none=>trivial
 |some p=>
   cases c:toPy y with
   |none=>trivial
   |some q=>
     cases q with
     |list xs=>
       dsimp only;by_cases z:SeqAt.shaped p=true/\SeqAt.shaped (.list xs)=true/\(xs.all λz=>SeqAt.noMix z p)=true
       ·rw[Xl z];exact⟨.bl _,λ_=>by rw[Dn],λQ h=>⟨p,xs,den_of d b,den_of c a,z.1,z.2.1,λy a=>YE.mp z.2.2 y a,h⟩⟩
       ·rw[Xj z];trivial
     |_=>trivial
theorem EC{X:Cx}(j:X.A.units+65<cLine):mP X (compareOp .NotIn) (G6 X.K):=by
 intro a s Z H x y v u Q I f e h;obtain⟨d,xs,hd,k,c,b,nm,q⟩:=h;obtain⟨as,i⟩:=den_reads I d hd f;obtain⟨bs,g⟩:=den_reads I _ k e;exact PyProof.Rows.notIn_list_dataH g i b c j nm ⟨.bl _,H,I,rfl,q⟩
theorem gy{A:Around}{k:Nat}(a:Room k A):A.units+65<cLine:=by have:=a.un;omega
end
end Mi
namespace Mi
open PySem L2
def kA:List Ap->List Md->Bool
 |[],[]=>true
 |p::ps,m::r=>vH [] true p m&&kA ps r
 |_,_=>false
theorem fQ:∀{ps:List Ap} {mc:List Md},kA ps mc=true->ps.length=mc.length
 |[],[],_=>rfl
 |[],_::_,h=>by cases h
 |_::_,[],h=>by cases h
 | p::ps,m::r,h=>by
   have h:(vH [] true p m&&kA ps r)=true:=h;rw[YF]at h;rw[Xp,Xp,fQ h.2]
theorem fS{M:List Md}:∀{ps:List Ap} {mc:List Md},kA ps mc=true->∀(j:Nat) p,ps[j]?=some p->vH M true p (mc.getD j .F)=true
 |[],_,_,_,_,e=>by cases e
 |_::_,[],h,_,_,_=>by cases h
 | p::ps,m::r,h,j,q,e=>by
   have h:(vH [] true p m&&kA ps r)=true:=h;rw[YF]at h;cases j with
   |zero=>
     cases e
     have:=h.1
     cases p <;> cases m <;> first | exact this | cases this
   |succ j=>rw[YB];exact fS h.2 j q (by simpa using e)
def pc(b:List D->Out D)(a:T0->Res (List D)):T0->Res D:=λT=>(a T).bind (kQ b)
def pm(c:Nat)(b:Str)(d:List D->Out D)(o:T0->Res D)(a:T0->Res (List D)):T0->Res D:=λT=>(o T).bind λo=>if eh c b o=true then (a T).bind λds=>kQ d (o::ds) else .bad
def pk(c:Nat)(b:List D->Out D)(a:T0->Res (List D)):T0->Res D:=λT=>(a T).bind (lI c b)
def mc(ps:List Ap)(b:List D->Out D)(a:T0->Res (List D)):T0->Out D:=λT=>((a T).up T).bind (je ps b)
def mm(c:Nat)(b:Str)(ps:List Ap)(d:List D->Out D)(o:T0->Res D)(a:T0->Res (List D)):T0->Out D:=λT=>((o T).up T).bind λo T=>if eh c b o=true then ((a T).up T).bind λds T=>je ps d (o::ds) T else .bad
section
variable{Y:Cm}{Kr:KT D V}{pr:Nat->Bool}{M:List Md}{K:L0}
theorem dG{B U H:Hp}{N:List Addr}:KR Y .F .non .non B U H N:=show Dn Y B .non .non by rw[Dn]
end
theorem um{Y:Cm}{G:Hp}:∀ns:List Int,Dns Y G (ns.map D.int) (ns.map V.int)
 |[]=>by rw[Ym,Ym,Dns]
 | n::r=>by
   rw[Xm,Xm,Dns];exact⟨_,_,rfl,by rw[Dn],um r⟩
theorem Rp{Y:Cm}{b:List D->Out D}(h:∀ns:List Int,ns.length<=63->∃T,b [.scr (ns.map D.int)]=.ok (.bl true) T){vs:List V}{H:Hp}{Q:VK}{a:Addr}{ns:List Int}(c:vs=[.ref a])(f:SqF Y.K H a (ns.map V.int))(j:ns.length<=63)(d:∀p∈Y.tb,∃l,H p.1=some (.tbl l)/\p.2∈l)(g:∀H',Q (.bl true) H'):
 dX Y [.R] (KR Y .F) b vs H Q E0:=by
 subst c;obtain⟨T,e⟩:=h ns j;refine⟨H,H,λ_=>[],[.scr (ns.map D.int)],⟨Same.refl _,Same.refl _,λ_=>Yl,λ_ _ _ _ z=>(nomatch z),λ_ _ z=>(nomatch z),λi=>?_,rfl,d⟩,rfl,?_⟩
 · rw[fW,fW];cases i with
   |zero=>exact⟨.ref a,rfl,by show Dn Y H (.scr _) _;rw[Dn];exact⟨a,_,rfl,f,um ns⟩,rfl⟩
   |succ i=>exact rfl
 ·rw[e];intro v S J G H' N o n m k;have k:Dn Y S (.bl true) v:=k;rw[Dn]at k;rw[k];exact g H'
theorem O9{K:L0}{H:Hp}{a:Addr}{xs:List V}{T:Tbs}(o:Le T H)(h:SqL K H a xs):SqF K H a xs:=by
 rcases h with (h|h)|h
 · rcases o.2 a with z|⟨ob,b,z⟩|z
   ·rw[z]at h;cases h
   ·rw[z]at h;cases h
   ·rw[z]at h;cases h
 ·exact .inl h
 ·exact .inr h
theorem Ta{H:Hp}{T:Tbs}(o:Le T H):∀p∈T,∃l,H p.1=some (.tbl l)/\p.2∈l:=λp hp=>⟨_,o.1 p hp,Tbs.mem.mpr hp⟩
def nP(m:T0->Res D):T0->Res D:=λT=>(m T).bind λd=>if bL d=true then .ok d else .bad
section
variable{Y:Cm}{E:XK}{M:List Md}
theorem ir{b:TE}{a:T0->Res D}(f:PJ Y (KR Y .F) E M b a):PJ Y (KI Y .F .U) E M (uf Y.K b) (fb a):=by
 intro B U As Z H T Q R P;refine iq f B U As Z H T Q R ?_;cases e:fb a T with
 |ok ds=>
   rw[e]at P;intro J I L H1 N d g n ⟨vs,h,hd⟩;exact P J I L H1 N d g n ⟨vs,λi s=>h i (d.bu.trans s),hd⟩
 |exc c=>rw[e]at P;exact P
 |bad=>rw[e]at P;exact P
end
end Mi
namespace L2
open PySem PySem.Spec PyProof.Rows
section
variable{X:Cx}(K:L0)
theorem aV(h:X.K=K):Wr X (Mh K):=by subst h;exact MT
theorem vF(h:X.K=K):Wr X (PX K):=by subst h;exact Rw
theorem aB(h:X.K=K):fD X (.builtin "len") (λxs H Q=>∃p a,xs=[.ref p]/\(SqL K H p a\/SqT K H p a)/\Q (.int a.length) H):=by subst h;exact wD
theorem tF(h:X.K=K):fD X (.type "list") (λxs H Q=>∃p a,xs=[.ref p]/\(SqL K H p a\/SqT K H p a)/\∀l,H l=none->Q (.ref l) (upd H l (.lst a))):=by subst h;exact wC
theorem dU(h:X.K=K):fD X (.type "tuple") (λxs H Q=>∃p a,xs=[.ref p]/\((SqL K H p a/\∀l,H l=none->Q (.ref l) (upd H l (.tup a)))\/(SqT K H p a/\Q (.ref p) H))):=by subst h;exact tE
theorem BF(h:X.K=K)(a:X.calm=true):fD X (.type "set") (λxs H Q=>∃p ns,xs=[.ref p]/\SqL K H p (ns.map V.int)/\ns.length<4000/\∀q,H q=none->Q (.ref q) (upd H q (.set (λk=>(dd ns).any (·==k)) (dd ns).length))):=by subst h;exact Ff a
theorem BH(h:X.K=K)(b:X.calm=true):kW X (.builtin "min") ["default"] (λxs a H Q=>∃p ns d,xs=[.ref p]/\a=[d]/\SqL K H p (ns.map V.int)/\(ns=[]->Q d H)/\∀m∈ns,(∀x∈ns,m<=x)->Q (.int m) H):=by subst h;exact Fl b
theorem BI(h:X.K=K)(b:X.calm=true):kW X (.builtin "max") ["default"] (λxs a H Q=>∃p ns d,xs=[.ref p]/\a=[d]/\SqL K H p (ns.map V.int)/\(ns=[]->Q d H)/\∀m∈ns,(∀x∈ns,x<=m)->Q (.int m) H):=by subst h;exact Fm b
theorem vz(h:X.K=K)(a:X.A.units+64<cLine):mP X (compareOp .Eq) (G7 K false):=by subst h;exact Qn a
theorem CN(h:X.K=K)(a:X.A.units+64<cLine):mP X (compareOp .NotEq) (G7 K true):=by subst h;exact Qk a
theorem jo(h:X.K=K)(a:X.A.units+65<cLine):mP X (compareOp .In) (λx y H Q=>∃d xs,Den K H d x/\Den K H (.list xs) y/\SeqAt.shaped d=true/\SeqAt.shaped (.list xs)=true/\(∀z∈xs,SeqAt.noMix z d=true)/\Q (.bl (decide (countIn d xs≠0))) H):=by subst h;exact Qm a
theorem qz(h:X.K=K)(a:X.A.units+65<cLine):mP X (compareOp .NotIn) (Mi.G6 K):=by subst h;exact Mi.EC a
theorem Mr(h:X.K=K)(a:X.A.units+100<cLine):mP X (compareOp .Lt) (PV K):=by subst h;exact Ql a
theorem gN(h:X.K=K):fD X (.builtin "isinstance") (λxs H Q=>∃x c t b,xs=[x,.ty c]/\TyOf K H x t/\PySem.W.kitOne K t (.type c)=some b/\Q (.bl b) H):=by subst h;exact K4
theorem dY{e:Expr}{a:TE}{f:Str}{pos:Pos}(h:X.K=K)(b:PE X e a)(c:attributeBase e f X.env (eval e X.env)=eval e X.env):PE X (.Attribute e f pos) (Ek K a f):=by subst h;exact P4 b c
theorem bx{b l:Expr}{a:TE}(h:X.K=K)(c:PE X l a):PI X b l (uf K a):=by subst h;exact Ml c
end
end L2
namespace Mi
open PySem L2
def spT(K:L0)(T:Tbs):Sp:=λvs H Q _=>∃(a:Addr) (ns:List Int),vs=[.ref a]/\SqF K H a (ns.map V.int)/\ns.length<=63/\(∀p∈T,∃l,H p.1=some (.tbl l)/\p.2∈l)/\∀H',Q (.bl true) H'
def jL:List D->Option (List Bool)
 |[]=>some []
 |.bl b::r=>(jL r).map (b::·)
 |_::_=>none
def wI:D->Res D
 |.lst ds=>(match jL ds with|some bs=>.ok (.bl (bs.any id))|none=>.bad)
 |_=>.bad
def i4:List D->Option (List (Int×Int×List Int))
 |[]=>some []
 |d::r=>match pH d,i4 r with|some k,some a=>some (k::a)|_,_=>none
def xL(x d:D):Res D:=match x with
 |.lst []=>if bL d=true then .ok d else .bad
 | .lst (e::r)=>(match i4 (e::r) with
   |some a=>(match (e::r)[PySem.argBest (λi j=>dO (a.getD i (0,0,[])) (a.getD j (0,0,[]))) r.length]? with|some y=>.ok y|none=>.bad)
   |none=>.bad)
 |_=>.bad
section
variable{Y:Cm}{E:XK}{M:List Md}{K:L0}
theorem pE{G:Hp}:∀{ds:List D} {bs:List Bool} {xs:List V},jL ds=some bs->Dns Y G ds xs->xs=bs.map V.bl
 |[],ns,xs,e,h=>by rw[Dns]at h;cases e;rw[h];rfl
 | d::ds,ns,xs,e,h=>by
   rw[Dns]at h;obtain⟨x,r,rfl,a,b⟩:=h;cases d with
   |bl i=>
     rw[jL]at e;obtain⟨M,c,rfl⟩:=XR.mp e;rw[Dn]at a;rw[pE c b,a,Xm]
   |_=>cases e
theorem TN:S1 Y (λv H Q=>∃p,∃bs:List Bool,[v]=[.ref p]/\SqL K H p (bs.map V.bl)/\Q (.bl (bs.any id)) H) wI:=by
 intro H x v c;cases x with
 |lst ds=>
   rw[Dn]at c;obtain⟨a,xs,rfl,f,d⟩:=c;cases e:jL ds with
   |none=>
     have b:wI (.lst ds)=.bad:=by simp only[wI,e]
     rw[b];trivial
   |some bs=>
     have b:wI (.lst ds)=.ok (.bl (bs.any id)):=by simp only[wI,e]
     rw[b];have ex:=pE e d;subst ex;exact⟨.bl _,λ_=>by rw[Dn],λQ q=>⟨a,bs,rfl,SqL.of f,q⟩⟩
 |_=>trivial
theorem t8:∀{ds:List D} {a:List (Int×Int×List Int)},i4 ds=some a->ds.length=a.length
 |[],a,e=>by cases e;rfl
 | d::r,a,e=>by
   unfold i4 at e;cases c:pH d with
   |none=>rw[c]at e;cases e
   |some k=>
     cases b:i4 r with
     |none=>rw[c,b]at e;cases e
     |some l=>rw[c,b]at e;cases e;rw[Xp,Xp,t8 b]
theorem xW:∀{ds:List D} {a:List (Int×Int×List Int)} {i:Nat} {d:D},i4 ds=some a->ds[i]?=some d->pH d=some (a.getD i (0,0,[]))
 |[],a,i,d,e,h=>by cases h
 | x::r,a,i,d,e,h=>by
   unfold i4 at e;cases b:pH x with
   |none=>rw[b]at e;cases e
   |some k=>
     cases c:i4 r with
     |none=>rw[b,c]at e;cases e
     |some l=>
       rw[b,c]at e;cases e;cases i with
       |zero=>cases h;exact b
       |succ i=>rw[YB];exact xW c (by simpa using h)
theorem P9{N G:TE}{V S:T0->Res D}(ha:PJ Y (KC Y .F) E M N V)(hd:PJ Y (KR Y .X) E M G S):
 PJ Y (KR Y .F) E M (FN (λxs zs H Q=>∃p vs d,∃f:List (Int×Int×List Int),xs=[.ref p]/\zs=[d]/\SqL K H p vs/\vs.length=f.length/\(∀i v,vs[i]?=some v->SV K H v (f.getD i (0,0,[])))/\
  (vs=[]->Q d H)/\∀v,vs[PySem.argBest (λi j=>dO (f.getD i (0,0,[])) (f.getD j (0,0,[]))) (vs.length-1)]?=some v->Q v H) (b6 N dW) (b6 G dW)) (bn xL V S):=by
 intro B U As Z H T Q R P;refine ha.bnd R P λx v I L H1 O _ R1 e1 n1 J W=>hd.bnd R1 W λy u s o q N2 _ R2 e2 n2 d2 c=>?_;have J:Cn Y I H1 x v:=J;cases x with
 |lst ds=>
   have J:∃a xs,v=.ref a/\H1 a=some (.lst xs)/\Dns Y I ds xs:=J;obtain⟨a,xs,rfl,h1,C⟩:=J;have n:=e2.h _ _ h1;have m:=C.mono e2.b;cases ds with
   |nil=>
     rw[Dns]at C;subst C;replace c:Po Y (KR Y .F) E M s o As Z q T (if bL y=true then .ok y else .bad) Q:=c;by_cases z:bL y=true
     ·rw[Xl z]at c;exact⟨a,[],u,[],rfl,rfl,SqL.of n,rfl,λi v e=>(nomatch e),λ_=>c u s o q [] R2 (Gw.refl _ _ _) New.nil (ii z d2),λv e=>by cases e⟩
     ·rw[Xj z]at c;exact c.elim
   |cons e r=>
     replace c:Po Y (KR Y .F) E M s o As Z q T (match i4 (e::r) with
      |some f=>(match (e::r)[PySem.argBest (λi j=>dO (f.getD i (0,0,[])) (f.getD j (0,0,[]))) r.length]? with|some y=>.ok y|none=>.bad)
      |none=>.bad) Q:=c
     cases w:i4 (e::r) with
     |none=>rw[w]at c;exact c.elim
     |some f=>
       rw[w]at c;replace c:Po Y (KR Y .F) E M s o As Z q T (match (e::r)[PySem.argBest (λi j=>dO (f.getD i (0,0,[])) (f.getD j (0,0,[]))) r.length]? with|some y=>.ok y|none=>.bad) Q:=c;have A:=m.len;refine⟨a,xs,u,f,rfl,rfl,SqL.of n,by rw[<-A,t8 w],λi v t=>?_,λz=>?_,λv t=>?_⟩
       ·obtain⟨d,k,g⟩:=m.geti t;obtain⟨p,l,rfl,q1,q2⟩:=iE (K:=K) (xW w k) (Dn.mono R2.bh g);exact⟨p,l,rfl,q1,q2⟩
       ·subst z;cases A
       ·rw[<-A,Xp,Nat.add_sub_cancel]at t;obtain⟨d,k,g⟩:=m.geti t;rw[k]at c;exact c v s o q [] R2 (Gw.refl _ _ _) New.nil g
 |_=>exact c.elim
end
section
variable{Y:Cm}{E:XK}{M:List Md}
theorem fF(i:Nat)(a:M.getD i .F= .F:=by rfl):PJ Y (KR Y .F) E M (dF i) (vr i):=xF a
theorem fR(i:Nat)(a:M.getD i .F= .R:=by rfl):PJ Y (KR Y .U) E M (dF i) (vr i):=xR a
theorem fO(i:Nat){sh:Sh}(a:M.getD i .F= .O sh:=by rfl):PJ Y (KR Y .X) E M (dF i) (vr i):=xO a
theorem fC(i:Nat)(a:M.getD i .F= .O (.ct .fz):=by rfl):PJ Y (KC Y .F) E M (dF i) (vr i):=xC a
end
theorem JL{k:Nat}{A:Around}(r:Room k A):A.units+101<cLine:=by have:=r.un;omega
end Mi
namespace L2
open PySem PySem.Spec PyProof.Rows
section
variable{X:Cx}(K:L0)
theorem Fj(h:X.K=K)(a:X.calm=true):fD X (.builtin "any") (λxs H Q=>∃p,∃bs:List Bool,xs=[.ref p]/\SqL K H p (bs.map V.bl)/\Q (.bl (bs.any id)) H):=by subst h;exact Fk a
theorem zu(h:X.K=K)(e:X.calm=true)(c:X.A.units+101<cLine):kW X (.builtin "min") ["default"] (λxs b H Q=>∃p vs d,∃a:List (Int×Int×List Int),xs=[.ref p]/\b=[d]/\SqL K H p vs/\vs.length=a.length/\(∀i v,vs[i]?=some v->SV K H v (a.getD i (0,0,[])))/\
 (vs=[]->Q d H)/\∀v,vs[PySem.argBest (λi j=>dO (a.getD i (0,0,[])) (a.getD j (0,0,[]))) (vs.length-1)]?=some v->Q v H):=by subst h;exact BG e c
end
end L2
namespace Gd
open PySem L2
theorem SF:bootBuiltins "any" = some (.builtin "any"):=by decide +kernel
end Gd
namespace L2
open PySem
theorem Vc{P:List Value->Prop}(h:P []):∀us:List Value,us.length=0->P us:=by
 intro us a;rw[Yn.mp a];exact h
theorem lJ{P:List Value->Prop}(h:∀c:Value,P [c]):∀us:List Value,us.length=1->P us:=by
 intro us b;cases us with
 |nil=>cases b
 |cons a us=>exact Vc (P:=λus=>P (a::us)) (h a) us (Zt b)
theorem dQ{P:List Value->Prop}(h:∀d c:Value,P [d,c]):∀us:List Value,us.length=2->P us:=by
 intro us b;cases us with
 |nil=>cases b
 |cons a us=>exact lJ (P:=λus=>P (a::us)) (h a) us (Zt b)
theorem gp{P:List Value->Prop}(h:∀e d c:Value,P [e,d,c]):∀us:List Value,us.length=3->P us:=by
 intro us b;cases us with
 |nil=>cases b
 |cons a us=>exact dQ (P:=λus=>P (a::us)) (h a) us (Zt b)
theorem Jf{P:List Value->Prop}(h:∀f e d c:Value,P [f,e,d,c]):∀us:List Value,us.length=4->P us:=by
 intro us b;cases us with
 |nil=>cases b
 |cons a us=>exact gp (P:=λus=>P (a::us)) (h a) us (Zt b)
theorem OH{P:List Value->Prop}(h:∀g f e d c:Value,P [g,f,e,d,c]):∀us:List Value,us.length=5->P us:=by
 intro us b;cases us with
 |nil=>cases b
 |cons a us=>exact Jf (P:=λus=>P (a::us)) (h a) us (Zt b)
end L2
namespace L2
open PySem PySem.Spec PyProof.Rows
section
variable{P:Program}{w:World}{H H':Hp}{h h':Heap}{a:Addr}{o:HO}
theorem ObjOk.ex(x:ObjOk P w H h a o):∃u,h.get? a=some u:=by
 cases o with
 |lst xs=>obtain⟨_,_,_,_,e⟩:=x;exact⟨_,e⟩
 |tup xs=>obtain⟨_,_,_,_,e,_⟩:=x;exact⟨_,e⟩
 |dK b=>obtain⟨_,_,_,_,o,_,_,e,_⟩:=x;exact⟨_,e⟩
 |dT b=>obtain⟨_,_,_,_,o,_,_,e,_⟩:=x;exact⟨_,e⟩
 |set S n=>obtain⟨o,_,_,_,e,_⟩:=x;exact⟨_,e⟩
 |ins C dx fs=>obtain⟨_,_,_,e,_⟩:=x;exact⟨_,e⟩
 |own y=>obtain⟨_,e⟩:=x;exact⟨_,e⟩
 |xd fs=>obtain⟨_,⟨_,_,_,e,_⟩,_⟩:=x;exact⟨_,e⟩
 |rng lo hi=>obtain⟨_,_,_,e⟩:=x;exact⟨_,e⟩
 |frz ob u=>obtain⟨e,_⟩:=x;exact⟨_,e⟩
 |tbl l=>obtain⟨_,_,e,_⟩:=x;exact⟨_,e⟩
 |met f y=>exact⟨_,show h.get? a=some _ from x⟩
 |ext c=>obtain⟨_,⟨_,e⟩,_⟩:=x;exact⟨_,e⟩
theorem HOk.none(x:HOk P w H h)(e:h.get? a=Option.none):H a=Option.none:=by
 cases q:H a with
 |none=>rfl
 |some u=>obtain⟨v,r⟩:=(x a u q).ex;rw[e]at r;cases r
theorem HOk.hide(x:HOk P w H h){l:List Addr}(d:∀b∈l,H b=Option.none):HOk P w H (PySem.W.hideAll h l):=λa o e=>
 (x a o e).stay (λb u c q=>YO l q λz=>by
   have n:=d b z;rcases c with rfl|c
   ·rw[n]at e;cases e
   ·rw[n]at c;cases c) (λ_ q=>q) λ_ _ q=>q
end
def d8(P:Program)(w:World):BQ:=λouter H s E e s'=>∃(a C:Addr) (d:Value) (B:Heap) (H':Hp),e=.ref a/\s'.os=s.os/\AllBare s'.gens/\Un (lc outer) (lc outer) H H' s.heap B/\HOk P w H' B/\
 Heap.FlyingW B outer a (.ref C) d s'.heap/\(∀b∈lc outer,∀o,s.heap.get? b=some o->∃c,s'.heap.get? b=some {o with slots:=c})/\(∀b∈lc outer,H' b=none)/\E (.ref C) none H'
theorem Un.cut{fs:List Addr}{l:Addr}{j H H':Hp}{h0 h B:Heap}(a:Un fs [] j H h0 h)(b:Un (l::fs) (l::fs) H H' h B)(n:h0.get? l=none):Un fs fs j H' h0 B:=by
 have ne:∀c o,h0.get? c=some o->c∉fs->c∉l::fs:=λc o q e z=>by
  rcases Xv.mp z with rfl|z
  ·rw[n]at q;cases q
  ·exact e z
 refine⟨λc o q f e _=>b.keep c o (a.keep c o q f e (by simp)) (a.free c o q f (by simp)) (ne c o q e) (ne c o q e),λc o q f e g=>absurd e g,λc o q f g=>?_,λc o q g=>?_,λc xs q=>b.tups c xs (a.tups c xs q),λc o u q=>b.frzs c o u (a.frzs c o u q),
  λc xs q=>⟨(b.tbls c xs (a.tbls c xs q).1).1,λd o i p=>let ⟨m,k⟩:=(a.tbls c xs q).2 d o i p;(b.tbls c xs (a.tbls c xs q).1).2 d o m k⟩⟩
 ·obtain⟨o',i⟩:=a.there c o q (by simp);exact b.free c o' i (a.free c o q f (by simp)) (ne c o q g)
 ·obtain⟨o',i⟩:=a.there c o q (by simp);exact b.there c o' i (ne c o q g)
theorem Un.hide{fs:List Addr}{P:Program}{w:World}{H:Hp}{h:Heap}(hok:HOk P w H h)(n:∀b∈fs,H b=none):Un fs fs H H h (PySem.W.hideAll h fs):=
 ⟨λc o q f e _=>YO fs q e,λc o q f e a=>absurd e a,λc o q f a=>f,λc o q a=>⟨o,YO fs q a⟩,λ_ _ q=>q,λ_ _ _ q=>q,
  λc xs q=>⟨q,λd o g i=>⟨g,YO fs i λz=>by rw[n d z]at g;cases g⟩⟩⟩
theorem Un.fly{fs:List Addr}{H H':Hp}{h B h':Heap}(u:Un fs fs H H' h B)(st:B.StaysIn h')(a:∀b∈fs,∀o,h.get? b=some o->∃a,h'.get? b=some {o with slots:=a})(fr:∀b∈fs,H' b=none):Un fs [] H H' h h':=
 ⟨λc o q f g _=>st _ _ (u.keep c o q f g g),λc o q f g _=>a c g o q,λc o q f _=>by
  by_cases z:c∈fs
  ·exact fr c z
  ·exact u.free c o q f z,λc o q _=>by
  by_cases z:c∈fs
  ·obtain⟨x,e⟩:=a c z o q;exact⟨_,e⟩
  ·obtain⟨o',e⟩:=u.there c o q z;exact⟨_,st _ _ e⟩,u.tups,u.frzs,λc xs q=>⟨(u.tbls c xs q).1,λd o l k=>let ⟨j,i⟩:=(u.tbls c xs q).2 d o l k;⟨j,st _ _ i⟩⟩⟩
structure Own (X:Cx) (E:XK):Prop where
 xe:X.xe=λe s'=>wpAny (model X.prog X.w) X.A («leaving» X.env e) (λ_ s''=>d8 X.prog X.w X.outer X.H₀ X.s₀ E e s'') (λe' s''=>d8 X.prog X.w X.outer X.H₀ X.s₀ E e' s'')  s'
 ex:X.ex=[]
 stk:X.stack=X.env::X.outer
 fr:X.env.frame=some X.env.locals
theorem iD{P:Program}{w:World}{K:L0}{mg:Str->Option Value}{base:Heap}{N:List Str}{qual:Str}{scope:Scope}{f:Addr}{a:Value}{A:Around}{outer:List Env}{s:Shared}{H:Hp}{E:XK}:
 Own (re (d8 P w) P w K mg base N qual scope f a A outer s H E) E:=⟨rfl,rfl,rfl,rfl⟩
theorem qT{env:Env}{l:List Env}{L:Addr}(h:env.frame=some L):lc (env::l)=L::lc l:=by
 unfold lc;rw[List.filterMap_cons,h]
theorem qg{h h':Heap}{base:Heap}{l:List Env}{b:Addr}{o:Obj}(u:h.UpToSlots h')(g:h.FunFrames base l)(f:b∈lc l)(e:h.get? b=some o):∃c,h'.get? b=some {o with slots:=c}:=by
 obtain⟨_,o',a,d⟩:=g.mem f;rw[e]at a;cases a;exact u b o e d
section
variable{X:Cx}{E:XK}{pins:L1}{Z:St}{H:Hp}{s:Shared}
theorem Inv.above(I:Inv X pins Z H s):X.s₀.heap.get? X.env.locals=none:=Heap.get?_none_of_le I.ok.above
theorem Own.passes(O:Own X E):jP (d8 X.prog X.w) X E:=by
 intro pins Z H s e s' I h;obtain⟨j,C,n,B,H',rfl,os,bare,un,hok,c,d,fr,q⟩:=h;rw[O.xe];rw[O.stk]at un c d fr;rw[qT O.fr]at un d fr;have r:=c.2.2.1;refine wpAny_leaves_onW (by rw[<-O.stk];exact I.ok.frames) O.fr c λh' f up=>?_;have g:Un (lc X.outer) [] X.H₀ H X.s₀.heap s.heap:=by have:=I.base;rw[O.ex]at this;exact this
 refine⟨j,C,n,B,H',rfl,os.trans I.os,bare,g.cut un I.above,hok,f,λb a o e=>?_,λb a=>fr b (no _ a),q⟩;obtain⟨p,m⟩:=g.slot b o e (I.ok.frf b a) a (by simp);obtain⟨l2,l⟩:=d b (no _ a) _ m;obtain⟨i,k⟩:=qg up c.2.2.1.2.2 a l;exact⟨i,k⟩
theorem Own.raised(O:Own X E){h':Heap}{d C:Addr}{vs:List Value}(I:Inv X pins Z H s)(m:Heap.MadeExcOf s.heap h' d (.ref C) vs)(q:E (.ref C) none H):X.xe (.ref d) {s with heap:=h'}:=by
 rw[O.xe];have f:Un (lc X.outer) [] X.H₀ H X.s₀.heap s.heap:=by have:=I.base;rw[O.ex]at this;exact this
 have fs:=I.stack;rw[O.stk]at fs;have c:∀b∈lc (X.env::X.outer),H b=none:=by have:=I.stkFree;rw[O.stk]at this;exact this
 have k:s.heap.FunFrames (PySem.W.hideAll s.heap (lc (X.env::X.outer))) (X.env::X.outer):=PySem.W.funFrames_hide fs λenv i b a=>Y9.mpr ⟨env,i,a⟩;refine wpAny_leaves_madeW (h:=s.heap) (base:=PySem.W.hideAll s.heap (lc (X.env::X.outer))) (by rw[<-O.stk];exact I.ok.frames) O.fr (λb o e=>PySem.W.of_hideAll _ e) k m λx t j u v up=>?_
 have un:Un (X.env.locals::lc X.outer) (X.env.locals::lc X.outer) H H s.heap (PySem.W.hideAll s.heap (lc (X.env::X.outer))):=by
  have:=Un.hide I.hok c
  rw[qT O.fr]at this ⊢;exact this
 refine⟨d,C,.ref t,_,H,rfl,I.os,I.bare,f.cut un I.above,I.hok.hide c,j,λb a o e=>?_,λb a=>c b (by rw[qT O.fr];exact no _ a),q⟩;obtain⟨w,r⟩:=f.slot b o e (I.ok.frf b a) a (by simp);have p:=m.keeps _ _ r;have l:h'.FunFrames X.base X.outer:=I.funs.of_keeps λb o e _=>⟨o,m.keeps _ _ e,rfl⟩;obtain⟨g,n⟩:=qg up l a p;exact⟨g,n⟩
theorem Own.own(O:Own X E):PassesOwn (model X.prog X.w) X.A X.env X.xe:=by
 rw[O.xe];exact PassesOwn.leaving
end
def qF(K:L0)(C:Addr):List Value:=match K.lookup C with
 |some ⟨_,_,.cls a,_⟩=>a.mro
 |_=>[]
abbrev vBm:List Value:=[.type "ValueError",.type "Exception",.type "BaseException",.type "object"]
def lC(K:L0)(C:Addr):Bool:=PySem.W.excIn K C vBm "ValueError.__new__"
theorem vI{K:L0}{h:Heap}{C:Addr}(X:K.In h)(q:lC K C=true):∃(bm:List Value) (N:Addr) (nm c:Str) (bs:List Value) (hdct:Bool) (sn:List Str) (sub:List Value) (ab:Bool) (col:Option Bool) (dd:Option Addr) (k0 k1 k2 k3 k5:Option Value) (mN:Str->Option Value),
 h.get? C=some (excClassObj nm c C N bs bm hdct sn sub ab col dd k0 k1 k2 k3 k5 "ValueError.__new__")/\h.Ns N mN/\mN "__init__" = none/\OwnTail h vBm bm/\qF K C=.ref C::bm:=by
 unfold lC PySem.W.excIn at q;split at q
 · rename_i dd r g j;split at q
   · rename_i k bm k0 k1 k2 k3 n k5 f i;simp only[Bool.and_eq_true,beq_iff_eq,Bool.not_eq_true']at q;obtain⟨⟨⟨⟨⟨rfl,rfl⟩,a⟩,o⟩,hok⟩,b⟩:=q;have e:qF K k=.ref k::bm:=by unfold qF;rw[j];exact f
     obtain⟨nm,bs,m,ns,c,hd,sn,sub,ab,col,p⟩:=r;dsimp only at f a hok b;subst f a
     have d:g=#[k0,k1,k2,k3,some (.builtin "ValueError.__new__"),k5]:=by
      obtain⟨l⟩:=g;simp only at i;rw[i]
     subst d;exact⟨bm,ns,nm,c,bs,hd,sn,sub,ab,col,dd,k0,k1,k2,k3,k5,_,X _ _ j,.of_isNs (PySem.W.isNs_of_in X hok),PySem.W.nsMap_none_of_in X hok b,PySem.W.tail_of_in X o,e⟩
   ·cases q
 ·cases q
section
variable{X:Cx}{E:XK}{x:Str}{C:Addr}{np cpos pos:Pos}{e₀:Expr}{t:TA}
def FH(E:XK)(C:Addr)(t:TA):TS:=λ_ Z H=>t Z H λvs H'=>vs.length<=1000/\E (.ref C) none H'
theorem gh(O:Own X E)(r:X.calm=true)(p:Gl X x)(l:X.mg x=some (.ref C))(o:lC X.K C=true)(u:PA X [e₀] t)(hd:(x==("__debug__" : Str))=false:=by decide)
 (f:starEach [e₀] X.env=(false,eval e₀ X.env)::starEach [] X.env:=by rfl) (c:(backTo cpos (starEach [] X.env)).any (·.1)=false:=by rfl):
 PS X (.Raise (some (.Call (.Name x np) [e₀] [] cpos)) none pos) (FH E C t):=by
 intro a s Z H D I h;obtain⟨bm,N,nm,j,bs,hdct,sn,sub,ab,col,dd,k0,k1,k2,k3,k5,mN,w,v,d,T,_⟩:=vI I.ok.mod.kin o
 refine wpAny_Raise_call_subT (C:=C) (nm:=nm) (q:=j) (N:=N) (bs:=bs) (bm:=bm) (hdct:=hdct) (sn:=sn) (sub:=sub) (ab:=ab) (col:=col) (dd:=dd) (k0:=k0) (k1:=k1) (k2:=k2) (k3:=k3) (k5:=k5)
  PySem.F.excBase_ValueError (mN:=mN) (T.hasType PySem.F.excBase_ValueError.hasBase) (I.ok.hd r) (by rw[f];show(false||(backTo cpos (starEach [] X.env)).any (·.1))=false;rw[c];rfl) d (kZ I p l ⟨rfl,?_⟩ hd)
 have g:=u cpos a s Z H _ I h;rw[f]at g ⊢;refine Y0 (cQ g λus s2 ⟨vs,y,b,i,n,k⟩=>⟨rfl,?_,b.bk _ _ w,v.keeps b.bk,T.keeps b.bk,λh' e m=>O.raised b m k⟩);rw[<-i.length];exact X4 (Et n)
end
def PSf(X:Cx)(a:L1)(Z:St)(st:List Stmt)(t:TS):Prop:=∀(s:Shared) (H:Hp) (D:Ends),Inv X a Z H s->t D Z H->wpAny (model X.prog X.w) X.A (execs st X.env) (SP X a D) X.xe s
def PEf(X:Cx)(a:L1)(Z:St)(e:Expr)(t:TE):Prop:=∀(s:Shared) (H:Hp) (Q:VK),Inv X a Z H s->t Z H Q->wpAny (model X.prog X.w) X.A (eval e X.env) (EP X a Z Q) X.xe s
def Pf(CX:BQ)(X:Cx)(a:L1)(Z:St)(E:XK):Prop:=∀(H:Hp) (s:Shared) (e:Value) (s':Shared),Inv X a Z H s->CX X.stack H s E e s'->X.xe e s'
def TB(X:Cx)(st:List Stmt)(tb:XK->TS):Prop:=∀(q:L4) (a:L1) (Z:St) (E:XK),Pf (d8 X.prog X.w) (X.wish q) a Z E->PSf (X.wish q) a Z st (tb E)
def TBe(X:Cx)(e:Expr)(te:XK->TE):Prop:=∀(q:L4) (a:L1) (Z:St) (E:XK),Pf (d8 X.prog X.w) (X.wish q) a Z E->PEf (X.wish q) a Z e (te E)
section
variable{X:Cx}{q:L4}
theorem PA.wish{b:List Expr}{t:TA}(h:PA X.nox b t):PA (X.wish q) b t:=λpos a s Z H Q I c=>
 Y8 (h pos a s Z H Q (I.unwish.wish _) c) (λ_ _ ⟨v,H',d,r,z⟩=>⟨v,H',d.unwish.wish _,r,z⟩) λ_ _ z=>False.elim z
end
section
variable{X:Cx}{CX:BQ}{k:Nat}{f C:Addr}{fd:FuncData}{ps:List Str}{sp:Sp}{dvs:List V}{ds:List Value}{E:XK}{x m:Str}{p pos apos:Pos}{e o:Expr}{es:List Expr}{ta:TE}{t:TA}
theorem L8{a:L1}{Z:St}{H:Hp}{s:Shared}{Q:VK}{us:List Value}{vs:List V}(F:FnOk X.prog X.w X.K X.mg X.base CX k f fd ps sp)(g:Room k X.A)(j:Binds X.K fd ps ds)(hd:Vals dvs ds)(d:Pf CX X a Z E)
 (I:Inv X a Z H s) (r:Vals vs us) (h:sp (vs++dvs) H Q E):wpAny (model X.prog X.w) X.A (call (.ref f) us) (EP X a Z Q) X.xe s:=by
 have c:Vals (vs++dvs) (us++ds):=r.append hd;have i:(us++ds).length=ps.length:=by rw[<-c.length];exact F.len _ _ _ _ h
 refine wpAny_call (Ze (F.run X.A X.stack s H ⟨us,[]⟩ (us++ds) (vs++dvs) Q E g I.env0 (j s us I.kIn i) c h) λr s' b=>?_);cases r with
 |error e=>exact d H s e s' I b
 |ok l=>
   cases l with
   |ret u=>exact I.after b
   |next=>exact False.elim b
   |brk=>exact False.elim b
   |cont=>exact False.elim b
theorem Lz(F:FnOk X.prog X.w X.K X.mg X.base (d8 X.prog X.w) k f fd ps sp)(i:Room k X.A)(m:Gl X x)(j:X.mg x=some (.ref f))(l:PySem.W.keepIn X.K (.ref f)=true)(o:Binds X.K fd ps ds)(hd:Vals dvs ds)
 (u:PA X.nox (e::es) t) (c:(x==("__debug__" : Str))=false:=by decide) (n:starEach (e::es) X.env=(false,eval e X.env)::starEach es X.env:=by rfl) (b:(backTo pos (starEach es X.env)).any (·.1)=false:=by rfl):
 TBe X (.Call (.Name x p) (e::es) [] pos) (λE=>tO sp dvs E t):=by
 intro q a Z E g s H Q I h;refine YH (kZ (X:=X.wish q) I m j ?_ c);refine Zb (h₀:=X.base) I.ok.mod.kin l (cQ (PA.wish (q:=q) u pos a s Z H _ I h) λus v ⟨vs,H1,d,r,q⟩=>⟨d.kIn,?_⟩) n b;exact L8 F i o hd g d r q
theorem Ly{te:XK->TE}(f:TBe X e te)(d:swapsWith e none pos.line X.env=pure false:=by rfl):TB X [.Expr e pos] (λE=>wT (te E)):=by
 intro q a Z E c s H D I h;refine ZH ?_;exact wpAny_Expr_any (cQ (f q a Z E c s H _ I h) λv i ⟨x,H1,g,j,b⟩=>YW ⟨Z,H1,g,b⟩) I.quiet d
end
abbrev Cx.hand(X:Cx)(a:Addr)(b:Obj):Cx:={X with A:=X.A.mark (some (.ref a)),calm:=false,pn:=(a,b)::X.pn,xe:=λ_ _=>False}
section
variable{X:Cx}{pins:L1}{Z:St}{H:Hp}{s:Shared}{ea:Addr}{oe:Obj}
theorem Cx.Ok.hand(ok:X.Ok):(X.hand ea oe).Ok:=⟨ok.mod,ok.kind,ok.glob,ok.blt,ok.above,ok.inj,ok.has,ok.cab,λz=>(nomatch z),ok.frames,ok.stk,ok.exf,ok.bs,ok.bsz,ok.noex,ok.exfs,ok.funs,ok.frf⟩
theorem Inv.hand(I:Inv X pins Z H s){vs:Array Value}(c:s.heap.get? ea=some oe)(e:H ea=none)(hd:oe.data=.fields vs):Inv (X.hand ea oe) pins Z H s:=by
 refine⟨I.ok.hand,I.os,I.bare,I.base,I.loc,I.cell,I.free,I.freeC,λp hp=>?_,I.hok,I.len⟩;rcases Xv.mp (show p∈(ea,oe)::(X.pn++pins) from hp) with rfl|hp
 · refine⟨c,e,λz=>?_,λz=>?_,λv z=>by rw[hd]at z;cases z⟩
   ·obtain⟨m,⟨o,f,g,a,b,_⟩,_⟩:=I.loc;replace z:ea=X.env.locals:=z;rw[z,a]at c;cases c;rw[hd]at b;cases b
   ·obtain⟨_,o,a,d⟩:=I.funs.mem z;replace a:s.heap.get? ea=some o:=a;rw[c]at a;cases a;exact d _ hd
 ·exact I.pin p hp
theorem Inv.unhand(I:Inv (X.hand ea oe) pins Z H s)(ok:X.Ok):Inv X pins Z H s:=
 ⟨ok,I.os,I.bare,I.base,I.loc,I.cell,I.free,I.freeC,λp hp=>I.pin p (no _ hp),I.hok,I.len⟩
theorem Inv.exc(I:Inv (X.hand ea oe) pins Z H s):s.heap.get? ea=some oe:=(I.pin (ea,oe) Xk).1
theorem Inv.fly{s':Shared}{B:Heap}{H':Hp}(I:Inv X pins Z H s)(un:Un (lc X.stack) (lc X.stack) H H' s.heap B)(hok:HOk X.prog X.w H' B)(st:B.StaysIn s'.heap)
 (a:∀b∈lc X.stack,∀o,s.heap.get? b=some o->∃a,s'.heap.get? b=some {o with slots:=a}) (fr:∀b∈lc X.stack,H' b=none) (os:s'.os=s.os) (bare:AllBare s'.gens):Inv X pins Z H' s':=
 I.call' os (un.fly st a fr) (hok.kept st) bare λb z=>absurd z (by simp)
theorem pU{M:Model}{A:Around}{E:L4}{n:Str}{j:Nat}{pos:Pos}{Q:Unit->Shared->Prop}(I:Inv X pins Z H s)(Y:X.N.Nodup)(K:X.N[j]?=some n)(W:X.env.kindOf n=some .local)
 (h:∀s',Inv X pins (Z.set j none) H s'->Q () s'):wpAny M A (do bindName X.env n .none;unbindBehindTheSuite X.env n pos) Q E s:=by
 obtain⟨m,U,V⟩:=id I.loc;have C:(X.env.scope.kind == .class||(X.env.scope.kind == .module&&X.env.locals != X.env.globals))=false:=by rw[I.ok.kind];rfl
 have B:j<Z.length:=by rw[I.len];exact(XF.mp K).1
 have cne:=I.cne;refine wpAny_nameGoes_keeps W U C λh' v F g=>?_
 have a:HOk X.prog X.w H h':=λb ob e=>by
  refine(I.hok b ob e).stay (λc J D q=>(g.2 c ?_).trans q) (λ_ q=>q) λ_ _ q=>q;rintro rfl;have f:=I.free;rcases D with rfl|D
  ·rw[f]at e;cases e
  ·rw[f]at D;cases D
 refine h _ ⟨I.ok,I.os,I.bare,⟨λb o e n G x=>?_,λb o e n G x=>?_,I.base.free,λb o e x=>?_,I.base.tups,I.base.frzs,λb l q=>⟨(I.base.tbls b l q).1,λc o r u=>let ⟨L,f2⟩:=(I.base.tbls b l q).2 c o r u;⟨L,(g.2 c (bE L I.free)).trans f2⟩⟩⟩,⟨_,F,λi y O r u e3=>?_⟩,λy c e=>?_,I.free,I.freeC,λp hp=>?_,a,by simpa using I.len⟩
 ·exact(g.2 b (XN (XG (Xu e) I.ok.above))).trans (I.base.keep b o e n G x)
 ·obtain⟨R,r⟩:=I.base.slot b o e n G x;exact⟨R,(g.2 b (XN (XG (Xu e) I.ok.above))).trans r⟩
 ·obtain⟨o',r⟩:=I.base.there b o e x;exact⟨o',(g.2 b (XN (XG (Xu e) I.ok.above))).trans r⟩
 · by_cases t:i=j
   ·subst t;rw[Yp B]at u;cases u
   · rw[Yu (Y2 t)]at u;obtain⟨P,S,q⟩:=V i y O r u e3;refine⟨P,S,?_⟩;rcases q with ⟨k,e⟩|⟨k,c,e,z⟩
     · refine .inl ⟨k,?_⟩
       have:y≠n:=λe=>t (qE Y r (e▸K))
       simp[this,e]
     ·exact .inr ⟨k,c,e,z.sameBut g (cne y c e)⟩
 ·obtain⟨J,z⟩:=I.cell y c e;exact⟨J,z.sameBut g (cne y c e)⟩
 ·obtain⟨e,n,ne,T,d⟩:=I.pin p hp;exact⟨(g.2 p.1 ne).trans e,n,ne,T,d⟩
end
theorem qV{M:Model}{A:Around}{E:L4}{K:L0}{C G:Addr}{h:Heap}{g:Array GenState}{d:Drawn}{t:Nat}{os:OsState}{e:Addr}{k:Obj}{Q:Bool->Shared->Prop}
 (X:K.In h) (kC:lC K C=true) (v:lC K G=true) (x:h.get? e=some k) (a:k.cls=.ref C) (l:(qF K C).contains (.ref G)=true)
 (w:Q true ⟨h,g,d,t,os⟩):wpAny M A (excMatches (.ref e) (.ref G)) Q E ⟨h,g,d,t,os⟩:=by
 obtain⟨bm,N,nm,D,bs,hdct,sn,sub,ab,col,dd,k0,k1,k2,k3,k5,mN,n,_,_,R,u⟩:=vI X kC;obtain⟨i,S,r,q,z,b,p,j,B,o,y,P,O,L,J,I,s,m,_,_,TG,H⟩:=vI X v;rw[u]at l;have c:(Value.ref G::i).contains (.type "BaseException")=true:=by rw[List.contains_cons,TG.hasType PySem.F.excBase_ValueError.hasBase,Bool.or_true]
 have f:=tc_notTuple;unfold excMatches
 repeat (first | (with_reducible refine ZC x ?_;rw[a]) | with_reducible refine ZC m ?_ | with_reducible refine ZC n ?_ | (with_reducible refine wpAny_isSubtype_exc m ?_;rw[c]) | (with_reducible refine wpAny_isSubtype_exc n ?_;rw[l]) | wp_step)
 exact w
section
variable{X:Cx}{st:List Stmt}{tb:XK->TS}{x n:Str}{G:Addr}{j:Nat}{np hp pos:Pos}{b₀:Stmt}{suite:List Stmt}{th:Addr->Addr->TS}{ok:Addr->Prop}
def tH(K:L0)(G:Addr)(ok:Addr->Prop)(g:Addr->Addr->Hp->Prop):XK:=λb _ H'=>∃C,b=.ref C/\lC K C=true/\(qF K C).contains (.ref G)=true/\ok C/\∀a,H' a=none->g a C H'
def FE(K:L0)(G:Addr)(ok:Addr->Prop)(j:Nat)(tb:XK->TS)(th:Addr->Addr->TS):TS:=λD Z H=>
 tb (tH K G ok λb C H'=>th b C {nx:=λa H1=>D.nx (a.set j none) H1,rt:=D.rt,bk:=λa H1=>D.bk (a.set j none) H1,ct:=λa H1=>D.ct (a.set j none) H1} (Z.set j (some (.ref b))) H') D Z H
theorem Hb(g:X.stack=X.env::X.outer)(hfr:X.env.frame=some X.env.locals)(P:TB X st tb)(hg:Gl X x)(hm:X.mg x=some (.ref G))(hG:lC X.K G=true)(Q:X.N.Nodup)(M:X.N[j]?=some n)
 (U:X.env.kindOf n=some .local) (hx:S6 X.env.scope n) (hs:∀c oe C,oe.cls=.ref C->ok C->Ld (X.hand c oe) (b₀::suite) (th c C)) (hd:(x==("__debug__" : Str))=false:=by decide)
 (hf:X.fn n=true\/X.env.scope.names.lookup n=some .local:=by first | exact .inl rfl | exact .inr rfl | assumption):
 PS X (.Try st [.ExceptHandler (some (.Name x np)) (some n) (b₀::suite) hp] [] [] pos) (FE X.K G ok j tb th):=by
 intro a s Z H D I h;refine wpAny_Try_except ?_;refine Y8 (P (λe E=>wpAny (model X.prog X.w) X.A (noteFrame e X.env) (λ_ y=>wpAny (model X.prog X.w) X.A (setFlight e none) (λ_ t=>wpAny (model X.prog X.w) X.A (handleBy e X.env [.ExceptHandler (some (.Name x np)) (some n) (b₀::suite) hp]) (SP X a D) X.xe t) X.xe y) X.xe E) a Z _ ?_ s H D (I.wish _) h) (λd T z=>?_) (λe T z=>z)
 rotate_left
 · cases d with
   |next=>exact YW z.unwish
   |ret v=>exact z.unwish
   |brk=>exact z.unwish
   |cont=>exact z.unwish
 · intro H1 T e s' V hcx;obtain⟨c,C,a0,B,H',rfl,os,bare,un,hok,d,sl,fr,C',hCv,kC,L,kok,hh⟩:=hcx;cases hCv;replace V:=V.unwish;replace un:Un (lc X.stack) (lc X.stack) H1 H' T.heap B:=un;replace d:Heap.FlyingW B X.stack c (.ref C) a0 s'.heap:=d;rw[g]at d;have ff:=d.2.2.1;have hH:H' c=none:=hok.none d.2.1;show wpAny _ _ (noteFrame (.ref c) X.env) _ _ _;refine wpAny_looks_onW (by rw[<-g];exact I.ok.frames) hfr d λh4 fl4 up4=>?_;refine wpAny_landsW fl4 λh5 l Y=>?_;have up:=up4.trans Y
   have F:∀{k:Heap},s'.heap.UpToSlots k->∀b∈lc X.stack,∀o,T.heap.get? b=some o->∃sl,k.get? b=some {o with slots:=sl}:=λ{k} u b P o e=>by
    obtain⟨l1,e1⟩:=sl b P o e;rw[g]at P;obtain⟨l2,e2⟩:=qg u ff P e1;exact⟨l2,e2⟩
   have I5:Inv X a Z H' { s' with heap:=h5 }:=V.fly (s':={ s' with heap:=h5 }) un hok l.1 (F up) fr os bare;obtain⟨o5,v5,O,hc5,hd5,_⟩:=l.first;have S:Inv (X.hand c o5) a Z H' { s' with heap:=h5 }:=I5.hand O hH hd5;refine wpAny_handleBy_cons (codeAny_handlers_test ?_) (by intro z;cases z);refine kZ (X:=X.hand c o5) S hg hm ?_ hd;refine qV (K:=X.K) S.kIn kC hG O hc5 L ?_;show codeAny _ _ _ _ _;refine codeAny_handlers_suite_as ?_;refine lands_againW l λk R W=>?_;have I6:Inv X a Z H' { s' with heap:=k }:=V.fly (s':={ s' with heap:=k }) un hok R.1 (F (up.trans W)) fr os bare;obtain⟨o6,v6,he6,hc6,hd6,_⟩:=R.first;have I6h:Inv (X.hand c o6) a Z H' { s' with heap:=k }:=I6.hand he6 hH hd6;refine qd (X:=X.hand c o6) (i:=j) (v:=.ref c) I6h Q M hx rfl (λs7 I7=>?_) hf;refine Y8 (hs c o6 C hc6 kok a s7 _ H' _ I7 (hh c hH)) (λd s8 z=>?_) λ_ _ z=>z.elim;show wpAny _ _ _ _ _ _;cases d with
   |next=>obtain⟨f,p,J,q⟩:=z;exact pU (J.unhand I.ok) Q M U λs9 m=>⟨_,p,m,q⟩
   |brk=>obtain⟨f,p,J,q⟩:=z;exact pU (J.unhand I.ok) Q M U λs9 m=>⟨_,p,m,q⟩
   |cont=>obtain⟨f,p,J,q⟩:=z;exact pU (J.unhand I.ok) Q M U λs9 m=>⟨_,p,m,q⟩
   |ret u=>obtain⟨v,f,p,J,r,q⟩:=z;exact pU (J.unhand I.ok) Q M U λs9 m=>⟨v,_,p,m,r,q⟩
end
end L2
namespace PySem.W
open PySem PySem.Spec PySem.Calls PyProof.Rows
open Builtin Builtin.ObjectAttr Builtin.Getset_descriptor in
theorem MZ{prog:Program}{w:World}{A:Around}{R:Result->Shared->Prop}{s:Shared}{x C:Addr}{a:Value}(e:Looks (model prog w) s.heap (typeOf (.ref x)) (.ref C))(d:Looks (model prog w) s.heap (isSubtype (.ref C) (.type "object")) true)
 (h:R (.ok (.ret (.ref C))) s):codeAny (model prog w) A (.call (.builtin "getset_descriptor.__get__") ⟨[.builtin "object.__class__",.ref x,a],[]⟩) R s:=by
 obtain⟨b,g,c,t,os⟩:=s;refine codeAny_call_builtin KF.slot_gs.plain KF.entry_gs (KF.slot_gs.check _ _ _ _ _ _ _ _ KF.type_class (KF.args_gs _ _ _) ?_);unfold Builtin.«getset_descriptor.__get__» descrGet;rw[dga_obj];refine wpAny_bind (wpAny_pure ?_);unfold descrGetter descrCheckInstance descrNameAndClass isInstance;simp only[KF.owner_class]
 repeat lk
 refine⟨Code.quiet_builtin _ (by decide +kernel),codeAny_builtin KF.entry_class ?_⟩;unfold Builtin.«object.__class__» shownTypeOf
 repeat lk
 exact h
open Builtin Builtin.ObjectAttr Builtin.Getset_descriptor in
theorem E4{prog:Program}{w:World}{A:Around}{E:L4}{s:Shared}{K:Frag}{x D:Addr}{m:Obj}{Q:Option Value->Shared->Prop}(X:K.In s.heap)(n:s.heap.get? x=some m)(r:m.cls=.ref D)
 (k:findIn K (.ref D) "__getattribute__" = some (some (.builtin "BaseException.__getattribute__"))) (j:findIn K (.ref D) "__getattr__" = some none) (v:findIn K (.ref D) "__class__" = some (some (.builtin "object.__class__")))
 (o:specialIn K (.builtin "object.__class__") "__get__" = some (some (.builtin "getset_descriptor.__get__"))) (i:takesIn K (.builtin "object.__class__")=some true) (p:mroIn K D (.type "object")=some true) (u:mroIn K D (.type "BaseException")=some true)
 (h:Q (some (.ref D)) {s with toks:=s.toks+1}):wpAny (model prog w) A (getAttr? (.ref x) "__class__") Q E s:=by
 obtain⟨c,g,d,t,os⟩:=s;have e:Looks (model prog w) c (typeOf (.ref x)) (.ref D):=r▸(Looks.ld n).andThen .now;have H:=looks_findIn (M:=model prog w) X k;have L2:=looks_findIn (M:=model prog w) X j;have G:=looks_findIn (M:=model prog w) X v;have C:=looks_mroIn (M:=model prog w) X u;unfold getAttr? getAttrBy? getAttrBy;refine wpAny_bind (wpAny_mkText (wpAny_bind (wpAny_attempt (wpAny_holding (wpAny_bind (e.at (wpAny_bind (H.at ?_))))))));have y:=PySem.F.excAttr_ValueError.ga.bind (.ref x);have f:(Value.builtin "BaseException.__getattribute__" == Value.builtin "object.__getattribute__")=false:=by decide +kernel
 show wpAny _ _ (if _ then _ else _) _ _ _;rw[if_neg (by rw[f];simp)];unfold getAttrByItsOwn hookBefore;rw[if_pos (show onTheHeap (Value.ref D)=true from rfl)];refine wpAny_bind (L2.at ?_);refine wpAny_bind (wpAny_attempt (wpAny_holding ?_));unfold callGetattribute;refine wpAny_bind (wpAny_of_eq y ?_);have q:builtinKind "BaseException.__getattribute__" = some .slot:=by decide +kernel
 have b:splitId "BaseException.__getattribute__" = some ("BaseException","__getattribute__"):=by decide +kernel
 have l:=PySem.F.args_bexc_ga (.ref x) (.str (Str.ofString "__class__") t);have z:Looks (model prog w) c (isInstance (.ref x) (.type "BaseException")) true:=e.andThen C;show wpAny _ _ (call (.builtin "BaseException.__getattribute__") [.ref x,.str (Str.ofString "__class__") t]) _ _ _;refine wpAny_call (codeAny_call_builtin PySem.F.excAttr_ValueError.ga.plain PySem.F.entry_bexc_ga ?_);simp only[checkBuiltinCall,q,b];refine wpAny_bind (z.at ?_);rw[if_neg (by decide)];refine wpAny_of_eq (a:=()) l ?_
 have B:Looks (model prog w) c (Builtin.ObjectAttr.find (.ref x) (.ref D) "__class__") (.bind (.builtin "getset_descriptor.__get__") (.builtin "object.__class__")):=
  G.andThen ((show Looks (model prog w) c (getOf (some (.builtin "object.__class__"))) (some (.builtin "getset_descriptor.__get__")) from looks_specialIn X o).andThen
   ((show Looks (model prog w) c (dataDescriptor? (some (.builtin "object.__class__")) (some (.builtin "getset_descriptor.__get__"))) (some (.builtin "getset_descriptor.__get__",.builtin "object.__class__")) from(looks_takesIn (M:=model prog w) X i).andThen .now).andThen (Looks.tag .now)))
 refine wpAny_bind (wpAny_pure ?_);dsimp only;refine wpAny_bind (wpAny_pure (wpAny_bind (e.at (wpAny_bind (B.at ?_)))));show wpAny _ _ (Builtin.ObjectAttr.bindTo _ _ _ _) _ _ _;show wpAny _ _ (holding [Value.builtin "object.__class__"] (call (Value.builtin "getset_descriptor.__get__") [Value.builtin "object.__class__",Value.ref x,Value.ref D]) >>= ret) _ _ _;refine wpAny_bind (wpAny_holding (wpAny_call (MZ (s:=⟨c,g,d,t+1,os⟩) e (looks_mroIn (M:=model prog w) X p) ?_)));refine wpAny_pure ?_;exact handed_on rfl (wpAny_pure h)
def excAt(K:Frag)(D:Addr):Bool:=findIn K (.ref D) "__getattribute__" == some (some (.builtin "BaseException.__getattribute__"))&&(findIn K (.ref D) "__getattr__" == some none&&(findIn K (.ref D) "__class__" == some (some (.builtin "object.__class__")) &&
 (specialIn K (.builtin "object.__class__") "__get__" == some (some (.builtin "getset_descriptor.__get__"))&&(takesIn K (.builtin "object.__class__")==some true&&(mroIn K D (.type "object")==some true&&(mroIn K D (.type "BaseException")==some true&&(clsIn K D).isSome))))))
theorem kitx_exc{K:Frag}{x D:Addr}{i:Obj}(j:i.cls=.ref D)(e:excAt K D=true):KitX K (.ref x) (.ref D) (λh=>h.get? x=some i):=by
 unfold excAt at e;simp only[Bool.and_eq_true,beq_iff_eq]at e;obtain⟨y,w,v,u,t,s,r,p⟩:=e;obtain⟨B,d⟩:=Option.isSome_iff_exists.mp p
 have o:∃a b c,K.lookup D=some ⟨a,b,.cls B,c⟩:=by
  unfold clsIn at d;split at d
  ·rename_i E d' A m f;cases d;exact⟨_,_,_,f⟩
  ·cases d
 obtain⟨a,b,c,f⟩:=o;refine⟨λM h _ I=>j▸(Looks.ld I).andThen .now,λM h X _=>?_,λh l dd its n C X g=>?_,λX I k=>E4 X I j y w v u t s r k⟩
 ·intro H F G s' k q;unfold isType loadHead;exact wpAny_bind (wpAny_loadPart (k _ _ (X _ _ f)) (wpAny_pure q))
 ·refine Bool.eq_false_iff.mpr λq=>?_;have e:D=l:=Value.ref.inj (Zl.mp q);subst e;have z:=(X _ _ f).symm.trans g;cases z
end PySem.W
namespace L2
open PySem PySem.Spec PyProof.Rows
section
variable{X:Cx}{ea C:Addr}{oe:Obj}{g:V}{c:Value}
def rIs(ea:Addr)(g:V)(b:Bool):List V->Hp->VK->Prop:=λxs H Q=>xs=[.ref ea,g]/\Q (.bl b) H
theorem K5{b:Bool}(l:oe.cls=.ref C)(j:∀u,RelV g u->u=c)(k:PySem.W.excAt X.K C=true)(e:PySem.W.kitOne X.K (.ref C) c=some b):fD (X.hand ea oe) (.builtin "isinstance") (rIs ea g b):=by
 intro a s Z H xs us Q I r h;obtain⟨rfl,q⟩:=h;obtain⟨u,m,rfl,i,f⟩:=BS r;obtain rfl:u=Value.ref ea:=i;obtain rfl:=j _ f;exact Yb (PySem.W.kitx_exc l k) I.kIn I.exc e (λz=>nomatch z) λd=>⟨.bl b,H,I.tok d,rfl,q⟩
end
section
variable{P:Program}{w:World}{K:L0}{mg:Str->Option Value}{base:Heap}
theorem Fun.okX{x qual:Str}{st:Stmt}{f:Addr}{fd:FuncData}{N ps:List Str}{k:Nat}{sp:Sp}(F:Fun K x qual st f fd)(S:FnScope N ps (ao st))(len:∀vs H Q E,sp vs H Q E->vs.length=ps.length)
 (b:∀(a:Value) (A:Around) (outer:List Env) (s:Shared) (H:Hp) (vs:List V) (Q:VK) (E:XK),Room k (A.deeper (envOfC qual (ao st) s.heap.objs.size f a))->sp vs H Q E->
   ∃t,Ld (re (d8 P w) P w K mg base N qual (ao st) f a A outer s H E) (dh st) t/\t {nx:=λ_ H'=>Q .non H',rt:=Q} (jQ N vs) H):FnOk P w K mg base (d8 P w) (k+1) f fd ps sp:=by
 obtain⟨oc,i,kV,h,pm,an,a,ct,e,rfl,lk,d⟩:=F.ex;exact fn_of lk d S len λA outer s H vs Q E g c=>b a A outer s H vs Q E g c
theorem aN{N:List Str}{qual:Str}{scope:Scope}{f:Addr}{a:Value}{A:Around}{outer:List Env}{s:Shared}{H:Hp}{E:XK}:jP (d8 P w) (re (d8 P w) P w K mg base N qual scope f a A outer s H E) E:=iD.passes
theorem dJ{N:List Str}{qual:Str}{scope:Scope}{f:Addr}{a:Value}{A:Around}{outer:List Env}{s:Shared}{H:Hp}{E:XK}:PassesOwn (model P w) (re (d8 P w) P w K mg base N qual scope f a A outer s H E).A (re (d8 P w) P w K mg base N qual scope f a A outer s H E).env (re (d8 P w) P w K mg base N qual scope f a A outer s H E).xe:=iD.own
theorem no1{P:Program}{w:World}{outer:List Env}{H:Hp}{s s':Shared}{e:Value}(h:d8 P w outer H s E0 e s'):False:=by
 obtain⟨_,_,_,_,_,_,_,_,_,_,_,_,_,q⟩:=h;exact q
theorem xt{X:Cx}:jP (d8 P w) X E0:=λ_ _ _ _ _ _ _ h=>(no1 h).elim
theorem FnOk.calm{k:Nat}{f:Addr}{fd:FuncData}{ps:List Str}{sp:Sp}(F:FnOk P w K mg base (d8 P w) k f fd ps sp):FnOk P w K mg base Xi k f fd ps (λvs H Q _=>sp vs H Q E0):=
 ⟨λvs H Q E h=>F.len vs H Q E0 h,λA outer s H args us vs Q E c i d a b=>Ze (F.run A outer s H args us vs Q E0 c i d a b) λr s' h=>by
  cases r with
  |error e=>exact no1 h
  |ok g=>cases g<;>exact h⟩
end
end L2
namespace Mi
open PySem L2
def fK(c:Nat):T0->SO:=λT=>.exc c T
def dR(T:T0):Option Nat->Bool
 |none=>true
 | some j=>match T[j]? with
   |some none=>true
   |_=>false
theorem k8{T:T0}{j:Nat}(h:dR T (some j)=true):j<T.length/\rg T j=none:=by
 unfold dR at h;dsimp only at h;cases e:T[j]? with
 |none=>rw[e]at h;cases h
 |some x=>
   cases x with
   |none=>exact⟨(List.getElem?_eq_some_iff.mp e).1,by unfold rg;rw[e];rfl⟩
   |some y=>rw[e]at h;cases h
def W5(j:Option Nat):SO->SO
 |.nx T=>if dR T j=true then .nx T else .bad
 |_=>.bad
def Fz(j:Option Nat)(a:Nat->Bool)(d:T0->SO)(b:Nat->T0->SO):T0->SO:=λT=>match d T with
 |.exc c C=>if a c=true/\dR C j=true then W5 j (b c C) else .bad
 |.nx C=>.nx C
 |_=>.bad
section
variable{Y:Cm}{Kr:KT D V}{E:XK}{pr:Nat->Bool}{M:List Md}{K:L0}
theorem ij{c:Nat}{v:V}:SJ Y E Kr pr M (FH E (Y c) (b6 (tC v) dW)) (fK c):=λB U As Z H T D R P=>⟨(by decide:1<=1000),P Z B U As H R (Ex.refl _ _) (Kp.refl _ _) none⟩
def Tf(Y:Cm)(E:XK)(M:List Md)(B U:Hp)(Z:St)(r:SO)(D:Ends):Prop:=match r with
 |.nx C=>∀S J G H',Rel Y M S J G Z H' C->Ex B U S J->D.nx Z H'
 |.exc c C=>∀S J G H',Rel Y M S J G Z H' C->Ex B U S J->∀a,E (.ref (Y c)) a H'
 |_=>False
def TJf(Y:Cm)(M:List Md)(tb:XK->TS)(m:T0->SO):Prop:=∀E B U As Z H T D,Rel Y M B U As Z H T->Tf Y E M B U Z (m T) D->tb E D Z H
theorem RA{f:KT D V}{te:XK->TE}{m:T0->Out D}(h:∀E,MJ Y f E M (te E) m):TJf Y M (λE=>wT (te E)) (cC m):=by
 intro E B U As Z H T D R P;refine h E B U As Z H T _ R ?_;unfold cC at P;cases e:m T with
 |ok d C=>rw[e]at P;exact λv S J G H' N b a g k=>P S J G H' b a
 |exc c C=>rw[e]at P;exact P
 |bad=>rw[e]at P;exact P
def SC(l:List Nat):Nat->Bool:=λc=>l.contains c
theorem Rel.slot{B U H:Hp}{As:Nat->List Addr}{Z:St}{T:T0}{j:Nat}{x:Option V}(R:Rel Y M B U As Z H T)(h:rg T j=none):Rel Y M B U As (Z.set j x) H T:=by
 refine⟨R.bu,R.uh,R.nd,R.dj,R.un,λi=>?_,by rw[Yc];exact R.len,R.tb⟩;have l:=R.lo i;by_cases z:i=j
 ·subst z;rw[h]at l ⊢;exact l
 · have:rg (Z.set j x) i=rg Z i:=by unfold rg;rw[List.getElem?_set_ne (Ne.symm z)]
   rw[this];exact l
theorem Kp.slot{Z a:St}{j:Nat}{x:Option V}(k:Kp pr Z a)(hp:pr j=false):Kp pr Z (a.set j x):=λi hi=>by
 have:i≠j:=λz=>by rw[z,hp]at hi;cases hi
 have e:rg (a.set j x) i=rg a i:=by unfold rg;rw[List.getElem?_set_ne (Ne.symm this)]
 rw[e];exact k i hi
def A5(K:L0)(C:Addr)(c:Value):Bool:=(PySem.W.kitOne K (.ref C) c).getD false
def WJ(K:L0)(C:Addr)(a:List Value):List Bool:=a.map (A5 K C)
def okL(K:L0)(a:List Value)(C:Addr):Prop:=PySem.W.excAt K C=true/\∀c∈a,(PySem.W.kitOne K (.ref C) c).isSome=true
theorem okL.kit{a:List Value}{C:Addr}{c:Value}(h:okL K a C)(n:Nat)(e:a[n]?=some c):PySem.W.kitOne K (.ref C) c=some (A5 K C c):=by
 have:=h.2 c (Yv e)
 unfold A5;cases q:PySem.W.kitOne K (.ref C) c with
 |none=>rw[q]at this;cases this
 |some b=>rfl
theorem Rq{C:Addr}:(∀c∈([]:List Value),(PySem.W.kitOne K (.ref C) c).isSome=true)/\WJ K C []=[]:=⟨λ_ h=>(nomatch h),rfl⟩
theorem MS{C:Addr}{c:Value}{b:Bool}{a:List Value}{l:List Bool}(e:PySem.W.kitOne K (.ref C) c=some b)(h:(∀c∈a,(PySem.W.kitOne K (.ref C) c).isSome=true)/\WJ K C a=l):(∀x∈c::a,(PySem.W.kitOne K (.ref C) x).isSome=true)/\WJ K C (c::a)=b::l:=
 ⟨λx d=>by
  rcases Xv.mp d with rfl|d
  ·rw[e];rfl
  ·exact h.1 x d,by
  unfold WJ at h ⊢;rw[List.map_cons,h.2];unfold A5
  rw[e];rfl⟩
def isE(K:L0)(a C:Addr)(j:Nat)(g:V)(v:Value):TE:=Lq (rIs a g (A5 K C v)) (b6 (dF j) (b6 (tC g) dW))
theorem Vi{C:Addr}{i j:Nat}{g:V}{v:Value}{b:Bool}(e:PySem.W.kitOne K (.ref C) v=some b):∀(a:Addr) (D:Ends) (Z:St) (H:Hp),Z[j]?=some (some (.ref a))->uP (tC (.bl b)) (eZ i) D Z H->uP (isE K a C j g v) (eZ i) D Z H:=λa D Z H c h=>by
 have d:A5 K C v=b:=by unfold A5;rw[e];rfl
 unfold isE;rw[d];exact⟨.ref a,c,rfl,h⟩
def HJ(Y:Cm)(K:L0)(Kr:KT D V)(E:XK)(pr:Nat->Bool)(M:List Md)(g j:Nat)(ok:Addr->Prop)(d:Addr->Addr->TS)(e:Nat->T0->SO)(l:List Nat):Prop:=∀c∈l,(lC K (Y c)=true/\(qF K (Y c)).contains (.ref (Y g))=true/\ok (Y c))/\
 ∃a:TS,SJ Y E Kr pr M a (e c)/\∀b D Z H,Z[j]?=some (some (.ref b))->a D Z H->d b (Y c) D Z H
theorem Vh{g j:Nat}{ok:Addr->Prop}{a:Addr->Addr->TS}{b:Nat->T0->SO}:HJ Y K Kr E pr M g j ok a b []:=λ_ h=>(nomatch h)
theorem Rx{g j c:Nat}{ok:Addr->Prop}{a:Addr->Addr->TS}{d:Nat->T0->SO}{l:List Nat}(b:TS)(o:lC K (Y c)=true)(n:(qF K (Y c)).contains (.ref (Y g))=true)(m:ok (Y c))(k:SJ Y E Kr pr M b (d c))
 (i:∀f D Z H,Z[j]?=some (some (.ref f))->b D Z H->a f (Y c) D Z H) (h:HJ Y K Kr E pr M g j ok a d l):HJ Y K Kr E pr M g j ok a d (c::l):=λx e=>by
 rcases Xv.mp e with rfl|e
 ·exact⟨⟨o,n,m⟩,b,k,i⟩
 ·exact h x e
theorem LZ{g j:Nat}{l:List Nat}{ok:Addr->Prop}{tb:XK->TS}{n:Addr->Addr->TS}{h:T0->SO}{f:Nat->T0->SO}(u:TJf Y M tb h)(hp:pr j=false)(t:HJ Y K Kr E pr M g j ok n f l):
 SJ Y E Kr pr M (FE K (Y g) ok j tb n) (Fz (some j) (SC l) h f):=by
 intro B U As Z H T D R P;refine u _ B U As Z H T D R ?_;unfold Fz at P;cases e:h T with
 |nx C=>rw[e]at P;exact λS J G H' d k=>P Z S J G H' d k (Kp.refl _ _)
 |exc c C=>
   rw[e]at P;dsimp only at P;intro S J G H' d k O;split at P
   · rename_i z;obtain⟨⟨k1,k2,k3⟩,N,v,p⟩:=t c (List.contains_iff_mem.mp z.1);obtain⟨b,s⟩:=k8 z.2;refine⟨Y c,rfl,k1,k2,k3,λw r=>?_⟩;have i:j<Z.length:=by rw[<-d.len];exact b
     refine p _ _ _ _ (by rw[Yp i]) (v S J G (Z.set j (some (.ref w))) H' C _ (d.slot s) ?_);cases q:f c C with
     |nx a=>
       rw[q]at P;replace P:So Y E Kr pr M B U Z (if dR a (some j)=true then .nx a else .bad) D:=P;split at P
       ·rename_i y;intro o I L m H1 F A kp;exact P _ I L m H1 (F.slot (x:=none) (k8 y).2) (k.trans A) ((((Kp.refl pr Z).slot hp).trans kp).slot hp)
       ·exact P.elim
     |_=>rw[q]at P;exact P.elim
   ·exact P.elim
 |_=>rw[e]at P;exact P
theorem aZ{more:List Md}{t:TS}{body:T0->SO}{N:List Str}{vs:List V}{Q:VK}{H:Hp}{l:List D->Out D}(q:SJ Y E Kr (wM M M.length) (M++more) t body)(s:N.length=M.length+more.length)(k:l=run N.length body)(p:∀B U H,Kr .non .non B U H [])
 (h:dX Y M Kr l vs H Q E):t {nx:=λ_ H'=>Q .non H',rt:=Q} (L2.jQ N vs) H:=by
 obtain⟨B,U,As,ds,R,i,P⟩:=h;subst k;have hd:ds.length=vs.length:=by have:=R.len;rw[on,on]at this;exact this
 unfold L2.jQ;refine q B U As _ H (ds.map some++List.replicate (N.length-vs.length) none) _ (R.enter i) ?_;unfold run at P;rw[hd]at P;cases e:body (ds.map some++List.replicate (N.length-vs.length) none) with
 |nx C=>
   rw[e]at P;intro b S J G H' g f k';obtain⟨a,R2,j⟩:=g.leave i k';exact P .non S J a H' [] R2 f NewM.nil (p _ _ _)
 |rt d C=>
   rw[e]at P;intro v b S J G H' r g f k' n o;obtain⟨a,R2,j⟩:=g.leave i k';exact P v S J a H' r R2 f (j _ n) o
 |exc c C=>
   rw[e]at P;intro b S J G H' g f k' m;obtain⟨a,R2,j⟩:=g.leave i k';exact P S J a H' R2 f m
 |bk C=>rw[e]at P;exact P.elim
 |ct C=>rw[e]at P;exact P.elim
 |bad=>rw[e]at P;exact P.elim
theorem ce{more:List Md}{t:TS}{body:T0->SO}{N:List Str}{vs:List V}{Q:VK}{H:Hp}{l:List D->Out D}(p:SJ Y E Kr (wM M M.length) (M++more) t body)(r:N.length=M.length+more.length)(g:l=iT N.length body)
 (h:dX Y M Kr l vs H Q E):t {nx:=λ_ H'=>Q .non H',rt:=Q} (L2.jQ N vs) H:=by
 obtain⟨B,U,As,ds,R,f,P⟩:=h;subst g;have hd:ds.length=vs.length:=by have:=R.len;rw[on,on]at this;exact this
 unfold L2.jQ;refine p B U As _ H (ds.map some++List.replicate (N.length-vs.length) none) _ (R.enter f) ?_;unfold iT at P;rw[hd]at P;cases e:body (ds.map some++List.replicate (N.length-vs.length) none) with
 |nx C=>rw[e]at P;exact P.elim
 |rt d C=>
   rw[e]at P;intro v b S J G H' q j i k' n o;obtain⟨a,R2,k⟩:=j.leave f k';exact P v S J a H' q R2 i (k _ n) o
 |exc c C=>
   rw[e]at P;intro b S J G H' j i k' m;obtain⟨a,R2,k⟩:=j.leave f k';exact P S J a H' R2 i m
 |bk C=>rw[e]at P;exact P.elim
 |ct C=>rw[e]at P;exact P.elim
 |bad=>rw[e]at P;exact P.elim
theorem bD{a:List Md}{c:List D->Out D}{ps:List Ap}{t:TA}{m:T0->Res (List D)}(h:AJ Y E M ps t m)(b:kA ps a=true):PJ Y (KR Y .F) E M (tO (dX Y a (KR Y .F) c) [] E t) (pc c m):=
 Hr h (fQ b) (fS b) λ_ _ _ _ _ _ _ h=>h
theorem cA{s:Sh}{a:List Md}{c:List D->Out D}{ps:List Ap}{t:TA}{m:T0->Res (List D)}(h:AJ Y E M ps t m)(b:kA ps a=true):PJ Y (KO Y s) E M (tO (dX Y a (KO Y s) c) [] E t) (pc c m):=
 Hr h (fQ b) (fS b) λ_ _ _ _ _ _ _ h=>h
theorem d9{c:Nat}{d:Str}{a:List Md}{g:List D->Out D}{p:Ap}{ps:List Ap}{b:TE}{e:T0->Res D}{t:TA}{m:T0->Res (List D)}(i:A1J Y E M p b e)(h:AJ Y E M ps t m)(f:kA (p::ps) a=true):
 PJ Y (KR Y .F) E M (qb (Y c) d (dX Y a (KR Y .F) g) [] E b t) (pm c d g e m):=Hk i h (fQ f) (fS f) λ_ _ _ _ _ _ _ h=>h
theorem vg{s:Sh}{c:Nat}{d:Str}{a:List Md}{g:List D->Out D}{p:Ap}{ps:List Ap}{b:TE}{e:T0->Res D}{t:TA}{m:T0->Res (List D)}(i:A1J Y E M p b e)(h:AJ Y E M ps t m)(f:kA (p::ps) a=true):
 PJ Y (KO Y s) E M (qb (Y c) d (dX Y a (KO Y s) g) [] E b t) (pm c d g e m):=Hk i h (fQ f) (fS f) λ_ _ _ _ _ _ _ h=>h
theorem He{c:Nat}{sh:List (Str×Sh)}{a:List Md}{d:List D->Out D}{ps:List Ap}{t:TA}{m:T0->Res (List D)}(h:AJ Y E M ps t m)(b:kA ps a=true):
 PJ Y (KO Y (.ob sh)) E M (FJ (Y c) (dX Y (.O (.ob sh)::a) (KR Y .F) d) [] E t) (pk c d m):=
 Qc h (by rw[Xp,fQ b]) rfl λj p e=>by rw[YB];exact fS b j p e
theorem qG{c:Nat}{d:Str}{a:List Md}{f:List D->Out D}{p:Ap}{ps:List Ap}{b:TE}{e:T0->Res D}{t:TA}{m:T0->Res (List D)}(k:A1J Y E M p b e)(h:AJ Y E M ps t m)(g:fitM M (p::ps) a)(hd:(kq (p::ps)).Nodup)
 (j:∀i∈Fn (p::ps),i∉kq (p::ps)):MJ Y (KR Y .F) E M (qb (Y c) d (dX Y a (KR Y .F) f) [] E b t) (mm c d (p::ps) f e m):=Rf k h g hd j λ_ _ _ _ _ _ _ h=>h
end
abbrev DI(W:Type):=List (List Int×W)
section
variable{W:Type}
def bM(f:W->D)(F:DI W):D:=.dT (F.map λp=>p.1.map Sum.inl) (F.map λp=>f p.2)
def DI.get(F:DI W)(k:List Int):Option W:=(F.find? λp=>decide (p.1=k)).map (·.2)
def DI.put(F:DI W)(k:List Int)(v:W):DI W:=if (F.get k).isSome=true then F.map λp=>if p.1=k then (p.1,v) else p else F++[(k,v)]
theorem k9{j k:List Int}:j.map (Sum.inl:Int->c9)=k.map Sum.inl↔j=k:=by
 constructor
 · intro h
   induction j generalizing k with
   |nil=>cases k with|nil=>rfl|cons _ _=>cases h
   |cons x j b=>
     cases k with
     |nil=>cases h
     |cons y k=>
       rw[Xm,Xm]at h;injection h with a c
       injection a with a
       rw[a,b c]
 ·intro h;rw[h]
theorem ku:∀k:List Int,gx (k.map D.int)=some (k.map Sum.inl)
 |[]=>rfl
 |x::k=>by rw[Xm,gx,ku k];rfl
theorem xS{f:W->D}{k:List Int}:∀F:DI W,dP (F.map λp=>p.1.map (Sum.inl:Int->c9)) (F.map λp=>f p.2) (k.map Sum.inl)=(DI.get F k).map f
 |[]=>rfl
 | p::F=>by
   rw[List.map_cons,List.map_cons,dP,xS F];unfold DI.get;rw[List.find?_cons];by_cases h:p.1=k
   ·rw[Xl (k9.mpr h),X8 h];rfl
   ·rw[Xj (λz=>h (k9.mp z)),X0 h]
theorem lb{f:W->D}{F:DI W}{k:List Int}:ni (bM f F) (.tup (k.map D.int))=some ((F.get k).map f):=by
 show(gx (k.map D.int)).map (λk=>dP (F.map λp=>p.1.map (Sum.inl:Int->c9)) (F.map λp=>f p.2) k)=_;rw[ku,Zo,xS]
theorem C0{k:List Int}:∀F:DI W,fq (F.map λp=>p.1.map (Sum.inl:Int->c9)) (k.map Sum.inl)=(DI.get F k).isSome
 |[]=>rfl
 | p::F=>by
   have a:=C0 (k:=k) F;unfold fq DI.get at *;rw[List.map_cons,List.any_cons,List.find?_cons,a];by_cases h:p.1=k
   ·rw[X8 (k9.mpr h),X8 h];rfl
   ·rw[X0 (λz=>h (k9.mp z)),X0 h];rfl
theorem xn{f:W->D}{k:List Int}{v:W}:∀F:DI W,n5 (F.map λp=>p.1.map (Sum.inl:Int->c9)) (F.map λp=>f p.2) (k.map Sum.inl) (f v)=(F.map λp=>if p.1=k then (p.1,v) else p).map λp=>f p.2
 |[]=>rfl
 | p::F=>by
   rw[Xm,Xm,n5,xn F,Xm,Xm];by_cases h:p.1=k
   ·rw[Xl (k9.mpr h),Xl h]
   ·rw[Xj (λz=>h (k9.mp z)),Xj h]
theorem JZ{f:W->D}{F:DI W}{k:List Int}{v:W}(h:F.length<am):yg (bM f F) (.tup (k.map D.int)) (f v)=some (bM f (F.put k v)):=by
 show((gx (k.map D.int)).bind λk=>if (F.map λp=>p.1.map (Sum.inl:Int->c9)).length<am then some (if fq (F.map λp=>p.1.map (Sum.inl:Int->c9)) k=true then D.dT (F.map λp=>p.1.map (Sum.inl:Int->c9)) (n5 (F.map λp=>p.1.map (Sum.inl:Int->c9)) (F.map λp=>f p.2) k (f v)) else D.dT ((F.map λp=>p.1.map (Sum.inl:Int->c9))++[k]) ((F.map λp=>f p.2)++[f v])) else none)=some (D.dT ((F.put k v).map λp=>p.1.map Sum.inl) ((F.put k v).map λp=>f p.2));rw[ku,Option.bind_some,if_pos (by rw[List.length_map];exact h),C0];unfold DI.put;by_cases q:(DI.get F k).isSome=true
 ·rw[Xl q,Xl q,xn,Yk,Yk];refine congrArg (λz=>some (D.dT z _)) ?_;refine YC λp _=>?_;show _=((if p.1=k then (p.1,v) else p).1).map Sum.inl;split<;>rfl
 ·rw[Xj q,Xj q,XJ,XJ];rfl
theorem la{F:DI W}{k j:List Int}{v:W}:(F.put k v).get j=if j=k then some v else F.get j:=by
 unfold DI.put;by_cases q:(DI.get F k).isSome=true
 · rw[Xl q]
   have e:∀G:DI W,DI.get (G.map λp=>if p.1=k then (p.1,v) else p) j=if j=k then (DI.get G k).map λ_=>v else DI.get G j:=by
    intro G
    induction G with
    |nil=>unfold DI.get;split<;>rfl
    |cons p G f=>
      unfold DI.get at f ⊢;rw[List.map_cons,List.find?_cons,List.find?_cons,List.find?_cons];by_cases b:p.1=k
      · rw[Xl b];by_cases a:j=k
        ·subst a;simp only[b,decide_true,Xl,Zo]
        ·have c:¬ p.1=j:=λz=>a (z.symm.trans b);simp only[c,decide_false];rw[f,Xj a,Xj a]
      · rw[Xj b];by_cases c:p.1=j
        ·have a:¬ j=k:=λz=>b (c.trans z);simp only[c,decide_true,Xj a]
        ·simp only[c,b,decide_false];exact f
   rw[e];by_cases h:j=k
   ·rw[Xl h,Xl h];obtain⟨x,i⟩:=ZE.mp q;rw[i];rfl
   ·rw[Xj h,Xj h]
 · rw[Xj q]
   have d:DI.get F k=none:=by
    cases z:DI.get F k with
    |none=>rfl
    |some x=>rw[z]at q;exact absurd rfl q
   unfold DI.get at d ⊢;rw[List.find?_append];by_cases h:j=k
   · subst h
     have g:F.find? (λp=>decide (p.1=j))=none:=by
      cases z:F.find? (λp=>decide (p.1=j)) with
      |none=>rfl
      |some x=>rw[z]at d;cases d
     rw[g,Xl rfl];simp
   · rw[Xj h]
     have:¬ k=j:=λz=>h z.symm
     simp[this]
end
open PySem.Spec (countIn same sameAll)
theorem tM{X:Type}{f:X->D}{g:X->PyData}(h:∀a,toPy (f a)=some (g a)):∀l:List X,toPys (l.map f)=some (l.map g)
 |[]=>rfl
 |a::l=>by rw[Xm,toPys,h a,tM h l];rfl
theorem nT{X:Type}{f:X->D}{g:X->PyData}(h:∀a,toPy (f a)=some (g a))(l:List X):toPy (.lst (l.map f))=some (.list (l.map g)):=by
 rw[toPy,tM h];rfl
theorem zU{X:Type}{g:X->PyData}(h:∀a,(g a).canLay0=true)(f:∀a,(g a).depth<=60)(l:List X):SeqAt.shaped (.list (l.map g))=true:=by
 have c:∀l:List X,PyData.canLayAll0 (l.map g)=true:=by
  intro l
  induction l with
  |nil=>simp[PyData.canLayAll0]
  |cons a l b=>simp[PyData.canLayAll0,h a,b]
 have d:∀l:List X,PyData.depthAll (l.map g)<=60:=by
  intro l
  induction l with
  |nil=>simp[PyData.depthAll]
  |cons a l b=>
    rw[Xm,PyData.depthAll]
    have:=f a
    omega
 have e:PyData.depth (.list (l.map g))<=64:=by rw[PyData.depth];have:=d l;omega
 unfold SeqAt.shaped;rw[Bool.and_eq_true];exact⟨by rw[PyData.canLay0];exact c l,decide_eq_true e⟩
theorem pA{X:Type}[DecidableEq X]{g:X->PyData}(h:∀a b,same (g a) (g b)=decide (a=b))(a:X):∀l:List X,(0<=countIn (g a) (l.map g))/\(countIn (g a) (l.map g)≠0↔a∈l)
 |[]=>by simp[countIn]
 | b::l=>by
   obtain⟨d,c⟩:=pA h a l;rw[Xm,countIn,h b a,Xv];by_cases e:b=a
   ·rw[Xl (by simpa using e)];exact⟨by omega,λ_=>.inl e.symm,λ_=>by omega⟩
   · rw[Xj (by simpa using e)];refine⟨by omega,λz=>.inr (c.mp (by omega)),λz=>?_⟩;rcases z with z|z
     ·exact absurd z.symm e
     ·have:=c.mpr z;omega
section
variable{X:Type}[DecidableEq X]{f:X->D}{g:X->PyData}
theorem CZ(h0:∀a,toPy (f a)=some (g a))(i:∀a,(g a).canLay0=true)(h:∀a,(g a).depth<=60)(k:∀a b,same (g a) (g b)=decide (a=b))(j:∀a b,SeqAt.noMix (g a) (g b)=true)(a:X)(l:List X):
 EW (f a) (.lst (l.map f))=.ok (.bl (decide (a∈l)))/\xG (f a) (.lst (l.map f))=.ok (.bl (!decide (a∈l))):=by
 have e:SeqAt.shaped (g a)=true:=by
  unfold SeqAt.shaped;rw[i a,Bool.true_and];exact decide_eq_true (by have:=h a;omega)
 have s2:=zU i h l
 have d:((l.map g).all λz=>SeqAt.noMix z (g a))=true:=by
  rw[Ad2,YE];exact λb _=>j b a
 have c:decide (countIn (g a) (l.map g)≠0)=decide (a∈l):=by
  have:=(pA k a l).2
  by_cases z:a∈l
  ·rw[X8 z,X8 (this.mpr z)]
  ·rw[X0 z,X0 (λw=>z (this.mp w))]
 constructor
 ·unfold EW;rw[h0 a,nT h0 l];show(if _ then _ else _)=_;rw[if_pos ⟨e,s2,d⟩,c]
 ·unfold xG;rw[h0 a,nT h0 l];show(if _ then _ else _)=_;rw[if_pos ⟨e,s2,d⟩,c]
end
end Mi
namespace Cl
open PySem L2 Mi
inductive OutC (Z X:Type) where
 |ok (a:X) (s:Z)|exc (c:Nat) (s:Z)|bad
inductive FlC (Z W:Type) where
 |nx (s:Z)|rt (b:W) (s:Z)|bk (s:Z)|ct (s:Z)|exc (c:Nat) (s:Z)|bad
def SimR{X O:Type}(e:X->O)(r:Res O)(q:Res X):Prop:=match q with
 |.ok a=>r=.ok (e a)
 |.exc x=>r=.exc x
 |.bad=>True
section
variable{Z X W O J:Type}{Y:Z->T0}
def SimO(Y:Z->T0)(e:X->O)(r:Out O)(q:OutC Z X):Prop:=match q with
 |.ok a s=>r=.ok (e a) (Y s)
 |.exc x s=>r=.exc x (Y s)
 |.bad=>True
def SimS(Y:Z->T0)(e:W->D)(r:SO)(q:FlC Z W):Prop:=match q with
 |.nx s=>r=.nx (Y s)
 |.rt b s=>r=.rt (e b) (Y s)
 |.bk s=>r=.bk (Y s)
 |.ct s=>r=.ct (Y s)
 |.exc x s=>r=.exc x (Y s)
 |.bad=>True
def EJ(Y:Z->T0)(e:X->O)(m:T0->Res O)(c:Z->Res X):Prop:=∀s,SimR e (m (Y s)) (c s)
def NJ(Y:Z->T0)(e:X->O)(m:T0->Out O)(c:Z->OutC Z X):Prop:=∀s,SimO Y e (m (Y s)) (c s)
def TJ(Y:Z->T0)(e:W->D)(m:T0->SO)(c:Z->FlC Z W):Prop:=∀s,SimS Y e (m (Y s)) (c s)
theorem SimR.bnd{e:X->O}{b:W->J}{r:Res O}{q:Res X}{k:O->Res J}{l:X->Res W}(h:SimR e r q)(c:∀a,SimR b (k (e a)) (l a)):SimR b (r.bind k) (q.bind l):=by
 cases q with
 |ok a=>rw[show r=_ from h];exact c a
 |exc x=>rw[show r=_ from h];exact rfl
 |bad=>trivial
@[elab_as_elim] theorem SimR.el{e:X->O}{r:Res O}{q:Res X}{P:Res O->Res X->Prop}(h:SimR e r q)(ok:∀a,P (.ok (e a)) (.ok a))(exc:∀x,P (.exc x) (.exc x))(bad:∀r,P r .bad):P r q:=by
 cases q with
 |ok a=>rw[show r=_ from h];exact ok a
 |exc x=>rw[show r=_ from h];exact exc x
 |bad=>exact bad r
theorem SimR.calm{e:X->O}{r:Res O}{q:Res X}(h:SimR e r q):SimR e r.calm q.calm:=by
 cases q with
 |ok a=>rw[show r=_ from h];exact rfl
 |exc x=>trivial
 |bad=>trivial
@[simp] def vC(g:Z->Option X):Z->Res X:=λs=>match g s with|some a=>.ok a|none=>.bad
@[simp] def pC(g:Z->X):Z->Res X:=λs=>.ok (g s)
@[simp] def kC(a:X):Z->Res X:=λ_=>.ok a
@[simp] def ba(f:X->Res W)(c:Z->Res X):Z->Res W:=λs=>(c s).bind f
@[simp] def aY(f:X->W->Res O)(a:Z->Res X)(b:Z->Res W):Z->Res O:=λs=>(a s).bind λx=>(b s).bind λy=>f x y
theorem RB{e:X->D}{i:Nat}{g:Z->Option X}(h:∀s,rg (Y s) i=(g s).map e):EJ Y e (vr i) (vC g):=λs=>by
 unfold vC vr;rw[h s];cases g s with
 |none=>trivial
 |some a=>exact rfl
theorem RC{e:X->D}{i:Nat}{g:Z->X}(h:∀s,rg (Y s) i=some (e (g s))):EJ Y e (vr i) (pC g):=λs=>by
 unfold vr pC;rw[h s];exact rfl
theorem vK{e:X->D}{d:D}{a:X}(h:e a=d):EJ Y e (aP d) (kC a):=λs=>by subst h;exact rfl
theorem bp{e:X->D}{b:W->D}{F:D->Res D}{f:X->Res W}{m:T0->Res D}{c:Z->Res X}(h:∀a,SimR b (F (e a)) (f a))(d:EJ Y e m c):EJ Y b (un F m) (ba f c):=λs=>(d s).bnd h
theorem ak{e:X->D}{g:W->D}{d:O->D}{F:D->D->Res D}{f:X->W->Res O}{m n:T0->Res D}{c:Z->Res X}{i:Z->Res W}(h:∀a b,SimR d (F (e a) (g b)) (f a b))(k:EJ Y e m c)(j:EJ Y g n i):EJ Y d (bn F m n) (aY f c i):=λs=>(k s).bnd λa=>(j s).bnd λb=>h a b
theorem bT{e:X->D}{d:W->D}{m:T0->Res D}{c:Z->Res X}{f:X->Res W}(h:∀a,SimR d (.ok (e a)) (f a))(b:EJ Y e m c):EJ Y d m (ba f c):=λs=>by
 have b:=b s;unfold ba;cases q:c s with
 |ok a=>rw[q]at b;rw[show m (Y s)=_ from b];exact h a
 |exc x=>rw[q]at b;exact b
 |bad=>trivial
def eN:Unit->D:=λ_=>.non
def eL(e:X->D):List X->D:=λxs=>.lst (xs.map e)
def eS:List Int->D:=λxs=>.scr (xs.map D.int)
def Bc(e:X->D):List X->D:=λxs=>.tup (xs.map e)
def iK(e:X->D)(a:W->D):X×W->D:=λp=>.tup [e p.1,a p.2]
def Fu(e:X->D)(b:W->D)(a:O->D):X×W×O->D:=λp=>.tup [e p.1,b p.2.1,a p.2.2]
def eO(e:X->D):Option X->D:=λo=>match o with|none=>.non|some a=>e a
abbrev eK:Int×Int×List Int->D:=Fu D.int D.int (eL D.int)
@[simp] def fg(o:Option X):Res X:=match o with|some a=>.ok a|none=>.bad
@[simp] def ig(a:X):Res (Option X):=.ok (some a)
@[simp] def OJ(a:X):Res X:=.ok a
theorem cF{e:X->D}(o:Option X):SimR e (.ok (eO e o)) (fg o):=by cases o<;>trivial
theorem jN{e:X->D}(a:X):SimR (eO e) (.ok (e a)) (ig a):=rfl
theorem ON{e:X->D}{F:(T0->Res D)->T0->Res D}{m:T0->Res D}{c:Z->Res X}(hF:∀T a,m T=.ok (e a)->F m T=.ok (e a))(b:∀T x,m T=.exc x->F m T=.exc x)(h:EJ Y e m c):EJ Y e (F m) c:=λs=>by
 have h:=h s;cases q:c s with
 |ok a=>rw[q]at h;exact hF _ _ h
 |exc x=>rw[q]at h;exact b _ _ h
 |bad=>trivial
theorem cV{e:X->D}{m:T0->Res D}{c:Z->Res X}(b:∀a,bL (e a)=true)(h:EJ Y e m c):EJ Y e (nP m) c:=
 ON (F:=nP) (λT a q=>by unfold nP;rw[q];show(if _ then _ else _)=_;rw[if_pos (b a)]) (λT x q=>by unfold nP;rw[q];rfl) h
theorem qZ{e:X->D}{m:T0->Res D}{c:Z->Res X}(b:∀a,qh (e a)=true)(h:EJ Y e m c):EJ Y e (tD m) c:=
 ON (F:=tD) (λT a q=>by unfold tD;rw[q];show(if _ then _ else _)=_;rw[if_pos (b a)]) (λT x q=>by unfold tD;rw[q];rfl) h
theorem sM{e:X->D}(h:∀a,bL (e a)=true)(xs:List X):(xs.map e).all bL=true:=by
 rw[Ad2,YE];exact λa _=>h a
theorem uW{e:X->D}(h:∀a,bL (e a)=true)(xs:List X):qh (eL e xs)=true:=sM h xs
theorem LY{e:X->D}(h:∀a,bL (e a)=true)(xs:List X):qh (Bc e xs)=true:=sM h xs
theorem FW{e:X->D}(h:∀a,qh (e a)=true)(o:Option X):qh (eO e o)=true:=by
 cases o with
 |none=>rfl
 |some a=>exact h a
theorem JI{e:X->D}(h:∀a,bL (e a)=true)(o:Option X):bL (eO e o)=true:=by
 cases o with
 |none=>rfl
 |some a=>exact h a
@[simp] def jO(a b:Int):Res Int:=.ok (a+b)
@[simp] def wU(a b:Int):Res Int:=.ok (a-b)
@[simp] def tu(a b:Int):Res Int:=if (-(2 ^ 64)<a/\a<2 ^ 64)\/(-(2 ^ 64)<b/\b<2 ^ 64) then .ok (a*b) else .bad
@[simp] def i9(a b:Int):Res Int:=if 0<b/\b<1073741824 then .ok (a / b) else .bad
@[simp] def eI(a b:Int):Res Int:=if 0<b then .ok (a%b) else .bad
@[simp] def Ti(a b:Int):Res Int:=if 0<=b then .ok (a / 2 ^ b.toNat) else .bad
@[simp] def Q9(a b:Int):Res Int:=.ok (if b<a then b else a)
@[simp] def Rb(a b:Int):Res Int:=.ok (if b>a then b else a)
@[simp] def MI(a b:Int):Res Bool:=.ok (decide (a<b))
@[simp] def Ft(a b:Int):Res Bool:=.ok (decide (b<a))
@[simp] def geC(a b:Int):Res Bool:=.ok (decide (b<=a))
@[simp] def og(a:Int):Res Int:=.ok (-a)
@[simp] def jU(a:Bool):Res Bool:=.ok (!a)
@[simp] def nQ[DecidableEq X](neg:Bool)(a b:X):Res Bool:=.ok (neg.xor (decide (a=b)))
theorem gm(a b:Int):SimR D.int (jg (.int a) (.int b)) (jO a b):=rfl
theorem qC(a b:Int):SimR D.int (sX (.int a) (.int b)) (wU a b):=rfl
theorem SimR.ite{e:X->O}{p:Prop}[Decidable p]{r a:Res O}{q b:Res X}(h:SimR e r q)(h':SimR e a b):SimR e (if p then r else a) (if p then q else b):=by
 by_cases z:p
 ·rw[Xl z,Xl z];exact h
 ·rw[Xj z,Xj z];exact h'
theorem tX(a b:Int):SimR D.int (tq (.int a) (.int b)) (tu a b):=by rw[HQ];exact SimR.ite rfl trivial
theorem gw(a b:Int):SimR D.int (gE (.int a) (.int b)) (i9 a b):=by rw[E3];exact SimR.ite rfl trivial
theorem cZ(a b:Int):SimR D.int (d5 (.int a) (.int b)) (eI a b):=by rw[Iy];exact SimR.ite rfl trivial
theorem Uo(a b:Int):SimR D.int (FU (.int a) (.int b)) (Ti a b):=by rw[FT];exact SimR.ite rfl trivial
theorem Up(a b:Int):SimR D.int (My (.int a) (.int b)) (Q9 a b):=rfl
theorem Uq(a b:Int):SimR D.int (MA (.int a) (.int b)) (Rb a b):=rfl
theorem EE(a b:Int):SimR D.bl (Jd (.int a) (.int b)) (MI a b):=rfl
theorem xA(a b:Int):SimR D.bl (E2 (.int a) (.int b)) (Ft a b):=rfl
theorem WW(a b:Int):SimR D.bl (WH (.int a) (.int b)) (geC a b):=rfl
theorem oQ(a:Int):SimR D.int (tm (.int a)) (og a):=rfl
theorem Hz(a:Bool):SimR D.bl (HI (.bl a)) (jU a):=rfl
theorem fJ(neg:Bool)(a b:Int):SimR D.bl (sV neg (.int a) (.int b)) (nQ neg a b):=rfl
@[simp] def i6(neg:Bool)(f:X->Bool)(a:X):Res Bool:=.ok (neg.xor (f a))
theorem eU{e:X->D}{m:T0->Res D}{c:Z->Res X}{neg:Bool}{f:X->Bool}(h:∀a,oY (e a)=f a)(b:EJ Y e m c):EJ Y D.bl (bn (iF neg) m (aP .non)) (ba (i6 neg f) c):=λs=>(b s).bnd λa=>by
 show iF neg (e a) .non=.ok (.bl (neg.xor (f a)));rw[<-h a];rfl
@[simp] def iZ(o:Option X):Bool:=o.isNone
theorem gZ{e:X->D}(h:∀a,oY (e a)=false)(o:Option X):oY (eO e o)=iZ o:=by
 cases o with
 |none=>rfl
 |some a=>exact h a
theorem aw{m:T0->Res D}{c:Z->Res Bool}(h:EJ Y D.bl m c):EJ Y (id:Bool->Bool) (cP m) c:=λs=>by
 have h:=h s;cases q:c s with
 |ok a=>rw[q]at h;have h:m (Y s)=.ok (.bl a):=h;show cP m (Y s)=.ok a;unfold cP;rw[h];rfl
 |exc x=>rw[q]at h;have h:m (Y s)=.exc x:=h;show cP m (Y s)=.exc x;unfold cP;rw[h];rfl
 |bad=>trivial
@[simp] def oI(a b:Z->Res Bool):Z->Res Bool:=λs=>(a s).bind λc=>if c=true then b s else .ok false
@[simp] def xw(a b:Z->Res Bool):Z->Res Bool:=λs=>(a s).bind λc=>if c=true then .ok true else b s
@[simp] def xZ(c:Z->Res Bool)(a b:Z->Res X):Z->Res X:=λs=>(c s).bind λt=>if t=true then a s else b s
theorem jx{a b:T0->Res Bool}{c d:Z->Res Bool}(f:EJ Y (id:Bool->Bool) a c)(e:EJ Y (id:Bool->Bool) b d):EJ Y (id:Bool->Bool) (wJ a b) (oI c d):=λs=>(f s).bnd λt=>SimR.ite (e s) rfl
theorem gA{a b:T0->Res Bool}{c d:Z->Res Bool}(f:EJ Y (id:Bool->Bool) a c)(e:EJ Y (id:Bool->Bool) b d):EJ Y (id:Bool->Bool) (vv a b) (xw c d):=λs=>(f s).bnd λt=>SimR.ite rfl (e s)
theorem d7{a:T0->Res Bool}{c:Z->Res Bool}(b:EJ Y (id:Bool->Bool) a c):EJ Y (id:Bool->Bool) (kj a) (ba jU c):=λs=>(b s).bnd λt=>rfl
theorem RE{a b:T0->Res D}{c d:Z->Res Bool}(g:EJ Y D.bl a c)(f:EJ Y D.bl b d):EJ Y D.bl (Nl a b) (oI c d):=λs=>by
 have:=aw g s
 exact SimR.bnd (e:=(id:Bool->Bool)) this λt=>SimR.ite (f s) rfl
theorem Vs{a b:T0->Res D}{c d:Z->Res Bool}(g:EJ Y D.bl a c)(f:EJ Y D.bl b d):EJ Y D.bl (WA a b) (xw c d):=λs=>by
 have:=aw g s
 exact SimR.bnd (e:=(id:Bool->Bool)) this λt=>SimR.ite rfl (f s)
theorem Bb{e:X->D}{t:T0->Res Bool}{a b:T0->Res D}{ct:Z->Res Bool}{c d:Z->Res X}(f:EJ Y (id:Bool->Bool) t ct)(h:EJ Y e a c)(g:EJ Y e b d):EJ Y e (JH t a b) (xZ ct c d):=λs=>(f s).bnd λt=>SimR.ite (h s) (g s)
structure Dat (e:X->D) [DecidableEq X] where
 py:X->PyData
 dep:Nat
 h0:∀a,toPy (e a)=some (py a)
 lay:∀a,(py a).canLay0=true
 depth:∀a,(py a).depth<=dep
 eqv:∀a b,PyData.eqv (py a) (py b)=decide (a=b)
 nomix:∀a b,SeqAt.noMix (py a) (py b)=true
theorem Dat.same{e:X->D}[DecidableEq X](A:Dat e)(a b:X):PySem.Spec.same (A.py a) (A.py b)=decide (a=b):=by rw[<-A.eqv,SeqAt.same_eq_eqv _ _ (A.nomix a b)]
theorem Dat.shp{e:X->D}[DecidableEq X](A:Dat e)(hd:A.dep<=64)(a:X):SeqAt.shaped (A.py a)=true:=by
 unfold SeqAt.shaped;rw[A.lay a,Bool.true_and];exact decide_eq_true (Nat.le_trans (A.depth a) hd)
theorem xB{e:X->D}[DecidableEq X](A:Dat e)(hd:A.dep<=64)(neg:Bool)(a b:X):SimR D.bl (Lu neg (e a) (e b)) (nQ neg a b):=by
 show Lu neg (e a) (e b)=.ok (.bl (neg.xor (decide (a=b))));unfold Lu;rw[A.h0,A.h0];show(if _ then _ else _)=_;rw[if_pos ⟨A.shp hd a,A.shp hd b⟩,A.eqv]
@[simp] def EX[DecidableEq X](neg:Bool)(a:X)(l:List X):Res Bool:=.ok (neg.xor (decide (a∈l)))
theorem qD{e:X->D}[DecidableEq X](A:Dat e)(hd:A.dep<=60)(a:X)(l:List X):SimR D.bl (EW (e a) (eL e l)) (EX false a l):=by
 have:=(CZ A.h0 A.lay (λa=>XY (A.depth a) hd) A.same A.nomix a l).1
 show EW (e a) (.lst (l.map e))=.ok (.bl (false.xor (decide (a∈l))));rw[this,Bool.false_xor]
theorem HA{e:X->D}[DecidableEq X](A:Dat e)(hd:A.dep<=60)(a:X)(l:List X):SimR D.bl (xG (e a) (eL e l)) (EX true a l):=by
 have:=(CZ A.h0 A.lay (λa=>XY (A.depth a) hd) A.same A.nomix a l).2
 show xG (e a) (.lst (l.map e))=.ok (.bl (true.xor (decide (a∈l))));rw[this,Bool.true_xor]
def ft:Dat D.int:=⟨PyData.int,1,λ_=>rfl,λa=>by simp[PyData.canLay0],λa=>by simp[PyData.depth],λa b=>by simp only[PyData.eqv];exact Zk _ _,λa b=>by simp[SeqAt.noMix]⟩
theorem qW{g:X->PyData}[DecidableEq X](h:∀a b,PyData.eqv (g a) (g b)=decide (a=b)):∀t u:List X,PyData.eqvAll (t.map g) (u.map g)=decide (t=u)
 |[],[]=>by simp[PyData.eqvAll]
 |[],_::_=>by simp[PyData.eqvAll]
 |_::_,[]=>by simp[PyData.eqvAll]
 | r::t,q::u=>by
   rw[Xm,Xm,PyData.eqvAll,h,qW h t u];by_cases d:r=q<;>by_cases c:t=u<;>simp[d,c]
end
section
variable{Z X W O J:Type}{Y:Z->T0}
theorem ng{g:X->PyData}(h:∀a b,SeqAt.noMix (g a) (g b)=true):∀t u:List X,SeqAt.noMixAll (t.map g) (u.map g)=true
 |[],[]=>by simp[SeqAt.noMixAll]
 |[],_::_=>by simp[SeqAt.noMixAll]
 |_::_,[]=>by simp[SeqAt.noMixAll]
 |r::t,q::u=>by rw[Xm,Xm,SeqAt.noMixAll,h,ng h t u];rfl
theorem qO{g:X->PyData}(h:∀a,(g a).canLay0=true):∀l:List X,PyData.canLayAll0 (l.map g)=true
 |[]=>by simp[PyData.canLayAll0]
 |a::l=>by simp[PyData.canLayAll0,h a,qO h l]
theorem nq{g:X->PyData}{n:Nat}(h:∀a,(g a).depth<=n):∀l:List X,PyData.depthAll (l.map g)<=n
 |[]=>by simp[PyData.depthAll]
 |a::l=>by rw[Xm,PyData.depthAll];have:=h a;have:=nq h l;omega
def o3{e:X->D}[DecidableEq X](A:Dat e):Dat (eL e):=⟨λl=>.list (l.map A.py),A.dep+1,λl=>nT A.h0 l,λl=>by rw[PyData.canLay0];exact qO A.lay l,λl=>by rw[PyData.depth];have:=nq A.depth l;omega,λa b=>by rw[PyData.eqv];exact qW A.eqv a b,λa b=>by rw[SeqAt.noMix];exact ng A.nomix a b⟩
def vN{e:X->D}{c:W->D}[DecidableEq X][DecidableEq W](A:Dat e)(B:Dat c):Dat (iK e c):=⟨λp=>.tuple [A.py p.1,B.py p.2],A.dep+B.dep+1,λp=>by
 show(toPys [e p.1,c p.2]).map PyData.tuple=_;rw[toPys,toPys,toPys,A.h0,B.h0];rfl,λp=>by rw[PyData.canLay0];simp[PyData.canLayAll0,A.lay,B.lay],λp=>by
 rw[PyData.depth];simp only[PyData.depthAll];have:=A.depth p.1;have:=B.depth p.2;omega,λa b=>by
 rw[PyData.eqv];simp only[PyData.eqvAll,A.eqv,B.eqv];obtain⟨j,i⟩:=a;obtain⟨h,g⟩:=b
 by_cases f:j=h<;>by_cases d:i=g<;>simp[f,d],λa b=>by rw[SeqAt.noMix];simp[SeqAt.noMixAll,A.nomix,B.nomix]⟩
theorem nl{d:PyData}(h:d≠ .none):PyData.eqv .none d=false/\PyData.eqv d .none=false/\SeqAt.noMix .none d=true/\SeqAt.noMix d .none=true:=by
 cases d with
 |none=>exact absurd rfl h
 |_=>simp[PyData.eqv,SeqAt.noMix]
def uq{e:X->D}[DecidableEq X](A:Dat e)(F:∀a,A.py a≠ .none):Dat (eO e):=⟨λo=>match o with|none=>.none|some a=>A.py a,A.dep+1,λo=>by
 cases o with
 |none=>rfl
 |some a=>exact A.h0 a,λo=>by
 cases o with
 |none=>simp[PyData.canLay0]
 |some a=>exact A.lay a,λo=>by
 cases o with
 |none=>simp[PyData.depth]
 |some a=>exact Nat.le_succ_of_le (A.depth a),λa b=>by
 cases a with
 |none=>
   cases b with
   |none=>simp[PyData.eqv]
   |some b=>exact(nl (F b)).1.trans (by simp)
 |some a=>
   cases b with
   |none=>exact(nl (F a)).2.1.trans (by simp)
   |some b=>exact(A.eqv a b).trans (by simp),λa b=>by
 cases a with
 |none=>
   cases b with
   |none=>simp[SeqAt.noMix]
   |some b=>exact(nl (F b)).2.2.1
 |some a=>
   cases b with
   |none=>exact(nl (F a)).2.2.2
   |some b=>exact A.nomix a b⟩
theorem yj(a:Int):ft.py a≠ .none:=λh=>PyData.noConfusion (show PyData.int a=.none from h)
theorem nu{e:X->D}[DecidableEq X](A:Dat e)(a:List X):(o3 A).py a≠ .none:=λh=>PyData.noConfusion (show PyData.list (a.map A.py)=.none from h)
@[simp] def nc(_:Unit):Res (Option X):=.ok none
theorem lq{e:X->D}(u:Unit):SimR (eO e) (.ok (eN u)) (nc u):=rfl
@[simp] def D4(xs:List Unit):Res (List (Option X)):=.ok (xs.map λ_=>none)
theorem wG{e:X->D}(xs:List Unit):SimR (eL (eO e)) (.ok (eL eN xs)) (D4 xs):=by
 show Res.ok (D.lst (xs.map eN))=Res.ok (D.lst ((xs.map λ_=>(none:Option X)).map (eO e)));rw[Yk];rfl
@[simp] def zH(xs:List X):Res (List (Option X)):=.ok (xs.map some)
theorem p8{e:X->D}(xs:List X):SimR (eL (eO e)) (.ok (eL e xs)) (zH xs):=by
 show Res.ok (D.lst (xs.map e))=Res.ok (D.lst ((xs.map some).map (eO e)));rw[Yk];rfl
@[simp] def S0(b:Bool)(_:X):Res Bool:=.ok b
theorem qY{e:X->D}{n:String}{b:Bool}{m:T0->Res D}{c:Z->Res X}(h:∀a,EU (e a) (.ty n)=.ok (.bl b))(d:EJ Y e m c):EJ Y D.bl (bn EU m (aP (.ty n))) (ba (S0 b) c):=λs=>(d s).bnd λa=>h a
@[simp] def Um(b a:Bool)(o:Option X):Res Bool:=.ok (match o with|none=>b|some _=>a)
theorem QF{e:X->D}{n:D}{c b:Bool}(h0:EU .non n=.ok (.bl c))(d:∀a,EU (e a) n=.ok (.bl b))(o:Option X):SimR D.bl (EU (eO e o) n) (Um c b o):=by
 cases o with
 |none=>exact h0
 |some a=>exact d a
@[simp] def dC:Z->Res (List X):=λ_=>.ok []
@[simp] def cD(a:Z->Res X)(r:Z->Res (List X)):Z->Res (List X):=λs=>(a s).bind λx=>(r s).bind λxs=>.ok (x::xs)
theorem bV{e:X->D}:EJ Y (List.map e) bq (dC:Z->Res (List X)):=λs=>rfl
theorem bJ{e:X->D}{m:T0->Res D}{n:T0->Res (List D)}{c:Z->Res X}{d:Z->Res (List X)}(g:EJ Y e m c)(f:EJ Y (List.map e) n d):EJ Y (List.map e) (aA m n) (cD c d):=λs=>(g s).bnd λa=>(f s).bnd λb=>rfl
@[simp] def jV(c:Z->Res (List X)):Z->Res (List X):=λs=>(c s).bind λxs=>if xs.length<=am then .ok xs else .bad
theorem bW{e:X->D}{m:T0->Res (List D)}{c:Z->Res (List X)}(h:EJ Y (List.map e) m c):EJ Y (eL e) (km m) (jV c):=λs=>(h s).bnd λxs=>by rw[on];exact SimR.ite rfl trivial
@[simp] def iW(a:Z->Res X)(b:Z->Res W):Z->Res (X×W):=λs=>(a s).bind λx=>(b s).bind λy=>.ok (x,y)
@[simp] def ez(xs:List X):Res Int:=.ok xs.length
theorem cK{e:X->D}(xs:List X):SimR D.int (fE (eL e xs)) (ez xs):=by show Res.ok (D.int _)=Res.ok (D.int _);rw[on]
theorem QI(xs:List Int):SimR D.int (fE (eS xs)) (ez xs):=by show Res.ok (D.int _)=Res.ok (D.int _);rw[on]
theorem Nf{e:X->O}(xs:List X)(i:Int):nJ (xs.map e) i=(nJ xs i).map e:=by
 unfold nJ;rw[List.length_map];cases JG xs.length i with
 |none=>rfl
 |some j=>simp only[Option.bind_some,X3]
@[simp] def iR(xs:List X)(i:Int):Res X:=match nJ xs i with|some a=>.ok a|none=>.bad
theorem BL{e:X->D}(xs:List X)(i:Int):SimR e (Ng (xs.map e) i) (iR xs i):=by
 unfold Ng iR;rw[Nf];cases nJ xs i<;>trivial
theorem db{e:X->D}(xs:List X)(i:Int):SimR e (i5 (eL e xs) (.int i)) (iR xs i):=BL xs i
theorem Ut(xs:List Int)(i:Int):SimR D.int (i5 (eS xs) (.int i)) (iR xs i):=BL xs i
theorem HE{e:X->D}(xs:List X)(i:Int):SimR e (SZ (Bc e xs) (.int i)) (iR xs i):=BL xs i
@[simp] def Rz(p:X×W):Res X:=.ok p.1
@[simp] def IA(p:X×W×O):Res W:=.ok p.2.1
@[simp] def FC(p:X×W×O):Res O:=.ok p.2.2
theorem nn{e:X->D}{b:W->D}{F:D->D->Res D}{f:X->Res W}{k:D}{m:T0->Res D}{c:Z->Res X}(h:∀a,SimR b (F (e a) k) (f a))(d:EJ Y e m c):EJ Y b (bn F m (aP k)) (ba f c):=λs=>(d s).bnd λa=>h a
theorem WV{e:X->D}{b:W->D}{a:O->D}(p:X×W×O):SimR a (SZ (Fu e b a p) (.int 2)) (FC p):=rfl
@[simp] def h8(xs a:List X):Res (List X):=if xs.length+a.length<=am then .ok (xs++a) else .bad
theorem oR{e:X->D}(xs a:List X):SimR (eL e) (sE (eL e xs) (eL e a)) (h8 xs a):=by
 show SimR (eL e) (if (xs.map e).length+(a.map e).length<=am then .ok (.lst (xs.map e++a.map e)) else .bad) (h8 xs a);rw[on,on];exact SimR.ite (by show Res.ok (D.lst _)=Res.ok (D.lst _);rw[XJ]) trivial
theorem Mu{e:X->D}(xs:List X):SimR (eL e) (vB (Bc e xs)) (OJ xs):=rfl
theorem xz{e:X->D}(xs:List X):SimR (Bc e) (zT (eL e xs)) (OJ xs):=rfl
@[simp] def io(p:X×X):Res (List X):=.ok [p.1,p.2]
theorem fB{e:X->D}(p:X×X):SimR (Bc e) (.ok (iK e e p)) (io p):=rfl
@[simp] def Be(neg:Bool)(k:List Int)(F:DI W):Res Bool:=.ok (neg.xor (F.get k).isSome)
@[simp] def Vw(F:DI W)(k:List Int):Res W:=match F.get k with|some b=>.ok b|none=>.bad
@[simp] def W6(F:DI W)(k:List Int)(x:W):Res W:=.ok ((F.get k).getD x)
@[simp] def Vx(F:DI W)(k:List Int):Res (Option W):=.ok (F.get k)
theorem CP{e:W->D}(neg:Bool)(k:List Int)(F:DI W):SimR D.bl (vM neg (Bc D.int k) (bM e F)) (Be neg k F):=by
 show vM neg (.tup (k.map D.int)) (bM e F)=.ok (.bl (neg.xor (F.get k).isSome));unfold vM;rw[lb];simp
theorem Aj{e:W->D}(F:DI W)(k:List Int):SimR e (o0 (bM e F) (Bc D.int k)) (Vw F k):=by
 show SimR e (o0 (bM e F) (.tup (k.map D.int))) _;unfold o0 Vw;rw[lb];cases F.get k<;>trivial
@[simp] def JQ(b:Z->Res (DI W))(a:Z->Res (List Int))(cx:Z->Res W):Z->Res W:=λs=>(b s).bind λF=>(a s).bind λk=>(cx s).bind λx=>W6 F k x
theorem C5{e:W->D}{b mk a:T0->Res D}{d:Z->Res (DI W)}{c:Z->Res (List Int)}{cx:Z->Res W}(h:EJ Y (bM e) b d)(g:EJ Y (Bc D.int) mk c)(f:EJ Y e a cx):
 EJ Y e (C2 b mk a) (JQ d c cx):=λs=>(h s).bnd λF=>by
 show SimR e (if true=true then _ else _) _;rw[if_pos rfl];refine(g s).bnd λk=>(f s).bnd λx=>?_;show kE (bM e F) (.tup (k.map D.int)) (e x)=.ok (e ((F.get k).getD x));unfold kE;rw[lb];cases F.get k<;>rfl
theorem M0{e:W->D}{a mk:T0->Res D}{c:Z->Res (DI W)}{b:Z->Res (List Int)}(f:EJ Y (bM e) a c)(d:EJ Y (Bc D.int) mk b):EJ Y (eO e) (JP a mk) (aY Vx c b):=λs=>(f s).bnd λF=>by
 show SimR (eO e) (if true=true then _ else _) _;rw[if_pos rfl];refine(d s).bnd λk=>?_;show kE (bM e F) (.tup (k.map D.int)) .non=.ok (eO e (F.get k));unfold kE;rw[lb];cases F.get k<;>rfl
@[simp] def JF(F:DI W):Res (List (List Int)):=.ok (F.map (·.1))
theorem HC{e:W->D}(F:DI W):SimR (eL (Bc D.int)) (CV (bM e F)) (JF F):=by
 show Res.ok (D.lst ((F.map λp=>p.1.map (Sum.inl:Int->c9)).map λk=>.tup (k.map kD)))=Res.ok (D.lst ((F.map (·.1)).map (Bc D.int)));rw[Yk,Yk];refine congrArg (λz=>Res.ok (D.lst z)) (YC λp _=>?_);show D.tup ((p.1.map (Sum.inl:Int->c9)).map kD)=D.tup (p.1.map D.int);rw[Yk];rfl
@[simp] def Jh(xs:List Int)(d:Int):Res Int:=.ok (match xs with | []=>d|x::r=>fk r x)
@[simp] def OE(xs:List Int)(d:Int):Res Int:=.ok (match xs with | []=>d|x::r=>i3 r x)
theorem eM:∀l:List Int,c7 (l.map D.int)=some l
 |[]=>rfl
 |x::l=>by rw[Xm,c7,eM l];rfl
theorem Mv(xs:List Int)(d:Int):SimR D.int (qU fk (eL D.int xs) (.int d)) (Jh xs d):=by
 show qU fk (.lst (xs.map D.int)) (.int d)=_;unfold qU;dsimp only;rw[eM];cases xs<;>rfl
theorem QG(xs:List Int)(d:Int):SimR D.int (qU i3 (eL D.int xs) (.int d)) (OE xs d):=by
 show qU i3 (.lst (xs.map D.int)) (.int d)=_;unfold qU;dsimp only;rw[eM];cases xs<;>rfl
@[simp] def vD(xs:List Int):Res Int:=if xs.length<4000 then .ok (dd xs).length else .bad
theorem HB(xs:List Int):SimR D.int (qN (eL D.int xs)) (vD xs):=by
 show SimR D.int (qN (.lst (xs.map D.int))) _;unfold qN vD;dsimp only;rw[eM];exact SimR.ite rfl trivial
theorem pD:∀l:List Bool,jL (l.map D.bl)=some l
 |[]=>rfl
 |x::l=>by rw[Xm,jL,pD l];rfl
@[simp] def Wi(xs:List Bool):Res Bool:=.ok (xs.any id)
theorem Ux(xs:List Bool):SimR D.bl (wI (eL D.bl xs)) (Wi xs):=by
 show wI (.lst (xs.map D.bl))=_;unfold wI;dsimp only;rw[pD]
theorem qQ(k:Int×Int×List Int):pH (eK k)=some k:=by
 show(c7 (k.2.2.map D.int)).map (λns=>(k.1,k.2.1,ns))=some k;rw[eM];rfl
@[simp] def Va(a b:Int×Int×List Int):Res Bool:=.ok (dO a b)
theorem Us(a b:Int×Int×List Int):SimR D.bl (SY (eK a) (eK b)) (Va a b):=by
 show SY (eK a) (eK b)=.ok (.bl (dO a b));unfold SY;rw[qQ,qQ];rfl
theorem t9:∀l:List (Int×Int×List Int),i4 (l.map eK)=some l
 |[]=>rfl
 |k::l=>by rw[Xm,i4,qQ,t9 l]
def lw:List (Int×Int×List Int)->Option (Int×Int×List Int)
 |[]=>none
 |k::r=>some (r.foldl (λb x=>if dO x b=true then x else b) k)
theorem oH(a:Nat->Nat->Bool)(n:Nat):PySem.argBest a (n+1)=if a (n+1) (PySem.argBest a n)=true then n+1 else PySem.argBest a n:=rfl
theorem wH:∀(n:Nat) (k:Int×Int×List Int) (r:List (Int×Int×List Int)),r.length=n->
 (k::r)[PySem.argBest (λi j=>dO ((k::r).getD i (0,0,[])) ((k::r).getD j (0,0,[]))) n]?=lw (k::r):=by
 intro n
 induction n with
 |zero=>
   intro k r h
   have:r=[]:=Yn.mp h
   subst this;rfl
 |succ n l=>
   intro k r h
   obtain⟨q,x,rfl⟩:∃q x,r=q++[x]:=by
    rcases List.eq_nil_or_concat r with z|⟨q,x,z⟩
    ·subst z;cases h
    ·exact⟨q,x,by rw[z,List.concat_eq_append]⟩
   have e:q.length=n:=by simpa using h
   have a:=l k q e
   have g:∀i,i<=n->(k::(q++[x])).getD i (0,0,[])=(k::q).getD i (0,0,[]):=λi hi=>by
    rw[<-Yo,Xx,Xx,Ys (by simp;omega)]
   have ab:∀m,m<=n->PySem.argBest (λi j=>dO ((k::(q++[x])).getD i (0,0,[])) ((k::(q++[x])).getD j (0,0,[]))) m=PySem.argBest (λi j=>dO ((k::q).getD i (0,0,[])) ((k::q).getD j (0,0,[]))) m:=by
    intro m
    induction m with
    |zero=>intro _;rfl
    |succ m d=>
      intro o;rw[oH,oH,d (by omega)];have f:=mO (λi j=>dO ((k::q).getD i (0,0,[])) ((k::q).getD j (0,0,[]))) m;rw[g (m+1) o,g _ (by omega)]
   rw[oH,ab n (XD _)];have f:=mO (λi j=>dO ((k::q).getD i (0,0,[])) ((k::q).getD j (0,0,[]))) n;generalize PySem.argBest (λi j=>dO ((k::q).getD i (0,0,[])) ((k::q).getD j (0,0,[]))) n=b at a f
   have p:(k::(q++[x])).getD (n+1) (0,0,[])=x:=by
    rw[YB,Xx,Yi (by omega),e,Zh];rfl
   rw[p,g b f]
   have c:lw (k::q)=some ((k::q).getD b (0,0,[])):=by
    rw[<-a,Xx,Xy (by simp;omega)];rfl
   unfold lw at c ⊢;dsimp only at c ⊢;injection c with c
   rw[List.foldl_append,ZY,List.foldl_nil,c];by_cases z:dO x ((k::q).getD b (0,0,[]))=true
   ·rw[Xl z,Xl z,YR,Yi (by omega),e,Zh];rfl
   ·rw[Xj z,Xj z,<-Yo,Ys (by simp;omega),Xy (by simp;omega),Xx,Xy (by simp;omega)];rfl
@[simp] def OG(xs:List (Int×Int×List Int)):Res (Option (Int×Int×List Int)):=.ok (lw xs)
theorem QH(xs:List (Int×Int×List Int)):SimR (eO eK) (xL (eL eK xs) .non) (OG xs):=by
 cases xs with
 |nil=>rfl
 |cons k r=>
   have a:i4 (eK k::r.map eK)=some (k::r):=t9 (k::r);show xL (.lst (eK k::r.map eK)) .non=.ok (eO eK (lw (k::r)));simp only[xL,a];rw[on,show eK k::r.map eK=(k::r).map eK from rfl,X3,wH _ k r rfl];rfl
end
section
variable{Z σ' X W O J:Type}{Y:Z->T0}{V:σ'->T0}
def TQ(Y:Z->T0)(e:X->D)(ix:List Nat):X×Z->T0:=λp=>some (e p.1)::h9 (Y p.2) ix
def jG(b:X->Res Bool)(te:X->Res W):List X->Res (List W)
 |[]=>.ok []
 |a::r=>(b a).calm.bind λc=>if c=true then (te a).calm.bind λx=>(jG b te r).bind λxs=>.ok (x::xs) else jG b te r
def cq(src:Z->Res (List X))(b:X×Z->Res Bool)(te:X×Z->Res W):Z->Res (List W):=λs=>(src s).bind λxs=>if xs.length<am then jG (λa=>b (a,s)) (λa=>te (a,s)) xs else .bad
theorem dq{e:X->D}{h:W->D}{ix:List Nat}{src:T0->Res (List D)}{f:T0->Res Bool}{te:T0->Res D}{b:Z->Res (List X)}{c:X×Z->Res Bool}{d:X×Z->Res W}
 (k:EJ Y (List.map e) src b) (j:EJ (TQ Y e ix) (id:Bool->Bool) f c) (m:EJ (TQ Y e ix) h te d):EJ Y (eL h) (iO src ix f te) (cq b c d):=λs=>(k s).bnd λxs=>by
 rw[on];refine SimR.ite ?_ trivial
 have g:∀l:List X,SimR (List.map h) (dD f te (h9 (Y s) ix) (l.map e)) (jG (λa=>c (a,s)) (λa=>d (a,s)) l):=by
  intro l
  induction l with
  |nil=>rfl
  |cons a l i=>
    rw[List.map_cons];unfold dD jG;refine SimR.bnd (j (a,s)).calm λt=>SimR.ite (SimR.bnd (m (a,s)).calm λx=>SimR.bnd i λxs=>?_) i;rfl
 have:=g xs
 exact SimR.el this (λ_=>rfl) (λ_=>rfl) λ_=>trivial
theorem iG:EJ Y (id:Bool->Bool) (λ_=>.ok true) (λ_=>.ok true):=λs=>rfl
theorem bX{e:X->D}{m:T0->Res D}{c:Z->Res (List X)}(h:EJ Y (eL e) m c):EJ Y (List.map e) (fb m) c:=λs=>by
 have h:=h s;unfold fb;exact SimR.el h (λ_=>rfl) (λ_=>rfl) λ_=>trivial
def bK(lo hi:Int):List Int:=(List.range (hi-lo).toNat).map λi:Nat=>lo+i
noncomputable def dy(lo hi:Int):Res (List Int):=@ite _ (-(2 ^ 62)<=lo/\lo<2 ^ 62/\-(2 ^ 62)<=hi/\hi<2 ^ 62) (Classical.propDecidable _) (.ok (bK lo hi)) .bad
theorem L9(lo hi:Int):(bK lo hi).map D.int=rng lo hi:=by unfold bK rng;rw[List.map_map];rfl
theorem cg{lo hi:Int}(d:-(2 ^ 62)<=lo)(c:lo<2 ^ 62)(b:-(2 ^ 62)<=hi)(a:hi<2 ^ 62):dy lo hi=.ok (bK lo hi):=by unfold dy;rw[if_pos ⟨d,c,b,a⟩]
theorem l4{a b:T0->Res D}{d c:Z->Res Int}(f:EJ Y D.int a d)(e:EJ Y D.int b c):EJ Y (List.map D.int) (uQ a b) (aY dy d c):=λs=>(f s).bnd λi=>(e s).bnd λj=>by
 show SimR _ (if -(2 ^ 62)<=i/\i<2 ^ 62/\-(2 ^ 62)<=j/\j<2 ^ 62 then _ else _) _;by_cases h:-(2 ^ 62)<=i/\i<2 ^ 62/\-(2 ^ 62)<=j/\j<2 ^ 62
 ·rw[Xl h,cg h.1 h.2.1 h.2.2.1 h.2.2.2];exact congrArg Res.ok (L9 i j).symm
 ·unfold dy;rw[if_neg h,if_neg h];trivial
theorem dg{b:T0->Res D}{c:Z->Res Int}(d:EJ Y D.int b c):EJ Y (List.map D.int) (fI b) (ba (dy 0) c):=λs=>l4 (vK (a:=(0:Int)) rfl) d s
def OutC.res:OutC Z X->Res X
 |.ok a _=>.ok a
 |.exc x _=>.exc x
 |.bad=>.bad
@[simp] theorem GD(a:X)(s:Z):(OutC.ok a s).res=.ok a:=rfl
@[simp] theorem Wx(x:Nat)(s:Z):(OutC.exc x s:OutC Z X).res=.exc x:=rfl
@[simp] theorem Wy:(OutC.bad:OutC Z X).res=.bad:=rfl
@[simp] def bndO(r:Res X)(s:Z)(k:X->OutC Z W):OutC Z W:=match r with
 |.ok a=>k a
 |.exc x=>.exc x s
 |.bad=>.bad
theorem SimO.res{e:X->D}{b:List D->Out D}{ds:List D}{q:OutC Z X}(h:SimO Y e (b ds) q):SimR e (kQ b ds) q.res:=by
 unfold kQ;cases q with
 |ok a s=>rw[show b ds=_ from h];rfl
 |exc x s=>rw[show b ds=_ from h];rfl
 |bad=>trivial
theorem SimO.bndO{e:X->O}{b:W->J}{s:Z}{r:Res O}{q:Res X}{k:O->T0->Out J}{l:X->OutC Z W}(h:SimR e r q)(c:∀a,SimO Y b (k (e a) (Y s)) (l a)):SimO Y b ((r.up (Y s)).bind k) (Cl.bndO q s l):=by
 cases q with
 |ok a=>rw[show r=_ from h];exact c a
 |exc x=>rw[show r=_ from h];exact rfl
 |bad=>trivial
@[simp] def WN(w:σ'->Z->Z)(s:Z):OutC σ' X->OutC Z X
 |.ok a s'=>.ok a (w s' s)
 |.exc x s'=>.exc x (w s' s)
 |.bad=>.bad
theorem SimO.wb{b:List Ap}{c:List D->Out D}{ds:List D}{e:X->D}{q:OutC σ' X}{w:σ'->Z->Z}(d:∀s' s,ic b 0 (V s') (Y s)=Y (w s' s))(h:SimO V e (c ds) q)(s:Z):SimO Y e (je b c ds (Y s)) (WN w s q):=by
 unfold je;cases q with
 |ok a s'=>rw[show c ds=_ from h];show Out.ok _ _=Out.ok _ _;rw[d]
 |exc x s'=>rw[show c ds=_ from h];show Out.exc _ _=Out.exc _ _;rw[d]
 |bad=>trivial
theorem pR{e:X->D}{a:O->J}{m:T0->Res D}{r:T0->Res (List D)}{k:List D->Res J}{c:Z->Res X}{l:X->Res O}{s:Z}(h:EJ Y e m c)(g:∀x,SimR a ((r (Y s)).bind λds=>k (e x::ds)) (l x)):SimR a ((aA m r (Y s)).bind k) ((c s).bind l):=by
 have h:=h s;unfold aA;refine SimR.el h (λx=>?_) (λ_=>rfl) λ_=>trivial;have g:=g x;simp only[Res.bind];cases z:r (Y s)<;>rw[z]at g<;>exact g
theorem TR{e:X->D}{a:O->J}{m:T0->Res D}{r:T0->Res (List D)}{k:List D->T0->Out J}{c:Z->Res X}{l:X->OutC Z O}{s:Z}(h:EJ Y e m c)(g:∀x,SimO Y a (((r (Y s)).up (Y s)).bind λds T=>k (e x::ds) T) (l x)):SimO Y a (((aA m r (Y s)).up (Y s)).bind k) (bndO (c s) s l):=by
 have h:=h s;unfold aA;refine SimR.el h (λx=>?_) (λ_=>rfl) λ_=>trivial;have g:=g x;simp only[Res.bind];cases z:r (Y s)<;>rw[z]at g<;>exact g
theorem Wh{r:Res X}{f:X->Res W}{g:W->Res O}:(r.bind f).bind g=r.bind λx=>(f x).bind g:=by cases r<;>rfl
theorem cM{e:X->D}{f:W->D}{m n:T0->Res D}{c:Z->Res X}{d:Z->Res W}(h:EJ Y e m c)(g:EJ Y f n d):EJ Y (iK e f) (oT (aA m (aA n bq))) (iW c d):=λs=>pR h λa=>pR g λb=>by simp only[bq,Res.bind];rw[Xl (by show 2<=am;decide)];rfl
theorem pW{e:X->D}{h:W->D}{g:O->D}{m n o:T0->Res D}{c:Z->Res X}{d:Z->Res W}{f:Z->Res O}(k:EJ Y e m c)(j:EJ Y h n d)(i:EJ Y g o f):EJ Y (Fu e h g) (oT (aA m (aA n (aA o bq)))) (iW c (iW d f)):=λs=>pR k λa=>by
 show SimR _ _ (((d s).bind λy=>(f s).bind λz=>.ok (y,z)).bind λy=>.ok (a,y));rw[Wh];exact pR j λb=>by rw[Wh];exact pR i λz=>by simp only[bq,Res.bind];rw[Xl (by show 3<=am;decide)];rfl
theorem Hf{e:X->D}{f:O->D}{c:Nat}{b:Str}{d:List D->Out D}{m:T0->Res D}{r:T0->Res (List D)}{q:Z->Res X}{l:X->Res O}{s:Z}(i:∀a,eh c b (e a)=true)(h:EJ Y e m q)(g:∀x,SimR f ((r (Y s)).bind λds=>kQ d (e x::ds)) (l x)):SimR f (pm c b d m r (Y s)) ((q s).bind l):=(h s).bnd λx=>by rw[Xl (i x)];exact g x
theorem OF{e:X->D}{i:O->D}{c:Nat}{d:Str}{b:List Ap}{f:List D->Out D}{m:T0->Res D}{r:T0->Res (List D)}{q:Z->Res X}{l:X->OutC Z O}{s:Z}(j:∀a,eh c d (e a)=true)(h:EJ Y e m q)(g:∀x,SimO Y i (((r (Y s)).up (Y s)).bind λds T=>je b f (e x::ds) T) (l x)):SimO Y i (mm c d b f m r (Y s)) (bndO (q s) s l):=SimO.bndO (h s) λx=>by rw[Xl (j x)];exact g x
variable{α0 α1 α2 α3 α4 α5:Type}{e0:α0->D}{e1:α1->D}{e2:α2->D}{e3:α3->D}{e4:α4->D}{e5:α5->D}{m0 m1 m2 m3 m4 m5:T0->Res D}{c0:Z->Res α0}{c1:Z->Res α1}{c2:Z->Res α2}{c3:Z->Res α3}{c4:Z->Res α4}{c5:Z->Res α5}{eR:O->D}{fm:List D->Out D}{w:σ'->Z->Z}{plan:List Ap}{c:Nat}{mn:Str}
@[simp] def kh(f:α0->OutC σ' O)(c0:Z->Res α0):Z->Res O:=λs=>(c0 s).bind λa=>(f a).res
@[simp] def Mj(f:α0->Res O)(c0:Z->Res α0):Z->Res O:=λs=>(c0 s).bind λa=>f a
theorem iJ{f:α0->OutC σ' O}(b:∀a,SimO V eR (fm [e0 a]) (f a))(h0:EJ Y e0 m0 c0):EJ Y eR (pc fm (aA m0 bq)) (kh f c0):=λs=>pR h0 λa=>(b a).res
theorem JV{f:α0->Res O}(b:∀a,SimR eR (lI c fm [e0 a]) (f a))(h0:EJ Y e0 m0 c0):EJ Y eR (pk c fm (aA m0 bq)) (Mj f c0):=λs=>pR h0 λa=>b a
theorem vJ{f:α0->OutC σ' O}(d:∀a,eh c mn (e0 a)=true)(e:∀b,SimO V eR (fm [e0 b]) (f b))(h0:EJ Y e0 m0 c0):EJ Y eR (pm c mn fm m0 bq) (kh f c0):=λs=>Hf d h0 λb=>(e b).res
@[simp] def cJ(f:α0->α1->OutC σ' O)(c0:Z->Res α0)(c1:Z->Res α1):Z->Res O:=λs=>(c0 s).bind λb=>(c1 s).bind λa=>(f b a).res
theorem b9{f:α0->α1->OutC σ' O}(c:∀b a,SimO V eR (fm [e0 b,e1 a]) (f b a))(h0:EJ Y e0 m0 c0)(d:EJ Y e1 m1 c1):EJ Y eR (pc fm (aA m0 (aA m1 bq))) (cJ f c0 c1):=λs=>pR h0 λb=>pR d λa=>(c b a).res
theorem iH{f:α0->α1->OutC σ' O}(e:∀a,eh c mn (e0 a)=true)(g:∀d b,SimO V eR (fm [e0 d,e1 b]) (f d b))(h0:EJ Y e0 m0 c0)(h:EJ Y e1 m1 c1):EJ Y eR (pm c mn fm m0 (aA m1 bq)) (cJ f c0 c1):=λs=>Hf e h0 λd=>pR h λb=>(g d b).res
@[simp] def gI(f:α0->α1->α2->OutC σ' O)(c0:Z->Res α0)(c1:Z->Res α1)(c2:Z->Res α2):Z->Res O:=λs=>(c0 s).bind λc=>(c1 s).bind λb=>(c2 s).bind λa=>(f c b a).res
@[simp] def Mz(f:α0->α1->α2->OutC σ' O)(w:σ'->Z->Z)(c0:Z->Res α0)(c1:Z->Res α1)(c2:Z->Res α2):Z->OutC Z O:=λs=>bndO (c0 s) s λc=>bndO (c1 s) s λb=>bndO (c2 s) s λa=>WN w s (f c b a)
theorem eT{f:α0->α1->α2->OutC σ' O}(d:∀c b a,SimO V eR (fm [e0 c,e1 b,e2 a]) (f c b a))(h0:EJ Y e0 m0 c0)(g:EJ Y e1 m1 c1)(e:EJ Y e2 m2 c2):EJ Y eR (pc fm (aA m0 (aA m1 (aA m2 bq)))) (gI f c0 c1 c2):=λs=>pR h0 λc=>pR g λb=>pR e λa=>(d c b a).res
theorem qX{f:α0->α1->α2->OutC σ' O}(g:∀a,eh c mn (e0 a)=true)(h:∀e d b,SimO V eR (fm [e0 e,e1 d,e2 b]) (f e d b))(h0:EJ Y e0 m0 c0)(j:EJ Y e1 m1 c1)(i:EJ Y e2 m2 c2):EJ Y eR (pm c mn fm m0 (aA m1 (aA m2 bq))) (gI f c0 c1 c2):=λs=>Hf g h0 λe=>pR j λd=>pR i λb=>(h e d b).res
theorem Am{f:α0->α1->α2->OutC σ' O}(h:∀a,eh c mn (e0 a)=true)(g:∀s' s,ic plan 0 (V s') (Y s)=Y (w s' s))(i:∀e d b,SimO V eR (fm [e0 e,e1 d,e2 b]) (f e d b))(h0:EJ Y e0 m0 c0)(k:EJ Y e1 m1 c1)(j:EJ Y e2 m2 c2):NJ Y eR (mm c mn plan fm m0 (aA m1 (aA m2 bq))) (Mz f w c0 c1 c2):=λs=>OF h h0 λe=>TR k λd=>TR j λb=>SimO.wb g (i e d b) s
@[simp] def P7(f:α0->α1->α2->α3->OutC σ' O)(c0:Z->Res α0)(c1:Z->Res α1)(c2:Z->Res α2)(c3:Z->Res α3):Z->Res O:=λs=>(c0 s).bind λd=>(c1 s).bind λc=>(c2 s).bind λb=>(c3 s).bind λa=>(f d c b a).res
@[simp] def Ra(f:α0->α1->α2->α3->OutC σ' O)(w:σ'->Z->Z)(c0:Z->Res α0)(c1:Z->Res α1)(c2:Z->Res α2)(c3:Z->Res α3):Z->OutC Z O:=λs=>bndO (c0 s) s λd=>bndO (c1 s) s λc=>bndO (c2 s) s λb=>bndO (c3 s) s λa=>WN w s (f d c b a)
theorem JW{f:α0->α1->α2->α3->OutC σ' O}(e:∀d c b a,SimO V eR (fm [e0 d,e1 c,e2 b,e3 a]) (f d c b a))(h0:EJ Y e0 m0 c0)(i:EJ Y e1 m1 c1)(h:EJ Y e2 m2 c2)(g:EJ Y e3 m3 c3):EJ Y eR (pc fm (aA m0 (aA m1 (aA m2 (aA m3 bq))))) (P7 f c0 c1 c2 c3):=λs=>pR h0 λd=>pR i λc=>pR h λb=>pR g λa=>(e d c b a).res
theorem HM{f:α0->α1->α2->α3->OutC σ' O}(i:∀a,eh c mn (e0 a)=true)(h:∀s' s,ic plan 0 (V s') (Y s)=Y (w s' s))(j:∀g e d b,SimO V eR (fm [e0 g,e1 e,e2 d,e3 b]) (f g e d b))(h0:EJ Y e0 m0 c0)(m:EJ Y e1 m1 c1)(l:EJ Y e2 m2 c2)(k:EJ Y e3 m3 c3):NJ Y eR (mm c mn plan fm m0 (aA m1 (aA m2 (aA m3 bq)))) (Ra f w c0 c1 c2 c3):=λs=>OF i h0 λg=>TR m λe=>TR l λd=>TR k λb=>SimO.wb h (j g e d b) s
@[simp] def Mm(f:α0->α1->α2->α3->α4->OutC σ' O)(c0:Z->Res α0)(c1:Z->Res α1)(c2:Z->Res α2)(c3:Z->Res α3)(c4:Z->Res α4):Z->Res O:=λs=>(c0 s).bind λe=>(c1 s).bind λd=>(c2 s).bind λc=>(c3 s).bind λb=>(c4 s).bind λa=>(f e d c b a).res
theorem Ba{f:α0->α1->α2->α3->α4->OutC σ' O}(g:∀e d c b a,SimO V eR (fm [e0 e,e1 d,e2 c,e3 b,e4 a]) (f e d c b a))(h0:EJ Y e0 m0 c0)(k:EJ Y e1 m1 c1)(j:EJ Y e2 m2 c2)(i:EJ Y e3 m3 c3)(h:EJ Y e4 m4 c4):EJ Y eR (pc fm (aA m0 (aA m1 (aA m2 (aA m3 (aA m4 bq)))))) (Mm f c0 c1 c2 c3 c4):=λs=>pR h0 λe=>pR k λd=>pR j λc=>pR i λb=>pR h λa=>(g e d c b a).res
end
section
variable{Z σ' X W O J:Type}{Y:Z->T0}{eR:W->D}
@[simp] def aW(c:Z->Res X):Z->OutC Z X:=λs=>match c s with
 |.ok a=>.ok a s
 |.exc x=>.exc x s
 |.bad=>.bad
theorem ai{e:X->O}{m:T0->Res O}{c:Z->Res X}(h:EJ Y e m c):NJ Y e (aK m) (aW c):=λs=>by
 have h:=h s;unfold aW aK;refine SimR.el h (λa=>?_) (λ_=>rfl) λ_=>trivial;rfl
@[simp] def wF(o:OutC Z X)(k:X->Z->OutC Z W):OutC Z W:=match o with
 |.ok a s=>k a s
 |.exc x s=>.exc x s
 |.bad=>.bad
theorem SimO.bd{e:X->O}{b:W->J}{r:Out O}{q:OutC Z X}{k:O->T0->Out J}{l:X->Z->OutC Z W}(h:SimO Y e r q)(c:∀a s,SimO Y b (k (e a) (Y s)) (l a s)):SimO Y b (r.bind k) (wF q l):=by
 cases q with
 |ok a s=>rw[show r=_ from h];exact c a s
 |exc x s=>rw[show r=_ from h];exact rfl
 |bad=>trivial
theorem gX{e:X->D}{i:W->D}{m:T0->Out D}{c:Z->OutC Z X}{f:X->Res W}(h:∀a,SimR i (.ok (e a)) (f a))(d:NJ Y e m c):NJ Y i m (λs=>wF (c s) λa s=>bndO (f a) s λb=>.ok b s):=λs=>by
 have d:=d s;dsimp only;cases q:c s with
 |ok a g=>
   rw[q]at d;rw[show m (Y s)=_ from d]
   have:=h a
   show SimO Y i (.ok (e a) (Y g)) (bndO (f a) g λb=>.ok b g);cases j:f a with
   |ok b=>rw[j]at this;have this:Res.ok (e a)=.ok (i b):=this;injection this with this;rw[this];rfl
   |exc x=>rw[j]at this;cases this
   |bad=>trivial
 |exc x g=>rw[q]at d;exact d
 |bad=>trivial
@[simp] def wN(g:Z->Option X)(b:Z->Z):Z->OutC Z X:=λs=>match g s with|some a=>.ok a (b s)|none=>.bad
theorem gD{e:X->D}{i:Nat}{g:Z->Option X}{b:Z->Z}(h:∀s,rg (Y s) i=(g s).map e)(c:∀s,(Y s).set i none=Y (b s)):NJ Y e (tY i) (wN g b):=λs=>by
 unfold tY wN;rw[h s];cases g s with
 |none=>trivial
 |some a=>show Out.ok _ _=Out.ok _ _;rw[c]
@[simp] def CU(g:Z->Option (List X))(p:Z->List X->Z)(f:List X->J->Option (O×List X))(c:Z->Res J):Z->OutC Z O:=λs=>match g s with
 |none=>.bad
 | some xs=>bndO (c s) s λx=>match f xs x with
   |some (r,a)=>.ok r (p s a)
   |none=>.bad
def jf(xs:List X)(x:X):Option (Unit×List X):=if xs.length<am then some ((),xs++[x]) else none
def Hd(xs:List X)(i:Int):Option (X×List X):=if 0<=i/\i<xs.length/\xs.length<=am then xs[i.toNat]?.map λd=>(d,xs.eraseIdx i.toNat) else none
def Np{δ':Type}(e:X->D)(c:J->D)(b:O->D)(F:List D->D->Option (D×List D))(f:List X->J->Option (O×List X)):Prop:=∀xs x,match f xs x with
 |some (r,a)=>F (xs.map e) (c x)=some (b r,a.map e)
 |none=>True
theorem ui{e:X->O}:∀(xs:List X) (i:Nat),(xs.map e).eraseIdx i=(xs.eraseIdx i).map e
 |[],i=>by simp
 |x::xs,0=>by simp
 |x::xs,i+1=>by rw[Xm,Yx,Yx,Xm,ui xs i]
theorem lL{e:X->D}:Np (δ':=Unit) e e eN iP jf:=λxs x=>by
 unfold jf iP;rw[List.length_map];by_cases h:xs.length<am
 ·rw[Xl h,Xl h];show some (D.non,xs.map e++[e x])=some (eN (),(xs++[x]).map e);rw[XJ];rfl
 ·rw[Xj h];trivial
theorem Vp{e:X->D}:Np (δ':=Unit) e D.int e Hc Hd:=λxs i=>by
 unfold Hd Hc;dsimp only;rw[List.length_map];by_cases h:0<=i/\i<xs.length/\xs.length<=am
 · rw[Xl h,Xl h,X3];cases xs[i.toNat]? with
   |none=>trivial
   |some a=>
     show some (e a,(xs.map e).eraseIdx i.toNat)=some (e a,(xs.eraseIdx i.toNat).map e);rw[ui]
 ·rw[Xj h];trivial
theorem kl{e:X->D}{b:J->D}{a:O->D}{get:T0->Option D}{set:T0->D->T0}{g:Z->Option (List X)}{p:Z->List X->Z}{F:List D->D->Option (D×List D)}{f:List X->J->Option (O×List X)}{m:T0->Res D}{c:Z->Res J}
 (k:∀s,get (Y s)=(g s).map (eL e)) (j:∀s xs,set (Y s) (eL e xs)=Y (p s xs)) (hF:Np (δ':=Unit) e b a F f) (h:EJ Y b m c):NJ Y a (jW get set F m) (CU g p f c):=λs=>by
 have h:=h s;unfold jW CU;rw[k];cases g s with
 |none=>trivial
 |some xs=>
   show SimO Y a (Rn set F (Y s) (xs.map e) (m (Y s))) (bndO (c s) s _);refine SimR.el h (λx=>?_) (λ_=>rfl) λ_=>trivial
   have:=hF xs x
   show SimO Y a (AW set (Y s) (F (xs.map e) (b x))) (match f xs x with|some (r,d)=>OutC.ok r (p s d)|none=>.bad);cases i:f xs x with
   |none=>trivial
   |some r=>
     rw[i]at this;obtain⟨r,d⟩:=r;have this:F (xs.map e) (b x)=some (a r,d.map e):=this;rw[this];show Out.ok _ _=Out.ok _ _;rw[<-j];rfl
@[simp] def Nj(g:Z->Option (List X))(p:Z->List X->Z)(c:Z->OutC Z X):Z->OutC Z Unit:=λs=>match g s with
 |none=>.bad
 | some _=>wF (c s) λx s=>match g s with
   |none=>.bad
   |some xs=>(match jf xs x with|some (r,a)=>.ok r (p s a)|none=>.bad)
theorem HN{e:X->D}{i:Nat}{g:Z->Option (List X)}{p:Z->List X->Z}{m:T0->Out D}{c:Z->OutC Z X}(d:∀s,rg (Y s) i=(g s).map (eL e))(j:∀s xs,(Y s).set i (some (eL e xs))=Y (p s xs))(b:NJ Y e m c):NJ Y eN (zy i m) (Nj g p c):=λs=>by
 have b:=b s;unfold zy Nj;rw[d];cases g s with
 |none=>trivial
 |some f=>
   show SimO Y eN ((m (Y s)).bind (sJ i)) (wF (c s) _);refine b.bd λx s=>?_;unfold sJ;rw[d];cases g s with
   |none=>trivial
   |some xs=>
     have:=lL (e:=e) xs x
     show SimO Y eN (AW (eC i) (Y s) (iP (xs.map e) (e x))) (match jf xs x with|some (r,a)=>OutC.ok r (p s a)|none=>.bad);cases h:jf xs x with
     |none=>trivial
     |some r=>
       rw[h]at this;obtain⟨r,a⟩:=r;have this:iP (xs.map e) (e x)=some (eN r,a.map e):=this;rw[this];show Out.ok _ _=Out.ok _ _;rw[<-j];rfl
end
section
variable{Z σ' X W O J:Type}{Y:Z->T0}{eR:W->D}
@[simp] def Nc(o:OutC Z X)(k:X->Z->FlC Z W):FlC Z W:=match o with
 |.ok a s=>k a s
 |.exc x s=>.exc x s
 |.bad=>.bad
theorem SimS.bd{e:X->O}{r:Out O}{q:OutC Z X}{k:O->T0->SO}{l:X->Z->FlC Z W}(h:SimO Y e r q)(b:∀a s,SimS Y eR (k (e a) (Y s)) (l a s)):SimS Y eR (lD r k) (Nc q l):=by
 cases q with
 |ok a s=>rw[show r=_ from h];exact b a s
 |exc x s=>rw[show r=_ from h];exact rfl
 |bad=>trivial
theorem SimS.ite{p:Prop}[Decidable p]{r a:SO}{q b:FlC Z W}(h:SimS Y eR r q)(h':SimS Y eR a b):SimS Y eR (if p then r else a) (if p then q else b):=by
 by_cases z:p
 ·rw[Xl z,Xl z];exact h
 ·rw[Xj z,Xj z];exact h'
@[simp] def au(a b:Z->FlC Z W):Z->FlC Z W:=λs=>match a s with
 |.nx s'=>b s'
 |o=>o
theorem aj{a b:T0->SO}{c d:Z->FlC Z W}(e:TJ Y eR a c)(f:TJ Y eR b d):TJ Y eR (ax a b) (au c d):=λs=>by
 have e:=e s;unfold ax au;cases q:c s with
 |nx s'=>rw[q]at e;rw[show a (Y s)=_ from e];exact f s'
 |rt b s'=>rw[q]at e;rw[show a (Y s)=_ from e];rfl
 |bk s'=>rw[q]at e;rw[show a (Y s)=_ from e];rfl
 |ct s'=>rw[q]at e;rw[show a (Y s)=_ from e];rfl
 |exc x s'=>rw[q]at e;rw[show a (Y s)=_ from e];rfl
 |bad=>trivial
@[simp] def bB:Z->FlC Z W:=λs=>.nx s
@[simp] def M9:Z->FlC Z W:=λs=>.ct s
theorem aM:TJ Y eR bo bB:=λs=>rfl
theorem FA:TJ Y eR M8 M9:=λs=>rfl
@[simp] def bw(c:Z->OutC Z W):Z->FlC Z W:=λs=>Nc (c s) λb s=>.rt b s
theorem aD{m:T0->Out D}{c:Z->OutC Z W}(h:NJ Y eR m c):TJ Y eR (bG m) (bw c):=λs=>SimS.bd (h s) λb s=>rfl
@[simp] def cH(c:Z->OutC Z X):Z->FlC Z W:=λs=>Nc (c s) λ_ s=>.nx s
theorem bz{e:X->D}{m:T0->Out D}{c:Z->OutC Z X}(h:NJ Y e m c):TJ Y eR (cC m) (cH c):=λs=>SimS.bd (h s) λb s=>rfl
@[simp] def bv(u:X->Z->Z)(c:Z->OutC Z X):Z->FlC Z W:=λs=>Nc (c s) λa s=>.nx (u a s)
theorem O4{e:X->D}{i:Nat}{m:T0->Out D}{c:Z->OutC Z X}{u:X->Z->Z}(b:∀a s,(Y s).set i (some (e a))=Y (u a s))(h:NJ Y e m c):TJ Y eR (bF i m) (bv u c):=λs=>SimS.bd (h s) λa s=>by show SO.nx _=SO.nx _;rw[b]
@[simp] def gt(t:Z->OutC Z Bool)(a b:Z->FlC Z W):Z->FlC Z W:=λs=>Nc (t s) λc s=>if c=true then a s else b s
theorem bH{t:T0->Out Bool}{a b:T0->SO}{ct:Z->OutC Z Bool}{c d:Z->FlC Z W}(e:NJ Y (id:Bool->Bool) t ct)(g:TJ Y eR a c)(f:TJ Y eR b d):TJ Y eR (fG t a b) (gt ct c d):=λs=>SimS.bd (e s) λt s=>SimS.ite (g s) (f s)
def jX(u:X->Z->Z)(body:Z->FlC Z W):List X->Z->FlC Z W
 |[],s=>.nx s
 | a::r,s=>match body (u a s) with
   |.nx s'=>jX u body r s'
   |.ct s'=>jX u body r s'
   |.bk s'=>.nx s'
   |o=>o
theorem uU{e:X->D}{f:D->T0->Option T0}{body:T0->SO}{u:X->Z->Z}{c:Z->FlC Z W}(g:∀a s,f (e a) (Y s)=some (Y (u a s)))(h:TJ Y eR body c):∀(xs:List X) (s:Z),SimS Y eR (vG f body (xs.map e) (Y s)) (jX u c xs s)
 |[],s=>rfl
 | a::r,s=>by
   have d:=h (u a s);rw[List.map_cons];unfold vG jX;rw[g];dsimp only;cases q:c (u a s) with
   |nx s'=>rw[q]at d;rw[show body (Y (u a s))=_ from d];exact uU g h r s'
   |ct s'=>rw[q]at d;rw[show body (Y (u a s))=_ from d];exact uU g h r s'
   |bk s'=>rw[q]at d;rw[show body (Y (u a s))=_ from d];rfl
   |rt b s'=>rw[q]at d;rw[show body (Y (u a s))=_ from d];rfl
   |exc x s'=>rw[q]at d;rw[show body (Y (u a s))=_ from d];rfl
   |bad=>trivial
@[simp] def cw(src:Z->Res (List X))(u:X->Z->Z)(body:Z->FlC Z W):Z->FlC Z W:=λs=>match src s with
 |.ok xs=>jX u body xs s
 |.exc x=>.exc x s
 |.bad=>.bad
theorem br{e:X->D}{src:T0->Res (List D)}{b:Z->Res (List X)}{d:D->T0->Option T0}{body:T0->SO}{u:X->Z->Z}{c:Z->FlC Z W}(f:EJ Y (List.map e) src b)(g:∀a s,d (e a) (Y s)=some (Y (u a s)))(h:TJ Y eR body c):TJ Y eR (cB (aK src) d body) (cw b u c):=λs=>by
 have f:=f s;unfold cB aK cw;refine SimR.el f (λxs=>?_) (λ_=>rfl) λ_=>trivial;exact uU g h xs s
def sW(t:Z->OutC Z Bool)(body:Z->FlC Z W):Nat->Z->FlC Z W
 |0,_=>.bad
 | n+1,s=>match t s with
   | .ok true a=>(match body a with
     |.nx s'=>sW t body n s'
     |.ct s'=>sW t body n s'
     |.bk s'=>.nx s'
     |o=>o)
   |.ok false a=>.nx a
   |.exc x a=>.exc x a
   |.bad=>.bad
theorem wQ{t:T0->Out Bool}{body:T0->SO}{ct:Z->OutC Z Bool}{c:Z->FlC Z W}(f:NJ Y (id:Bool->Bool) t ct)(h:TJ Y eR body c):∀n,TJ Y eR (zO t body n) (sW ct c n)
 |0=>λs=>trivial
 | n+1=>λs=>by
   have e:=f s;unfold zO sW;cases q:ct s with
   |ok b d=>
     rw[q]at e;rw[show t (Y s)=_ from e];cases b with
     |false=>rfl
     |true=>
       have a:=h d;show SimS Y eR (match body (Y d) with | .nx C=>zO t body n C | .ct C=>zO t body n C | .bk C=>.nx C | o=>o) _;dsimp only;cases q:c d with
       |nx s'=>rw[q]at a;rw[show body (Y d)=_ from a];exact wQ f h n s'
       |ct s'=>rw[q]at a;rw[show body (Y d)=_ from a];exact wQ f h n s'
       |bk s'=>rw[q]at a;rw[show body (Y d)=_ from a];rfl
       |rt b s'=>rw[q]at a;rw[show body (Y d)=_ from a];rfl
       |exc x s'=>rw[q]at a;rw[show body (Y d)=_ from a];rfl
       |bad=>trivial
   |exc x d=>rw[q]at e;rw[show t (Y s)=_ from e];rfl
   |bad=>trivial
@[simp] def kB(g:Z->Option (DI X))(p:Z->DI X->Z)(b:Z->Res (List Int))(a:Z->OutC Z X):Z->FlC Z W:=λs=>Nc (a s) λx s=>match g s with
 |none=>.bad
 | some F=>(match b s with
   |.ok k=>if F.length<am then .nx (p s (F.put k x)) else .bad
   |.exc y=>.exc y s
   |.bad=>.bad)
theorem fV{e:X->D}{get:T0->Option D}{set:T0->D->T0}{g:Z->Option (DI X)}{p:Z->DI X->Z}{mk:T0->Res D}{d:Z->Res (List Int)}{b:T0->Out D}{c:Z->OutC Z X}(j:∀s,get (Y s)=(g s).map (bM e))(i:∀s F,set (Y s) (bM e F)=Y (p s F))
 (a:EJ Y (Bc D.int) mk d) (f:NJ Y e b c):TJ Y eR (jS get set mk b) (kB g p d c):=λs=>SimS.bd (f s) λx s=>by
 have a:=a s;rw[j];cases g s with
 |none=>trivial
 |some F=>
   show SimS Y eR (yf set (e x) (bM e F) (Y s) (mk (Y s))) _;dsimp only;refine SimR.el a (λk=>?_) (λ_=>rfl) λ_=>trivial;show SimS Y eR (yf set (e x) (bM e F) (Y s) (.ok (.tup (k.map D.int)))) (if F.length<am then FlC.nx (p s (F.put k x)) else .bad);by_cases h:F.length<am
   ·rw[if_pos h];unfold yf;dsimp only;rw[JZ h];show SO.nx _=SO.nx _;rw[i]
   ·rw[Xj h];trivial
@[simp] def cr(d:Option W):FlC Z W->OutC Z W
 |.nx s=>(match d with|some b=>.ok b s|none=>.bad)
 |.rt b s=>.ok b s
 |.exc x s=>.exc x s
 |_=>.bad
theorem iu{k:Nat}{ds:List D}{body:T0->SO}{c:Z->FlC Z W}{s:Z}{d:W}(hd:eR d=.non)(h:TJ Y eR body c)(a:ds.map some++List.replicate (k-ds.length) none=Y s):SimO Y eR (Mi.run k body ds) (cr (some d) (c s)):=by
 have h:=h s;unfold Mi.run;rw[a];cases q:c s with
 |nx s'=>rw[q]at h;rw[show body (Y s)=_ from h];show Out.ok .non _=Out.ok (eR d) _;rw[hd]
 |rt b s'=>rw[q]at h;rw[show body (Y s)=_ from h];rfl
 |exc x s'=>rw[q]at h;rw[show body (Y s)=_ from h];rfl
 |_=>trivial
theorem di{k:Nat}{ds:List D}{body:T0->SO}{c:Z->FlC Z W}{s:Z}(h:TJ Y eR body c)(a:ds.map some++List.replicate (k-ds.length) none=Y s):SimO Y eR (Mi.run k body ds) (cr none (c s)):=by
 have h:=h s;unfold Mi.run;rw[a];cases q:c s with
 |rt b s'=>rw[q]at h;rw[show body (Y s)=_ from h];rfl
 |exc x s'=>rw[q]at h;rw[show body (Y s)=_ from h];rfl
 |_=>trivial
theorem eB{k:Nat}{ds:List D}{body:T0->SO}{c:Z->FlC Z W}{s:Z}(h:TJ Y eR body c)(a:ds.map some++List.replicate (k-ds.length) none=Y s):SimO Y eR (iT k body ds) (cr none (c s)):=by
 have h:=h s;unfold iT;rw[a];cases q:c s with
 |rt b s'=>rw[q]at h;rw[show body (Y s)=_ from h];rfl
 |exc x s'=>rw[q]at h;rw[show body (Y s)=_ from h];rfl
 |_=>trivial
end
section
variable{Z X W:Type}{Y:Z->T0}{eR:W->D}
theorem xp{e:X->D}{i:Nat}{g:Z->X}(h:∀s,rg (Y s) i=some (e (g s)):=by exact λ_=>rfl):EJ Y e (vr i) (pC g):=RC h
theorem xv{e:X->D}{i:Nat}{g:Z->Option X}(h:∀s,rg (Y s) i=(g s).map e:=by exact λ_=>rfl):EJ Y e (vr i) (vC g):=RB h
theorem xk{e:X->D}{d:D}{a:X}(h:e a=d:=by rfl):EJ Y e (aP d) (kC a):=vK h
theorem xs{e:X->D}{i:Nat}{m:T0->Out D}{c:Z->OutC Z X}{u:X->Z->Z}(h:NJ Y e m c)(b:∀a s,(Y s).set i (some (e a))=Y (u a s):=by exact λ_ _=>rfl):TJ Y eR (bF i m) (bv u c):=O4 b h
end
section
variable{Z σ' X W O J τ:Type}
theorem ug{u:X->Z->Z}{c:Z->FlC Z W}(R:τ->Z->Prop)(step:τ->X->τ):∀(l:List X) (b:τ) (s:Z),R b s->
 (∀b a s,a∈l->R b s->∃s',(c (u a s)=.nx s'\/c (u a s)=.ct s')/\R (step b a) s')->∃s',jX u c l s=.nx s'/\R (l.foldl step b) s'
 |[],b,s,h,_=>⟨s,rfl,h⟩
 | a::l,b,s,h,st=>by
   obtain⟨s2,d,g⟩:=st b a s List.mem_cons_self h;obtain⟨s',e,h'⟩:=ug R step l (step b a) s2 g λb c s f=>st b c s (List.mem_cons_of_mem _ f);refine⟨s',?_,h'⟩;unfold jX;rcases d with d|d<;>(rw[d];exact e)
theorem g6{u:X->Z->Z}{c:Z->FlC Z W}(R:Z->Prop)(l:List X)(s:Z)(h:R s)(st:∀a s,a∈l->R s->∃s',(c (u a s)=.nx s'\/c (u a s)=.ct s')/\R s'):∃s',jX u c l s=.nx s'/\R s':=by
 obtain⟨s',e,h'⟩:=ug (τ:=Unit) (λ_ s=>R s) (λ_ _=>()) l () s h λ_ a s d b=>st a s d b;exact⟨s',e,h'⟩
theorem bN{u:X->Z->Z}{c:Z->FlC Z W}(R:List X->Z->Prop)(l:List X)(s:Z)(h:R [] s)(st:∀p a r s,l=p++a::r->R p s->∃s',(c (u a s)=.nx s'\/c (u a s)=.ct s')/\R (p++[a]) s'):∃s',jX u c l s=.nx s'/\R l s':=by
 have d:∀(r p:List X) (s:Z),l=p++r->R p s->∃s',jX u c r s=.nx s'/\R l s':=by
  intro r
  induction r with
  |nil=>intro p s e h;rw[XZ]at e;exact⟨s,rfl,by rw[e];exact h⟩
  |cons a r f=>
    intro p s e h;obtain⟨s2,b,g⟩:=st p a r s e h;obtain⟨s',i,h'⟩:=f (p++[a]) s2 (by rw[e];simp) g;refine⟨s',?_,h'⟩;unfold jX;rcases b with b|b<;>(rw[b];exact i)
 exact d l [] s rfl h
theorem oq{u:X->Z->Z}{c:Z->FlC Z W}(R:Z->Prop)(p:X->Bool)(out:X->W):∀(l:List X) (s:Z),R s->
 (∀a s,a∈l->R s->∃s',(p a=true->c (u a s)=.rt (out a) s')/\(p a=false->(c (u a s)=.nx s'\/c (u a s)=.ct s')/\R s'))->
 ∃s',(∀a,l.find? p=some a->jX u c l s=.rt (out a) s')/\(l.find? p=none->jX u c l s=.nx s'/\R s')
 |[],s,h,_=>⟨s,λa e=>(nomatch e),λ_=>⟨rfl,h⟩⟩
 | a::l,s,h,st=>by
   obtain⟨s2,e2,e3⟩:=st a s Xk h;cases hp:p a with
   |true=>
     refine⟨s2,λb e=>?_,λe=>?_⟩
     ·rw[List.find?_cons,hp]at e;cases e;unfold jX;rw[e2 hp]
     ·rw[Yr,hp]at e;cases e
   |false=>
     obtain⟨e4,h2⟩:=e3 hp;obtain⟨s',f1,f2⟩:=oq R p out l s2 h2 λb s hb=>st b s (no _ hb)
     have eq:jX u c (a::l) s=jX u c l s2:=by
      conv=>lhs;unfold jX
      rcases e4 with e4|e4<;>rw[e4]
     refine⟨s',λb e=>?_,λe=>?_⟩
     ·rw[Yr,hp]at e;rw[eq];exact f1 b e
     ·rw[Yr,hp]at e;rw[eq];exact f2 e
theorem BR{t:Z->OutC Z Bool}{c:Z->FlC Z W}(R:Nat->Z->Prop)(S:Z->Prop)(st:∀n s,R n s->(t s=.ok false s/\S s)\/(t s=.ok true s/\∃m s2,m<n/\(c s=.nx s2\/c s=.ct s2)/\R m s2)):
 ∀(fuel n:Nat) (s:Z),R n s->n<fuel->∃s',sW t c fuel s=.nx s'/\S s'
 |0,n,s,h,d=>absurd d (Nat.not_lt_zero _)
 | fuel+1,n,s,h,d=>by
   unfold sW;rcases st n s h with ⟨e,b⟩|⟨e,m,s2,i,a,f⟩
   ·rw[e];exact⟨s,rfl,b⟩
   ·rw[e];obtain⟨s',g,b⟩:=BR R S st fuel m s2 f (by omega);refine⟨s',?_,b⟩;dsimp only;rcases a with a|a<;>(rw[a];exact g)
theorem uB{d:X->Res Bool}{te:X->Res W}(p:X->Bool)(g:X->W):∀l:List X,(∀a∈l,d a=.ok (p a))->(∀a∈l,p a=true->te a=.ok (g a))->jG d te l=.ok ((l.filter p).map g)
 |[],_,_=>rfl
 | a::l,h,f=>by
   have e:=uB p g l (λb c=>h b (List.mem_cons_of_mem _ c)) λb c=>f b (List.mem_cons_of_mem _ c);unfold jG;rw[h a List.mem_cons_self];show(if p a=true then _ else _)=_;cases hp:p a with
   |true=>
     rw[Xl rfl,f a Xk hp,e,List.filter_cons,Xl hp];rfl
   |false=>rw[Xj Xw,e,List.filter_cons,Xj (by rw[hp];exact Xw)]
theorem lp{src:Z->Res (List X)}{b:X×Z->Res Bool}{te:X×Z->Res W}{s:Z}{l:List X}(p:X->Bool)(g:X->W)(c:src s=.ok l)(d:l.length<am)(f:∀a∈l,b (a,s)=.ok (p a))(e:∀a∈l,p a=true->te (a,s)=.ok (g a)):
 cq src b te s=.ok ((l.filter p).map g):=by
 unfold cq;rw[c];show(if l.length<am then _ else _)=_;rw[if_pos d];exact uB p g l f e
theorem fy{src:Z->Res (List X)}{te:X×Z->Res W}{s:Z}{l:List X}(g:X->W)(b:src s=.ok l)(c:l.length<am)(e:∀a∈l,te (a,s)=.ok (g a)):
 cq src (λ_=>.ok true) te s=.ok (l.map g):=by
 rw[lp (λ_=>true) g b c (λ_ _=>rfl) λa d _=>e a d,List.filter_eq_self.mpr λ_ _=>rfl]
theorem kS(xs:List X){i:Int}(h:0<=i):nJ xs i=xs[i.toNat]?:=by
 unfold nJ JG;rw[if_pos h];by_cases z:i<xs.length
 ·rw[Xl z];rfl
 ·rw[Xj z,XO (by omega)];rfl
theorem sI(xs:List X):nJ xs (-1)=xs.getLast?:=by
 unfold nJ JG;rw[if_neg (by omega),List.getLast?_eq_getElem?];cases xs with
 |nil=>rfl
 |cons x r=>
   rw[Xl (by simp only[Xp];omega)];show(x::r)[(-1+((x::r).length:Int)).toNat]?=_;rw[show(-1+((x::r).length:Int)).toNat=(x::r).length-1 by omega]
theorem bc(lo hi:Int):(bK lo hi).length=(hi-lo).toNat:=by unfold bK;simp
theorem cp{lo hi x:Int}:x∈bK lo hi↔lo<=x/\x<hi:=by
 unfold bK;rw[List.mem_map];constructor
 · rintro⟨i,a,rfl⟩
   have:=Aa0.mp a
   omega
 ·rintro⟨c,b⟩;exact⟨(x-lo).toNat,Aa0.mpr (by omega),by omega⟩
theorem mV{lo hi x:Int}{p r:List Int}(h:bK lo hi=p++x::r):x=lo+p.length/\lo<=x/\x<hi:=by
 have b:x∈bK lo hi:=by rw[h];simp
 have a:=cp.mp b;have e:(bK lo hi)[p.length]?=some x:=by rw[h,Yi (XD _),Zh];rfl
 unfold bK at e;rw[List.getElem?_map]at e
 have c:p.length<(hi-lo).toNat:=by
  have:=bc lo hi
  rw[h,Xo,Xp]at this;omega
 rw[Zr c]at e;injection e with e
 exact⟨e.symm,a⟩
theorem Ak(lo hi:Int):(bK lo hi).Nodup:=by
 unfold bK;unfold List.Nodup;rw[List.pairwise_map];refine List.Pairwise.imp ?_ (List.nodup_range (n:=(hi-lo).toNat));intro a b h z;exact h (by omega)
theorem JN{F:DI W}{k:List Int}{v:W}(h:F.get k=some v):(k,v)∈F:=by
 unfold DI.get at h;obtain⟨p,hp,rfl⟩:=Option.map_eq_some_iff.mp h
 have:=List.find?_some hp
 have e:p.1=k:=by simpa using this
 subst e;exact List.mem_of_find?_eq_some hp
theorem gF{P:List Int->Prop}{F:DI W}{k:List Int}{v:W}(h:∀p∈F,P p.1)(b:P k):∀p∈F.put k v,P p.1:=by
 intro p hp;unfold DI.put at hp;split at hp
 ·obtain⟨q,a,rfl⟩:=X5.mp hp;split<;>exact h q a
 · rcases XE.mp hp with z|z
   ·exact h p z
   ·rw[Xz.mp z];exact b
theorem fX{F:DI W}{k:List Int}{v:W}:(F.put k v).length<=F.length+1:=by
 unfold DI.put;split
 ·rw[on];omega
 ·rw[Xo];simp
def DI.nd(F:DI W):Prop:=(F.map (·.1)).Nodup
theorem jr{F:DI W}{k:List Int}{v:W}(h:DI.nd F):DI.nd (F.put k v):=by
 unfold DI.nd DI.put at *;by_cases q:(F.get k).isSome=true
 · rw[Xl q,Yk]
   have:(F.map ((·.1)∘λp=>if p.1=k then (p.1,v) else p))=F.map (·.1):=YC λp _=>by
    show(if p.1=k then (p.1,v) else p).1=p.1;split<;>rfl
   rw[this];exact h
 · rw[Xj q,XJ];refine XV.mpr ⟨h,by simp,λa d b c=>?_⟩;have e:b=k:=by simpa using c
   subst e;rintro rfl;obtain⟨p,hp,e⟩:=List.mem_map.mp d;apply q;unfold DI.get;rw[Option.isSome_map,List.find?_isSome];exact⟨p,hp,by simpa using e⟩
theorem A8{F:DI W}(h:DI.nd F){k:List Int}{v:W}(a:(k,v)∈F):F.get k=some v:=by
 unfold DI.nd at h
 induction F with
 |nil=>cases a
 |cons p F b=>
   rw[List.map_cons,List.nodup_cons]at h;unfold DI.get;rw[List.find?_cons];by_cases e:p.1=k
   · rw[X8 e];rcases Xv.mp a with z|z
     ·rw[<-z];rfl
     ·exact absurd (X5.mpr ⟨(k,v),z,e.symm⟩) h.1
   · rw[X0 e];rcases Xv.mp a with z|z
     ·exact absurd (by rw[<-z]) e
     ·exact b h.2 z
end
section
variable{Z X W O J:Type}{Y:Z->T0}{eR:W->D}
def jm(c:Nat):Z->FlC Z W:=λs=>.exc c s
theorem gO{c:Nat}:TJ Y eR (fK c) (jm c):=λs=>rfl
def Vo(free:Z->Bool):FlC Z W->FlC Z W
 |.nx s=>if free s=true then .nx s else .bad
 |_=>.bad
def Lw(free:Z->Bool)(a:Nat->Bool)(b:Z->FlC Z W)(ch:Nat->Z->FlC Z W):Z->FlC Z W:=λs=>match b s with
 |.exc c s'=>if a c=true/\free s'=true then Vo free (ch c s') else .bad
 |.nx s'=>.nx s'
 |_=>.bad
theorem O3{j:Option Nat}{a:Nat->Bool}{d:T0->SO}{e:Nat->T0->SO}{f:Z->FlC Z W}{ch:Nat->Z->FlC Z W}(l:TJ Y eR d f)(k:∀c,TJ Y eR (e c) (ch c)):
 TJ Y eR (Fz j a d e) (Lw (λs=>dR (Y s) j) a f ch):=λs=>by
 have h:=l s;unfold Fz Lw;cases q:f s with
 |nx s'=>rw[q]at h;rw[show d (Y s)=_ from h];exact rfl
 |exc c s'=>
   rw[q]at h;rw[show d (Y s)=_ from h];refine SimS.ite ?_ trivial;have g:=k c s';cases i:ch c s' with
   |nx m=>rw[i]at g;rw[show e c (Y s')=_ from g];exact SimS.ite rfl trivial
   |rt b s'=>trivial
   |bk s'=>trivial
   |ct s'=>trivial
   |exc x s'=>trivial
   |bad=>trivial
 |rt b s'=>trivial
 |bk s'=>trivial
 |ct s'=>trivial
 |bad=>trivial
end
end Cl
namespace L2
open PySem PySem.Spec PyProof.Rows
theorem wX{X:Cx}(K:L0)(h:X.K=K):Xd X (Mg K):=by subst h;exact LW
end L2
namespace Mi
open PySem L2
def yd:D->D->Res D
 |.lst xs,.int k=>if 0<=k then .ok (.lst (xs.drop k.toNat)) else .bad
 |.scr xs,.int k=>if 0<=k then .ok (.lst (xs.drop k.toNat)) else .bad
 |_,_=>.bad
theorem nv{k:Int}(h:0<=k)(xs:List V):E8 xs (some k) none=xs.drop k.toNat:=by
 unfold E8;have e:HT.xj xs.length 0 (some k)=min k.toNat xs.length:=by show(if k<0 then _ else _)=_;rw[if_neg (by omega)]
 rw[e,HT.Gz];by_cases z:k.toNat<=xs.length
 ·rw[ZZ z,List.take_of_length_le (by rw[List.length_drop];omega)]
 ·rw[Nat.min_eq_right (by omega),Zh,List.take_zero,ZU (by omega)]
section
variable{Y:Cm}{E:XK}{M:List Md}{Kr:KT D V}{pr:Nat->Bool}
theorem Qi{j tb:TE}{m l:T0->Res D}(r:PJ Y (KC Y .F) E M j m)(q:PJ Y (KR Y .X) E M tb l):PJ Y (KO Y (.ct .fz)) E M (WQ (Mg Y.K) j (FI tb) uO) (bn yd m l):=by
 intro B U As Z H T Q R P;refine r.bnd R P λx v I L H1 O _ s A w J W=>q.bnd s W λy u o n i C _ R2 d t e c=>?_;have J:Cn Y I H1 x v:=J;have e:Dn Y i y u:=e;cases y with
 |int k=>
   rw[Dn]at e;subst e;refine⟨k,rfl,?_⟩;cases x with
   |lst ds=>
     obtain⟨a,xs,rfl,g,f⟩:=J;replace c:Po Y (KO Y (.ct .fz)) E M o n As Z i T (if 0<=k then .ok (.lst (ds.drop k.toNat)) else .bad) Q:=c;by_cases z:0<=k
     ·rw[Xl z]at c;refine⟨a,xs,rfl,SqL.of (d.h _ _ g),λp hp=>?_⟩;rw[nv z];exact i0 R2 c ((f.mono d.b).drop _) hp
     ·rw[Xj z]at c;exact c.elim
   |scr ds=>
     obtain⟨a,xs,rfl,g,f⟩:=J;replace c:Po Y (KO Y (.ct .fz)) E M o n As Z i T (if 0<=k then .ok (.lst (ds.drop k.toNat)) else .bad) Q:=c;by_cases z:0<=k
     ·rw[Xl z]at c;refine⟨a,xs,rfl,(g.mono d.h).sq,λp hp=>?_⟩;rw[nv z];exact i0 R2 c ((f.mono d.b).drop _) hp
     ·rw[Xj z]at c;exact c.elim
   |_=>exact c.elim
 |_=>cases x<;>exact c.elim
open Classical in
end
end Mi
namespace Cl
open PySem L2 Mi
section
variable{Z X W O J:Type}{Y:Z->T0}{eR:W->D}
@[simp] def ye(xs:List X)(k:Int):Res (List X):=if 0<=k then .ok (xs.drop k.toNat) else .bad
theorem HF{e:X->D}(xs:List X)(k:Int):SimR (eL e) (yd (eL e xs) (.int k)) (ye xs k):=by
 show SimR (eL e) (if 0<=k then .ok (.lst ((xs.map e).drop k.toNat)) else .bad) (if 0<=k then .ok (xs.drop k.toNat) else .bad);rw[<-List.map_drop];exact SimR.ite rfl trivial
open Classical in
end
end Cl
namespace L2
open PySem PySem.Spec PyProof.Rows
def TV(K:L0):R2:=λx y H Q=>∃(p q:Addr) (xs a:List Int),x=.ref p/\y=.ref q/\SqL K H p (xs.map V.int)/\SqL K H q (a.map V.int)/\Q (.bl (HT.eV xs a)) H
theorem Mq{X:Cx}(K:L0)(g:X.K=K)(j:X.A.units+100<cLine):mP X (compareOp .Lt) (TV K):=by
 subst g;intro c s Z H x y v u Q I e d h;obtain⟨p,q,xs,i,rfl,rfl,hp,f,k⟩:=h;have b:v=Value.ref p:=e;have a:u=Value.ref q:=d;subst b a;exact(ue I hp f (by omega)).2 X.prog X.w X.xe _ ⟨.bl _,H,I,rfl,k⟩
end L2
namespace Mi
open PySem L2
def WZ:D->D->Res D
 | .lst xs,.lst c=>(match c7 xs,c7 c with
   |some a,some b=>.ok (.bl (HT.eV a b))
   |_,_=>.bad)
 |_,_=>.bad
def MY(xs:List D)(x:D):Option (D×List D):=match x with
 |.lst a=>if xs.length+a.length<=am then some (.non,xs++a) else none
 |_=>none
section
variable{Y:Cm}{E:XK}{M:List Md}{K:L0}{t:TE}{get:T0->Option D}{set:T0->D->T0}
theorem TL:S2 Y (TV K) WZ:=by
 intro H x y v u g f;cases x with
 |lst xs=>
   cases y with
   |lst e=>
     show match (match c7 xs,c7 e with|some a,some b=>Res.ok (D.bl (HT.eV a b))|_,_=>.bad) with | .ok d=>_ | .exc c=>_ | .bad=>_
     cases n:c7 xs with
     |none=>trivial
     |some a=>
       cases m:c7 e with
       |none=>trivial
       |some b=>
         rw[Dn]at g f;obtain⟨p,o,rfl,j,l⟩:=g;obtain⟨q,r,rfl,i,k⟩:=f;rw[fP n l]at j;rw[fP m k]at i;exact⟨.bl _,λ_=>by rw[Dn],λQ h=>⟨p,q,a,b,rfl,rfl,SqL.of j,SqL.of i,h⟩⟩
   |_=>trivial
 |_=>trivial
theorem Ja{te:TE}{h:T0->Res D}(p:Pth Y M t get set)(m:PJ Y (KR Y .F) E M te h):MJ Y (KR Y .F) E M (NL K "list" CC t (b6 te dW)) (jW get set MY h):=
 Jb (f:=MY) p m λB U H a ds xs x u d q Q bu uh o j g c k=>by
  cases x with
  |lst e=>
    have g:Dn Y B (.lst e) u:=g;rw[Dn]at g;obtain⟨b,l,rfl,n,i⟩:=g;replace c:(if ds.length+e.length<=am then some (D.non,ds++e) else none)=some (d,q):=c;by_cases z:ds.length+e.length<=am
    ·rw[Xl z]at c;cases c;exact⟨a,b,xs,l,rfl,rfl,o,uh _ _ (bu _ _ n),X4 (d6 (by rw[<-j.len,<-i.len];exact z)),k .non _ (by rw[Dn]) (j.append i)⟩
    ·rw[Xj z]at c;cases c
  |_=>cases c
end
end Mi
namespace Cl
open PySem L2 Mi
section
variable{Z X W O J:Type}{Y:Z->T0}
@[simp] def U9(a b:List Int):Res Bool:=.ok (HT.eV a b)
theorem Ur(a b:List Int):SimR D.bl (WZ (eL D.int a) (eL D.int b)) (U9 a b):=by
 show(match c7 (a.map D.int),c7 (b.map D.int) with|some a,some b=>Res.ok (D.bl (HT.eV a b))|_,_=>.bad)=.ok (.bl (HT.eV a b));rw[eM,eM]
@[simp] def BO(xs:List (List Unit)):Res (List (List (Option X))):=.ok (xs.map λl=>l.map λ_=>none)
theorem zx{e:X->D}(xs:List (List Unit)):SimR (eL (eL (eO e))) (.ok (eL (eL eN) xs)) (BO xs):=by
 show Res.ok (D.lst (xs.map (eL eN)))=Res.ok (D.lst ((xs.map λl=>l.map λ_=>(none:Option X)).map (eL (eO e))));rw[Yk];congr 2;refine YC λl _=>?_;show D.lst (l.map eN)=D.lst ((l.map λ_=>(none:Option X)).map (eO e));rw[Yk];rfl
def JS(xs a:List X):Option (Unit×List X):=if xs.length+a.length<=am then some ((),xs++a) else none
theorem Vq{e:X->D}:Np (δ':=Unit) e (eL e) eN MY JS:=λxs a=>by
 unfold JS;by_cases h:xs.length+a.length<=am
 ·rw[Xl h];show(if (xs.map e).length+(a.map e).length<=am then some (D.non,xs.map e++a.map e) else none)=some (eN (),(xs++a).map e);rw[on,on,Xl h,XJ];rfl
 ·rw[Xj h];trivial
end
end Cl
namespace Mi
open PySem L2
section
variable{Y:Cm}{E:XK}{M:List Md}{K:L0}
theorem Ows.lens{s:Sh}{B H:Hp}:∀{ds:List D} {xs:List V} {A:List Addr} {n:Nat} {d:D},Ows Y B H ds s xs A->ds[n]?=some d->
 ∃v L A1 R,xs[n]?=some v/\A=L++(A1++R)/\Ow Y B H d s v A1/\∀I H1 d' c,Same B I->(∀a,a∈L\/a∈R->H1 a=H a)->Ow Y I H1 d' s v c->Ows Y I H1 (ds.set n d') s xs (L++(c++R))
 |[],xs,A,n,d,h,e=>by cases e
 | d0::ds,xs,A,n,d,h,e=>by
   rw[Ows]at h;obtain⟨x,r,i,m,rfl,t,l,j⟩:=h;subst t;cases n with
   |zero=>
     cases e;refine⟨x,[],i,m,rfl,rfl,l,λI H1 d' c g k w=>?_⟩;rw[List.set_cons_zero,Ows];exact⟨x,r,c,m,rfl,rfl,w,Ows.mono g (λb f=>k b (.inr f)) j⟩
   |succ n=>
     obtain⟨v,L,A1,R,p,q,o,u⟩:=Ows.lens (n:=n) j (by simpa using e);refine⟨v,i++L,A1,R,by simpa using p,by rw[q,Yh],o,λI H1 d' c g k w=>?_⟩;rw[List.set_cons_succ,Ows];exact⟨x,r,i,L++(c++R),rfl,by rw[Yh],Ow.mono g (λb f=>k b (.inl (XA _ f))) l,u I H1 d' c g (λb f=>k b (f.imp (λz=>Xr _ z) id)) w⟩
theorem Ow.ls{B H:Hp}{ds:List D}{s:Sh}{v:V}{A:List Addr}(w:Ow Y B H (.lst ds) (.ct s) v A):∃(a:Addr) (xs:List V) (b:List Addr),v=.ref a/\H a=some (.lst xs)/\A=a::b/\Ows Y B H ds s xs b:=by rw[Ow]at w;exact w
theorem Ow.ls'{B H:Hp}{ds:List D}{s:Sh}{a:Addr}{xs:List V}{b:List Addr}(h:H a=some (.lst xs))(k:Ows Y B H ds s xs b):Ow Y B H (.lst ds) (.ct s) (.ref a) (a::b):=by rw[Ow];exact⟨a,xs,b,rfl,h,rfl,k⟩
end
end Mi
namespace L2
open PySem PySem.Spec PyProof.Rows PySem.W
section
variable{n:Nat}(hn:0<n)
include hn
end
end L2
namespace Mi
open PySem L2
section
variable{Y:Cm}{E:XK}{M:List Md}{K:L0}
def KOs(Y:Cm)(s:Sh):KT (List D) (List V):=λds vs B U H N=>Ows Y B H ds s vs N
theorem Mt{s:Sh}:PJ Y (KOs Y s) E M dW bq:=λB U As Z H T Q R P=>P [] B U H [] R (Gw.refl _ _ _) New.nil (show Ows Y _ _ [] s [] [] by rw[Ows];exact⟨rfl,rfl⟩)
theorem Qd{s:Sh}{t:TA}{m:T0->Res (List D)}(h:PJ Y (KOs Y s) E M t m):PJ Y (KO Y (.ct s)) E M (LA t) (km m):=by
 intro B U As Z H T Q R P;refine h B U As Z H T _ R ?_;unfold km at P;cases j:m T with
 |bad=>rw[j]at P;exact P
 |exc c=>rw[j]at P;exact P
 |ok ds=>
   rw[j]at P;intro xs I L H1 O g k i b;have b:Ows Y I H1 ds s xs O:=b;replace P:Po Y (KO Y (.ct s)) E M B U As Z H T (if ds.length<=am then .ok (.lst ds) else .bad) Q:=P;by_cases z:ds.length<=am
   · rw[Xl z]at P;have l:ds.length=xs.length:=(Ows.dn g.bh (λ_ _ _ h=>h) b).len;refine⟨X4 (d6 (by rw[<-l];exact z)),λp hp=>?_⟩;have d:p∉O:=λn=>by obtain⟨o,e,_⟩:=Ows.at2 b n;rw[hp]at e;cases e
     refine P (.ref p) I L _ (p::O) (g.new hp) (k.trans (Gw.newO g hp)) ⟨XH.mpr ⟨d,i.nd⟩,λa f=>?_,λa f=>?_⟩ ?_
     · rcases Xv.mp f with e|e
       ·rw[e];exact k.h.free hp
       ·exact i.fr a e
     · rcases Xv.mp f with e|e
       ·rw[e];exact g.uh.free hp
       ·exact i.un a e
     ·show Ow Y I _ (.lst ds) (.ct s) (.ref p) (p::O);rw[Ow];exact⟨p,xs,O,rfl,bj,rfl,Ows.mono (Same.refl _) (λa f=>a7 (λe:a=p=>d (e▸f))) b⟩
   ·rw[Xj z]at P;exact P.elim
end
end Mi
namespace Cl
open PySem L2 Mi
section
variable{Z σ' X W O J:Type}{Y:Z->T0}{V:σ'->T0}
@[simp] def pI(g:Z->Option (List X))(p:Z->List X->Z)(k:Z->Option Int):Z->X->Z:=λs y=>match g s,k s with
 |some l,some k=>p s (l.set k.toNat y)
 |_,_=>s
end
end Cl
namespace Mi
open PySem L2
section
variable{Y:Cm}{E:XK}{Kr:KT D V}{pr:Nat->Bool}{M:List Md}{K:L0}{B U H:Hp}{As:Nat->List Addr}{Z:St}{T:T0}
theorem Hq{s:Sh}{wi:TI}{ix:List Nat}{ti:TT}{te:TE}{src:T0->Res (List D)}{mi:T0->Res Bool}{me:T0->Res D}(hs:PJ Y (KI Y .F .X) E M wi src)(hix:ix.Nodup)(hti:PJ Y KB E0 (oh .F M ix) ti mi)(hte:PJ Y (KO Y s) E0 (oh .F M ix) te me):
 PJ Y (KO Y (.ct s)) E M (qc wi ix ti te) (iO src ix mi me):=by
 intro B U As Z H T Q R P;refine hs.bnd R P λds J I L H1 O _ R1 e1 n1 ⟨vs,hJ,hd⟩ W p hp=>?_;have hd:Dns Y I ds vs:=hd;by_cases z:ds.length<am
 · rw[Xl z]at W;have hvl:ds.length=vs.length:=hd.len;have hpA:∀i,p∉As i:=λi=>R1.fresh hp i
   refine⟨λi m t H2=>i<=ds.length/\m=ds.length-i/\H2 p=some (.lst t)/\t.length<=i/\∃B2 S l N,Rel Y M B2 S As Z H2 T/\Gw I L H1 B2 S H2/\S p=none/\p∉N/\New N H1 S As/\Ows Y B2 H2 l s t N/\
    Po Y (KO Y (.ct s)) E M I L As Z H1 T ((dD mi me (h9 T ix) (ds.drop i)).bind λr=>.ok (.lst (l++r))) Q,⟨ds.length,YS _,rfl,bj,XD _,I,L,[],[],R1.new hp,Gw.newO R1 hp,R1.uh.free hp,by simp,New.nil,by rw[Ows];exact⟨rfl,rfl⟩,W⟩,?_⟩
   rintro i m t H2 ⟨hi,rfl,hy,hle,B2,S,l,N,R2,g2,u2,pN,nN,dz,k⟩;have hpe2:=hJ H2 g2.h;refine⟨hy,YI hle (d6 (X4 (YI hi z))),?_⟩;by_cases hlt:i<ds.length
   · refine .inr ⟨hpe2.2.1 i (by omega),λv H3 hyl=>?_⟩;obtain⟨rfl,ev⟩:=hpe2.2.2 i v H3 (by omega) hyl;obtain⟨d,ed,dd⟩:=hd.geti ev;rw[lg ed,dD]at k;have RI:=R2.inner (m:= .F) hix (Vg R2.bu R2.uh (Dn.mono g2.b dd));refine hti B2 S _ _ H3 _ _ RI ?_
     -- what an inner step leaves
     have n:∀{G f A:Hp} {a:Addr} {o1:HO},Same f A->Gw B2 S H3 G f A->S a=none->H3 a=some o1->¬ jR o1->f a=none:=λ{G f A a o1} uh g h1 h2 h3=>by
      cases q:f a with
      |none=>rfl
      |some o=>
        rcases g.fr a o q with z|z|z
        ·rw[h1]at z;cases z
        ·rw[h2]at z;cases z
        ·have:=uh a o q;rw[g.h _ _ h2]at this;cases this;exact(h3 z).elim
     have relU:∀{G f A:Hp},Same G f->Same f A->Gw B2 S H3 G f A->Rel Y M G f As Z A T:=λ{G f A} bu uh g=>R2.grow g.b g.u g.h bu uh λj a C=>by
      obtain⟨o',q',nt⟩:=(R2.lo j).at2 C;exact n uh g (R2.un j a C) q' nt
     have nU:∀{G f A:Hp},Same f A->Gw B2 S H3 G f A->New N H1 f As:=λ{G f A} uh g=>⟨nN.nd,nN.fr,λa C=>by
      obtain⟨o',q',nt⟩:=Ows.at2 dz C
      exact n uh g (nN.un a C) q' nt⟩
     have dzU:∀{G f A:Hp},Gw B2 S H3 G f A->Ows Y G A l s t N:=λ{G f A} g=>Ows.mono g.b (λa C=>by
      obtain⟨o',q',nt⟩:=Ows.at2 dz C
      rw[q',g.h _ _ q']) dz
     have pt:¬ jR (.lst t):=λ⟨_,z⟩=>by cases z
     cases eb:mi (some d::h9 T ix) with
     |bad=>rw[eb]at k;exact k.elim
     |exc c=>rw[eb]at k;exact k.elim
     |ok c=>
       rw[eb]at k;intro b G f A N3 R3' g3 n3 hb;cases hb;cases c with
       |false=>
         rw[Xj Xw];exact⟨ds.length-(i+1),by omega,hlt,rfl,g3.h _ _ hy,by omega,G,f,l,N,relU R3'.bu R3'.uh g3,g2.trans g3,n R3'.uh g3 u2 hy pt,pN,nU R3'.uh g3,dzU g3,k⟩
       |true=>
         rw[Xl rfl];refine hte G f _ _ A _ _ R3' ?_;replace k:Po Y (KO Y (.ct s)) E M I L As Z H1 T (((me (some d::h9 T ix)).calm.bind λx=>(dD mi me (h9 T ix) (ds.drop (i+1))).bind λxs=>.ok (x::xs)).bind λr=>.ok (.lst (l++r))) Q:=k;cases ee:me (some d::h9 T ix) with
         |bad=>rw[ee]at k;exact k.elim
         |exc c=>rw[ee]at k;exact k.elim
         |ok x=>
           rw[ee]at k;intro y B4 U4 H5 N4 R4' g4 n4 hx;have hx:Ow Y B4 H5 x s y N4:=hx;have K:=g3.trans g4;have y5:H5 p=some (.lst t):=K.h _ _ hy;have pN4:p∉N4:=λhm=>by have:=n4.fr p hm;rw[g3.h _ _ hy]at this;cases this
           have up4:=n R4'.uh K u2 hy pt;have nN4:=nU R4'.uh K;have R4:=relU R4'.bu R4'.uh K
           have g5:Gw I L H1 B4 U4 (upd H5 p (.lst (t++[y]))):=by
            have g:=g2.trans K;exact⟨g.toEx,λa o q=>by rw[a7 (bE q hp)];exact g.h a o q,g.fr⟩
           refine⟨y5,ds.length-(i+1),by omega,hlt,rfl,bj,by rw[Xo,Ye];omega,B4,U4,l++[x],N++N4,R4.poke up4 hpA,g5,up4,?_,?_,?_,?_⟩
           · intro hm;rcases XE.mp hm with h|h
             ·exact pN h
             ·exact pN4 h
           · refine⟨XV.mpr ⟨nN.nd,n4.nd,λa C c hc e=>?_⟩,λa C=>?_,λa C=>?_⟩
             · obtain⟨o',q',nt⟩:=Ows.at2 dz C
               have:=n4.fr c hc
               rw[<-e,g3.h _ _ q']at this;cases this
             · rcases XE.mp C with h|h
               ·exact nN.fr a h
               ·exact(g2.h.trans g3.h).free (n4.fr a h)
             · rcases XE.mp C with h|h
               ·exact nN4.un a h
               ·exact n4.un a h
           · have app:∀{l:List D} {t:List V} {N:List Addr},Ows Y B4 H5 l s t N->p∉N->Ows Y B4 (upd H5 p (.lst (t++[y]))) l s t N->True:=λ_ _ _=>trivial
             have key:∀{H6:Hp} {l:List D} {t:List V} {N:List Addr},Ows Y B4 H6 l s t N->Ow Y B4 H6 x s y N4->Ows Y B4 H6 (l++[x]) s (t++[y]) (N++N4):=by
              intro H6 l
              induction l with
              |nil=>
                intro t N h w;rw[Ows]at h;obtain⟨rfl,rfl⟩:=h;show Ows Y B4 H6 [x] s [y] N4;rw[Ows];exact⟨y,[],N4,[],rfl,by simp,w,by rw[Ows];exact⟨rfl,rfl⟩⟩
              |cons z l ih=>
                intro t N h w;rw[Ows]at h;obtain⟨u,r,A1,A2,rfl,rfl,h1,h2⟩:=h;show Ows Y B4 H6 (z::(l++[x])) s (u::(r++[y])) _;rw[Ows];exact⟨u,r++[y],A1,A2++N4,rfl,by rw[Yh],h1,ih h2 w⟩
             exact key (Ows.mono (Same.refl _) (λa C=>a7 (λe:a=p=>pN (e▸C))) (dzU K)) (Ow.mono (Same.refl _) (λa C=>a7 (λe:a=p=>pN4 (e▸C))) hx)
           · cases eg:dD mi me (h9 T ix) (ds.drop (i+1)) with
             |ok r=>
               rw[eg]at k;show Po Y (KO Y (.ct s)) E M I L As Z H1 T (.ok (.lst (l++[x]++r))) Q;rw[Yh];exact k
             |exc c=>rw[eg]at k;exact k
             |bad=>rw[eg]at k;exact k
   · have e:i=ds.length:=by omega
     subst e;rw[Zm,dD]at k;refine .inl ⟨hpe2.1 _ (by omega),?_⟩;have P3:Po Y (KO Y (.ct s)) E M I L As Z H1 T (.ok (.lst (l++[]))) Q:=k;rw[XZ]at P3;refine P3 (.ref p) B2 S H2 (p::N) R2 g2 ⟨XH.mpr ⟨pN,nN.nd⟩,λa q=>?_,λa q=>?_⟩ ?_
     · rcases Xv.mp q with e|e
       ·rw[e];exact hp
       ·exact nN.fr a e
     · rcases Xv.mp q with e|e
       ·rw[e];exact u2
       ·exact nN.un a e
     ·show Ow Y B2 H2 (.lst l) (.ct s) (.ref p) (p::N);rw[Ow];exact⟨p,t,N,rfl,hy,rfl,dz⟩
 ·rw[Xj z]at W;exact W.elim
end
end Mi
namespace Cl
open PySem L2 Mi
section
variable{Z X W O:Type}{Y:Z->T0}{e:X->D}{e':W->D}{e'':O->D}
instance decH3 {X W O:Type} [DecidableEq X] [DecidableEq W] [DecidableEq O]:DecidableEq (X×W×O):=inferInstance
def Bd(e:X->D)(e':W->D)(e'':O->D):X×W×O->D:=λp=>.lst [e p.1,e' p.2.1,e'' p.2.2]
theorem Uw(p:X×W×O):SimR e (i5 (Bd e e' e'' p) (.int 0)) (Rz p):=rfl
theorem Uv(p:X×W×O):SimR e' (i5 (Bd e e' e'' p) (.int 1)) (IA p):=rfl
theorem Uu(p:X×W×O):SimR e'' (i5 (Bd e e' e'' p) (.int 2)) (FC p):=rfl
end
end Cl
namespace Mi
open PySem L2
section
variable{Y:Cm}{E:XK}{Kr:KT D V}{pr:Nat->Bool}{M:List Md}{K:L0}{B U H:Hp}{As:Nat->List Addr}{Z:St}{T:T0}
theorem pND:PJ Y (KO Y .dp) E M (tC .non) (aP .non):=λB U As Z H T Q R P=>P .non B U H [] R (Gw.refl _ _ _) New.nil (show Ow Y B H .non .dp .non [] by simp only[Ow];exact⟨by rw[Dn],trivial⟩)
theorem Ows.len{s:Sh}:∀{ds:List D} {xs:List V} {A:List Addr},Ows Y B H ds s xs A->ds.length=xs.length
 |[],_,_,h=>by rw[Ows]at h;rw[h.1];rfl
 | d::ds,_,_,h=>by
   rw[Ows]at h;obtain⟨x,r,A1,b,rfl,_,_,a⟩:=h;rw[Xp,Xp,Ows.len a]
theorem Ows.snoc{s:Sh}{d:D}{u:V}{N:List Addr}:∀{ds:List D} {xs:List V} {A:List Addr},Ows Y B H ds s xs A->Ow Y B H d s u N->Ows Y B H (ds++[d]) s (xs++[u]) (A++N)
 | [],_,_,h,w=>by
   rw[Ows]at h;obtain⟨rfl,rfl⟩:=h;show Ows Y B H [d] s [u] N;rw[Ows];exact⟨u,[],N,[],rfl,by simp,w,by rw[Ows];exact⟨rfl,rfl⟩⟩
 | d0::ds,_,_,h,w=>by
   rw[Ows]at h;obtain⟨x,r,A1,c,rfl,rfl,b,a⟩:=h;show Ows Y B H (d0::(ds++[d])) s (x::(r++[u])) _;rw[Ows];exact⟨x,r++[u],A1,c++N,rfl,by rw[Yh],b,Ows.snoc a w⟩
theorem Ow.dpS{d:D}{v:V}{A:List Addr}(h:bL d=true)(w:Ow Y B H d .fz v A):Ow Y B H d .dp v A:=by
 cases d with
 |int _=>simp only[Ow]at w ⊢;exact w
 |bl _=>simp only[Ow]at w ⊢;exact w
 |non=>simp only[Ow]at w ⊢;exact w
 |str _=>simp only[Ow]at w ⊢;exact w
 |_=>cases h
theorem Ows.dpS:∀{ds:List D} {xs:List V} {A:List Addr},ds.all bL=true->Ows Y B H ds .fz xs A->Ows Y B H ds .dp xs A
 |[],_,_,_,w=>by rw[Ows]at w ⊢;exact w
 | d::ds,_,_,h,w=>by
   rw[List.all_cons,YF]at h;rw[Ows]at w ⊢;obtain⟨x,r,A1,f,e,c,b,a⟩:=w;exact⟨x,r,A1,f,e,c,Ow.dpS h.1 b,Ows.dpS h.2 a⟩
theorem Ow.ld{ds:List D}{v:V}{A:List Addr}(w:Ow Y B H (.lst ds) .dp v A):∃(a:Addr) (xs:List V) (b:List Addr),v=.ref a/\H a=some (.lst xs)/\A=a::b/\Ows Y B H ds .dp xs b:=by rw[Ow]at w;exact w
theorem Ow.ld'{ds:List D}{a:Addr}{xs:List V}{b:List Addr}(h:H a=some (.lst xs))(k:Ows Y B H ds .dp xs b):Ow Y B H (.lst ds) .dp (.ref a) (a::b):=by rw[Ow];exact⟨a,xs,b,rfl,h,rfl,k⟩
def Km(m:T0->Out D):T0->Out D:=λT=>(m T).bind λd C=>match d with
 |.lst ds=>if ds.all bL=true then .ok (.lst ds) C else .bad
 |_=>.bad
theorem WY{t:TE}{m:T0->Out D}(h:MJ Y (KO Y (.ct .fz)) E M t m):MJ Y (KO Y .dp) E M t (Km m):=by
 intro B U As Z H T Q R P;refine h B U As Z H T Q R ?_;unfold Km at P;cases e:m T with
 |ok d C=>
   rw[e]at P;cases d with
   |lst ds=>
     replace P:Mo Y (KO Y .dp) E M B U Z (if ds.all bL=true then .ok (.lst ds) C else .bad) Q:=P;by_cases z:ds.all bL=true
     ·rw[Xl z]at P;intro v S J G H' N j i b w;obtain⟨a,xs,k,rfl,g,rfl,f⟩:=Ow.ls (show Ow Y S H' (.lst ds) (.ct .fz) v N from w);exact P _ S J G H' _ j i b (Ow.ld' g (Ows.dpS z f))
     ·rw[Xj z]at P;exact P.elim
   |_=>exact P.elim
 |exc c C=>rw[e]at P;exact P
 |bad=>rw[e]at P;exact P
theorem Rel.more(R:Rel Y M B U As Z H T){i:Nat}{a:Addr}{o':HO}{d d':D}{v:V}{sh:Sh}{N:List Addr}(r:M.getD i .F= .O sh)(p:rg Z i=some v)(hd:rg T i=some d)(o:a∈As i)(n:NewM N U As)(w:Ow Y B (upd H a o') d' sh v (As i++N)):
 Rel Y M B U (λj=>if j=i then As i++N else As j) Z (upd H a o') (T.set i (some d')):=by
 have hi:i<T.length:=(XF.mp (cI hd)).1;refine⟨R.bu,λb u q=>?_,λj=>?_,λj k b h f g=>?_,λj b f=>?_,λj=>?_,by rw[Yc];exact R.len,R.tb⟩
 ·rw[a7 (bE q (R.un i a o))];exact R.uh b u q
 · show(if j=i then As i++N else As j).Nodup;split
   ·exact XV.mpr ⟨R.nd i,n.nd,λb f c g e=>n.ap c g i (e▸f)⟩
   ·exact R.nd j
 · replace f:b∈(if j=i then As i++N else As j):=f;replace g:b∈(if k=i then As i++N else As k):=g;split at f
   · rename_i m;split at g
     ·rename_i l;exact h (m.trans l.symm)
     · rename_i l;rcases XE.mp f with z|z
       ·exact R.dj i k b (λe=>l e.symm) z g
       ·exact n.ap b z k g
   · rename_i m;split at g
     · rcases XE.mp g with z|z
       ·exact R.dj i j b (λe=>m e.symm) z f
       ·exact n.ap b z j f
     ·exact R.dj j k b h f g
 · replace f:b∈(if j=i then As i++N else As j):=f;split at f
   · rcases XE.mp f with z|z
     ·exact R.un i b z
     ·exact n.un b z
   ·exact R.un j b f
 · rw[gU];show Lo Y B U (upd H a o') (M.getD j .F) _ _ (if j=i then As i++N else As j);by_cases e:i=j
   ·subst e;rw[Xl ⟨rfl,hi⟩,r,Xl rfl];exact⟨v,p,w⟩
   ·rw[Xj λz=>e z.1,Xj λz=>e z.symm];exact(R.lo j).mono (Same.refl _) (Same.refl _) λb f=>a7 (λz:b=a=>R.dj i j a e o (z▸f))
theorem Rm{i:Nat}{s:Sh}{te:TE}{j:T0->Out D}(m:M.getD i .F= .O (.ct s))(G:MJ Y (KO Y s) E M te j):MJ Y (KR Y .F) E M (NL K "list" mW (dF i) (b6 te dW)) (zy i j):=by
 intro B U As Z H T Q R P;unfold zy at P;cases e:rg T i with
 |none=>rw[e]at P;exact P.elim
 |some d0=>
   cases d0 with
   |lst ds=>
     rw[e]at P;replace P:Mo Y (KR Y .F) E M B U Z ((j T).bind (sJ i)) Q:=P;have l:=R.lo i;rw[e,m]at l;obtain⟨v,k,w⟩:=l;obtain⟨a,xs,A',rfl,S,_,h2⟩:=Ow.ls (show Ow Y B H (.lst ds) (.ct s) v (As i) from w);refine⟨.ref a,cI k,.inl ⟨rfl,xs,SqL.of S⟩,G.bnd R P λx C u I L g H1 N p e1 q A W=>?_⟩;have r:=p.lo i;unfold sJ at W;cases f:rg C i with
     |none=>rw[f]at W;exact W.elim
     |some X=>
       cases X with
       |lst c=>
         rw[f]at W;rw[f,m,k]at r;have y:Ow Y I H1 (.lst c) (.ct s) (.ref a) (g i):=gY r rfl;obtain⟨a',h,A2,V,J,o,t⟩:=Ow.ls y;cases V;have nd:=p.nd i;rw[o]at nd;have nd:=XH.mp nd;have d:a∈g i:=by rw[o];exact Xk
         replace W:Mo Y (KR Y .F) E M I L Z (AW (eC i) C (iP c x)) Q:=W;unfold iP at W;by_cases z:c.length<am
         ·rw[Xl z]at W;refine⟨a,h,u,rfl,rfl,J,d6 (X4 (by rw[<-t.len];exact z)),?_⟩;refine W .non I L _ _ [] (p.more m k f d q ?_) (Ex.refl _ _) NewM.nil (by show Dn Y _ _ _;rw[Dn]);rw[o];exact Ow.ls' bj (Ows.snoc (Ows.mono (Same.refl _) (λb n=>a7 (λe:b=a=>nd.1 (e▸n))) t) (Ow.mono (Same.refl _) (λb n=>a7 (λe:b=a=>q.ap b n i (e▸d))) A))
         ·rw[Xj z]at W;exact W.elim
       |_=>rw[f]at W;exact W.elim
   |_=>rw[e]at P;exact P.elim
abbrev TU:R2:=λx y H Q=>y=.non/\Q (.bl (!decide (x=.non))) H
def sK(c:Int):D->D
 |.lst a=>.lst (a++[.int c])
 |d=>d
def E5:D->Bool
 |.non=>true
 |.lst a=>decide (a.length<am)
 |_=>false
def dpS(i k j:Nat)(c:Int):T0->SO:=λT=>match rg T i,rg T k with
 | some (.lst a),some (.int n)=>(match a[n.toNat]? with
   |some (.lst b)=>if 0<=n/\b.all E5=true/\dR T (some j)=true then .nx (T.set i (some (.lst (a.set n.toNat (.lst (b.map (sK c))))))) else .bad
   |_=>.bad)
 |_,_=>.bad
theorem mT{X:Type}{l:List X}{i:Nat}{x:X}(h:l[i]?=some x):l.set i x=l:=by
 apply ZB;intro j;by_cases e:i=j
 ·subst e;rw[Yp (XF.mp h).1,h]
 ·rw[Yu e]
theorem WS{i k j:Nat}{c:Int}(V:M.getD i .F= .O (.ct (.ct .dp)))(hk:M.getD k .F= .F)(hij:i≠j)(hp:pr j=false):
 SJ Y E Kr pr M (O8 (uf Y.K (Lp (Mh Y.K) (dF i) (dF k))) (eZ j) (LB (FF (Lp TU (dF j) (tC .non))) (wT (NL K "list" mW (dF j) (b6 (tC (.int c)) dW))) BU)) (dpS i k j c):=by
 intro B U As Z H T Dd R P;unfold dpS at P;cases e:rg T i with
 |none=>rw[e]at P;exact P.elim
 |some d0=>
   cases e2:rg T k with
   |none=>rw[e,e2]at P;cases d0<;>exact P.elim
   |some J=>
     rw[e,e2]at P;cases d0 with
     |lst t=>
       cases J with
       |int n=>
         dsimp only at P;cases et:t[n.toNat]? with
         |none=>rw[et]at P;exact P.elim
         |some dt=>
           rw[et]at P;cases dt with
           |lst f=>
             dsimp only at P;by_cases z:0<=n/\f.all E5=true/\dR T (some j)=true
             · rw[Xl z]at P;obtain⟨z0,z1,z2⟩:=z;obtain⟨hjl,hjn⟩:=k8 z2;have l:=R.lo i;rw[e,V]at l;obtain⟨v,hv,w⟩:=l;obtain⟨I,vs,A',rfl,h1,hA,h2⟩:=Ow.ls (show Ow Y B H (.lst t) (.ct (.ct .dp)) v (As i) from w);have lk:=R.lo k;rw[e2,hk]at lk;obtain⟨vk,hvk,wk⟩:=lk;have wk:Dn Y B (.int n) vk:=wk.1;rw[Dn]at wk;subst wk;obtain⟨u,L,A1,Rr,hu,X,ow,cl⟩:=Ows.lens h2 et;obtain⟨a,xs,r,rfl,h3,rfl,h4⟩:=Ow.ls ow;have nd:=R.nd i;rw[hA,X]at nd;have nd0:=XH.mp nd;obtain⟨_,nd2,nd3⟩:=XV.mp nd0.2;obtain⟨nd4,_,nd5⟩:=XV.mp nd2;have nd6:=XH.mp nd4
               have A:∀b,b=I\/b=a\/b∈L\/b∈Rr->b∉r:=λb g V=>by
                rcases g with rfl|rfl|g|g
                ·exact nd0.1 (Xr _ (XA _ (no _ V)))
                ·exact nd6.1 V
                ·exact nd3 b g b (XA _ (no _ V)) rfl
                ·exact nd5 b (no _ V) b g rfl
               have inA:∀b∈r,b∈As i:=λb g=>by rw[hA,X];exact no _ (Xr _ (XA _ (no _ g)))
               refine⟨.ref I,cI hv,.int n,cI hvk,I,vs,n,.ref a,rfl,rfl,SqL.of h1,by rw[Cl.kS vs z0];exact hu,a,rfl,⟨xs,SqL.of h3⟩,?_⟩;have hlen:f.length=xs.length:=h4.len;refine⟨λm q o H'=>m<=xs.length/\q=xs.length-m/\Kp pr Z o/\rg o i=some (.ref I)/\(∀b,b∉r->H' b=H b)/\Ows Y B H' ((f.take m).map (sK c)++f.drop m) .dp xs r/\Rel Y M B U As o H' (T.set i (some (.lst (t.set n.toNat (.lst ((f.take m).map (sK c)++f.drop m)))))),⟨_,YS _,rfl,Kp.refl _ _,hv,λ_ _=>rfl,h4,?_⟩,?_⟩
               ·show Rel Y M B U As Z H (T.set i (some (.lst (t.set n.toNat (.lst f)))));rw[mT et,mT (cI e)];exact R
               rintro m q o H' ⟨hle,rfl,k2,hv2,hH,hO,R2⟩;have ha':H' a=some (.lst xs):=by rw[hH a (A a (.inr (.inl rfl)))];exact h3
               have sq:SqL Y.K H' a xs:=SqL.of ha';by_cases hlt:m<xs.length
               · obtain⟨x,ex⟩:∃x,xs[m]?=some x:=⟨_,Xy hlt⟩;obtain⟨d,ed⟩:∃d,f[m]?=some d:=⟨_,Xy (by omega)⟩
                 have ed2:((f.take m).map (sK c)++f.drop m)[m]?=some d:=by
                  rw[Yi (by rw[on,Y4];omega),on,Y4,ZZ (by omega),Zh,List.getElem?_drop,Nat.add_zero];exact ed
                 have jp:∀d',((f.take m).map (sK c)++f.drop m).set m d'=(f.take m).map (sK c)++d'::f.drop (m+1):=λd'=>by
                  rw[List.set_append_right _ _ (by rw[on,Y4];omega),on,Y4,ZZ (by omega),Zh,lg ed,List.set_cons_zero]
                 have tk:(f.take (m+1)).map (sK c)++f.drop (m+1)=(f.take m).map (sK c)++sK c d::f.drop (m+1):=by
                  rw[List.take_succ,ed,XJ];simp
                 refine .inr ⟨⟨xs,x,sq,ex⟩,λp G=>Kp pr Z p/\rg p i=some (.ref I)/\(∀b,b∉r->G b=H b)/\Ows Y B G ((f.take (m+1)).map (sK c)++f.drop (m+1)) .dp xs r/\Rel Y M B U As p G (T.set i (some (.lst (t.set n.toNat (.lst ((f.take (m+1)).map (sK c)++f.drop (m+1))))))),λp G h=>⟨xs.length-(m+1),by omega,hlt,rfl,h⟩,λy Hx hy=>?_⟩;obtain⟨rfl,ev⟩:=hy;have ev:=ev xs sq;rw[ex]at ev;cases ev
                 have hjn2:rg (T.set i (some (.lst (t.set n.toNat (.lst ((f.take m).map (sK c)++f.drop m)))))) j=none:=by
                  rw[gU,Xj λz=>hij z.1];exact hjn
                 have R3:=R2.slot (x:=some x) hjn2;have hσ:(o.set j (some x))[j]?=some (some x):=Yp (by have:=R2.len;rw[Yc]at this;rw[<-this];exact hjl)
                 have S:rg (o.set j (some x)) i=some (.ref I):=by
                  have:rg (o.set j (some x)) i=rg o i:=by unfold rg;rw[List.getElem?_set_ne (Ne.symm hij)]
                  rw[this];exact hv2
                 obtain⟨x',L3,A3,R4,hx',W,Q,cl3⟩:=Ows.lens hO ed2;rw[ex]at hx';cases hx';have hd:=YE.mp z1 d (Yv ed);refine⟨x,hσ,rfl,_,rfl,?_⟩;cases d with
                 |non=>
                   simp only[Ow]at Q;have hx0:=Q.1;rw[Dn]at hx0;subst hx0;refine⟨k2.slot hp,S,hH,?_,?_⟩
                   ·rw[tk,<-jp,show sK c D.non=D.non from rfl,mT ed2];exact hO
                   ·rw[tk,<-jp,show sK c D.non=D.non from rfl,mT ed2];exact R3
                 |lst es=>
                   obtain⟨l,s,A4,rfl,hl,rfl,h5⟩:=Ow.ld Q;have hes:es.length<am:=Yy hd;have ndA:r.Nodup:=nd6.2;rw[W]at ndA;obtain⟨_,ne2,ne3⟩:=XV.mp ndA;obtain⟨ne4,_,ne5⟩:=XV.mp ne2;have ne6:=XH.mp ne4;have lA:l∈r:=by rw[W];exact Xr _ (XA _ Xk)
                   refine⟨.ref l,hσ,.inl ⟨rfl,s,SqL.of hl⟩,l,s,.int c,rfl,rfl,hl,d6 (X4 (by rw[<-h5.len];exact hes)),?_⟩;have C:∀b,b∉r->upd Hx l (.lst (s++[.int c])) b=H b:=λb g=>by rw[a7 (λe:b=l=>g (e▸lA))];exact hH b g
                   have w5:Ow Y B (upd Hx l (.lst (s++[.int c]))) (.lst (es++[.int c])) .dp (.ref l) (l::A4):=by
                    refine Ow.ld' bj ?_
                    have:=Ows.snoc (Y:=Y) (d:=.int c) (u:=.int c) (N:=[]) (Ows.mono (Same.refl _) (λb g=>a7 (λe:b=l=>ne6.1 (e▸g))) h5:Ows Y B (upd Hx l (.lst (s++[.int c]))) es .dp s A4) (by simp only[Ow];exact⟨by rw[Dn],trivial⟩)
                    simpa using this
                   have w6:=cl3 B (upd Hx l (.lst (s++[.int c]))) (.lst (es++[.int c])) (l::A4) (Same.refl _) (λb g=>a7 (λe:b=l=>by
                    subst e;rcases g with g|g
                    ·exact ne3 b g b (XA _ Xk) rfl
                    ·exact ne5 b Xk b g rfl)) w5
                   rw[jp,<-W]at w6;have w7:Ows Y B (upd Hx l (.lst (s++[.int c]))) ((f.take (m+1)).map (sK c)++f.drop (m+1)) .dp xs r:=by rw[tk];exact w6
                   refine⟨k2.slot hp,S,C,w7,?_⟩
                   have hd3:rg (T.set i (some (.lst (t.set n.toNat (.lst ((f.take m).map (sK c)++f.drop m)))))) i=some (.lst (t.set n.toNat (.lst ((f.take m).map (sK c)++f.drop m)))):=by
                    rw[gU,Xl ⟨rfl,(XF.mp (cI e)).1⟩]
                   have w8:=cl B (upd Hx l (.lst (s++[.int c]))) (.lst ((f.take (m+1)).map (sK c)++f.drop (m+1))) (a::r) (Same.refl _) (λb g=>C b (A b (by rcases g with g|g;exact .inr (.inr (.inl g));exact .inr (.inr (.inr g))))) (Ow.ls' (by rw[C a (A a (.inr (.inl rfl)))];exact h3) w7)
                   have R5:=R3.mut (o':=.lst (s++[.int c])) V S hd3 (inA l lA) (d':=.lst (t.set n.toNat (.lst ((f.take (m+1)).map (sK c)++f.drop (m+1))))) (by
                    rw[hA,X]
                    exact Ow.ls' (by rw[C I (A I (.inl rfl))];exact h1) w8)
                   rw[List.set_set]at R5;exact R5
                 |_=>cases hd
               · have em:m=xs.length:=by omega
                 subst em;refine .inl ⟨⟨xs,sq,by omega⟩,?_⟩;rw[<-hlen,List.take_length,Zm,XZ]at R2;exact P o B U As H' R2 (Ex.refl _ _) k2
             ·rw[Xj z]at P;exact P.elim
           |_=>exact P.elim
       |_=>exact P.elim
     |_=>cases J<;>exact P.elim
end
structure Al (i f d s:Nat) (p:Addr) (vf vd vs:V) (B:Hp) (Z:St):Prop where
 sa:rg Z i=some (.ref p)
 bl:B p=some (.lst [vf,vd,vs])
 f:rg Z f=some vf
 d:rg Z d=some vd
 s:rg Z s=some vs
def NV(a:Nat->Bool)(i f d s:Nat):Nat->Bool:=λj=>a j||(decide (j=i)||(decide (j=f)||(decide (j=d)||decide (j=s))))
def S4(f d s:Nat):T0->Res D:=λT=>match rg T f,rg T d,rg T s with
 |some x,some y,some z=>.ok (.lst [x,y,z])
 |_,_,_=>.bad
def xb(i f d s:Nat):T0->SO:=λT=>match rg T f,rg T d,rg T s with
 |some _,some _,some _=>if dR T (some i)=true then .nx T else .bad
 |_,_,_=>.bad
section
variable{Y:Cm}{E:XK}{Kr:KT D V}{pr:Nat->Bool}{M:List Md}{K:L0}{B U H:Hp}{As:Nat->List Addr}{Z:St}{T:T0}{i f d s:Nat}{p:Addr}{vf vd vs:V}
def SA(Y:Cm)(E:XK)(Kr:KT D V)(pr:Nat->Bool)(M:List Md)(F:Hp->St->Prop)(t:TS)(m:T0->SO):Prop:=∀B U As Z H T D,Rel Y M B U As Z H T->F B Z->So Y E Kr pr M B U Z (m T) D->t D Z H
def Wo(Y:Cm)(E:XK)(M:List Md)(F:Hp->St->Prop){X W:Type}(a:KT X W)(t:St->Hp->(W->Hp->Prop)->Prop)(m:T0->Res X):Prop:=∀B U As Z H T Q,Rel Y M B U As Z H T->F B Z->Po Y a E M B U As Z H T (m T) Q->t Z H Q
theorem Al.keep{S:Hp}{a:St}(A:Al i f d s p vf vd vs B Z)(b:Same B S)(k:Kp (NV pr i f d s) Z a):Al i f d s p vf vd vs S a:=
 ⟨(k i (by simp[NV])).trans A.sa,b _ _ A.bl,(k f (by simp[NV])).trans A.f,(k d (by simp[NV])).trans A.d,(k s (by simp[NV])).trans A.s⟩
theorem Kp.ofA{a:St}(k:Kp (NV pr i f d s) Z a):Kp pr Z a:=λj h=>k j (by simp[NV,h])
theorem qj{t u:TS}{m n:T0->SO}(h:SJ Y E Kr (NV pr i f d s) M t m)(k:SA Y E Kr pr M (Al i f d s p vf vd vs) u n):SA Y E Kr pr M (Al i f d s p vf vd vs) (FG t u) (ax m n):=by
 intro B U As Z H T D R A P;refine h B U As Z H T _ R ?_;unfold ax at P;cases e:m T with
 |nx C=>rw[e]at P;exact λa S J G H' j g kp=>k S J G a H' C D j (A.keep g.b kp) (So.at P g kp.ofA)
 |bk C=>rw[e]at P;exact λa S J G H' j g kp=>P a S J G H' j g kp.ofA
 |ct C=>rw[e]at P;exact λa S J G H' j g kp=>P a S J G H' j g kp.ofA
 |rt x C=>rw[e]at P;exact λv a S J G H' N j g kp=>P v a S J G H' N j g kp.ofA
 |exc c C=>rw[e]at P;exact λa S J G H' j g kp=>P a S J G H' j g kp.ofA
 |bad=>rw[e]at P;exact P
theorem Pv{u:TS}{n:T0->SO}(J:f≠i)(hd:d≠i)(G:s≠i)(hp:pr i=false)(k:∀p vf vd vs,SA Y E Kr pr M (Al i f d s p vf vd vs) u n):
 SJ Y E Kr pr M (FG (uP (LA (b6 (dF f) (b6 (dF d) (b6 (dF s) dW)))) (eZ i)) u) (ax (xb i f d s) n):=by
 intro B U As Z H T D R P;unfold ax xb at P
 have get:∀{j:Nat} {x:Mi.D},rg T j=some x->∃v,rg Z j=some v:=λ{j x} e=>by
  have l:=R.lo j;rw[e]at l;obtain⟨v,F,_⟩:=l;exact⟨v,F⟩
 cases b:rg T f with
 |none=>rw[b]at P;exact P.elim
 |some x=>
   cases c:rg T d with
   |none=>rw[b,c]at P;exact P.elim
   |some y=>
     cases r:rg T s with
     |none=>rw[b,c,r]at P;exact P.elim
     |some z=>
       rw[b,c,r]at P;dsimp only at P;by_cases q:dR T (some i)=true
       · rw[Xl q]at P;obtain⟨m,g⟩:=k8 q;obtain⟨vf,A⟩:=get b;obtain⟨vd,w⟩:=get c;obtain⟨vs,t⟩:=get r;refine⟨vf,cI A,vd,cI w,vs,cI t,by show 3<=sizeLine;decide,λp a=>?_⟩;have K:=(R.newB (o:=.lst [vf,vd,vs]) a).slot (x:=some (.ref p)) g;have C:i<Z.length:=by rw[<-R.len];exact m
         have ne:∀{j:Nat} {v:V},j≠i->rg Z j=some v->rg (Z.set i (some (.ref p))) j=some v:=λ{j v} I h=>by
          have:rg (Z.set i (some (.ref p))) j=rg Z j:=by unfold rg;rw[List.getElem?_set_ne (Ne.symm I)]
          rw[this];exact h
         refine k p vf vd vs _ _ As _ _ T D K ⟨?_,bj,ne J A,ne hd w,ne G t⟩ (So.at P (Ex.newB R a) ((Kp.refl pr Z).slot hp));unfold rg;rw[List.getElem?_set_self C];rfl
       ·rw[Xj q]at P;exact P.elim
theorem CJ{g w z:Nat}{k:List Md}{N:List Mi.D->Out Mi.D}(V:M.getD z .F= .F)(I:kA [.X,.X,.X,.F] k=true):
 Wo Y E M (Al i f d s p vf vd vs) (KR Y .F) (tO (dX Y k (KR Y .F) N) [] E (b6 (dF g) (b6 (dF w) (b6 (dF i) (b6 (dF z) dW))))) (pc N (aA (vr g) (aA (vr w) (aA (S4 f d s) (aA (vr z) bq))))):=by
 intro B U As Z H T Q R A P;unfold pc aA vr S4 at P
 have get:∀{j:Nat} {x:Mi.D},rg T j=some x->∃v,rg Z j=some v:=λ{j x} e=>by
  have l:=R.lo j;rw[e]at l;obtain⟨v,W,_⟩:=l;exact⟨v,W⟩
 cases a:rg T g with
 |none=>simp only[a,Res.bind]at P;exact P.elim
 |some S=>
   cases b:rg T w with
   |none=>simp only[a,b,Res.bind]at P;exact P.elim
   |some O=>
     cases c:rg T f with
     |none=>simp only[a,b,c,Res.bind]at P;exact P.elim
     |some r=>
       cases m:rg T d with
       |none=>simp only[a,b,c,m,Res.bind]at P;exact P.elim
       |some q=>
         cases n:rg T s with
         |none=>simp only[a,b,c,m,n,Res.bind]at P;exact P.elim
         |some u=>
           cases o:rg T z with
           |none=>simp only[a,b,c,m,n,o,Res.bind]at P;exact P.elim
           |some y=>
             simp only[a,b,c,m,n,o,Res.bind,bq]at P;obtain⟨G,L⟩:=get a;obtain⟨C,K⟩:=get b;obtain⟨t,J⟩:=get o;refine⟨G,cI L,C,cI K,.ref p,cI A.sa,t,cI J,?_⟩
             have dz:Dn Y B y t:=by
              have l:=R.lo z;rw[o,V]at l;exact(gY l J).1
             have d3:Dn Y H (.lst [r,q,u]) (.ref p):=by
              rw[Dn];exact⟨p,[vf,vd,vs],rfl,R.bh _ _ A.bl,Dns.append (ds:=[r]) (xs:=[vf]) (Dns.one (R.read A.f c)) (Dns.append (ds:=[q]) (xs:=[vd]) (Dns.one (R.read A.d m)) (Dns.one (R.read A.s n)))⟩
             exact sG (ps:=[.X,.X,.X,.F]) R ⟨S,_,G,_,rfl,rfl,R.read L a,O,_,C,_,rfl,rfl,R.read K b,.lst [r,q,u],_,.ref p,_,rfl,rfl,d3,y,_,t,_,rfl,rfl,dz,rfl,rfl⟩ (fQ I) (fS I) (λ_ _ _ _ _ _ _ h=>h) P
theorem P8{t:TE}{m:T0->Res Mi.D}{F:Hp->St->Prop}(h:Wo Y E M F (KR Y .F) t m):Wo Y E M F KB (O7 (tB t)) (kj (cP m)):=by
 intro B U As Z H T Q R A P;refine h B U As Z H T _ R A ?_;unfold kj cP at P;cases e:m T with
 |bad=>rw[e]at P;exact P
 |exc c=>rw[e]at P;exact P
 |ok x=>
   rw[e]at P;intro v I L H1 N d a f dx;have dx:Dn Y I x v:=dx;cases x with
   |bl b=>
     rw[Dn]at dx;exact⟨b,dx,P _ I L H1 [] d a New.nil rfl⟩
   |_=>exact P.elim
theorem TD{c:TT}{t u:TS}{mc:T0->Res Bool}{m n:T0->SO}(w:Wo Y E M (Al i f d s p vf vd vs) KB c mc)(h:SJ Y E Kr pr M t m)(k:SA Y E Kr pr M (Al i f d s p vf vd vs) u n)(q:∀T C,m T≠ .nx C):
 SA Y E Kr pr M (Al i f d s p vf vd vs) (FG (LB c t BU) u) (ax (fG (aK mc) m bo) n):=by
 intro B U As Z H T D R A P;refine w B U As Z H T _ R A ?_;unfold ax fG aK at P;cases e:mc T with
 |bad=>rw[e]at P;exact P
 |exc c=>rw[e]at P;exact λS J H' y g'=>P Z S J As H' y g'.toEx (Kp.refl _ _)
 |ok b=>
   rw[e]at P;intro v I L H1 N j a z l;cases l;cases b with
   |true=>
     refine h I L As Z H1 T _ j ?_;replace P:So Y E Kr pr M B U Z (match m T with | .nx C=>n C | o=>o) D:=P;cases g:m T with
     |nx C=>exact absurd g (q T C)
     |bk C=>rw[g]at P;exact So.at (r:=.bk C) (D:=D) P a.toEx (Kp.refl _ _)
     |ct C=>rw[g]at P;exact So.at (r:=.ct C) (D:=D) P a.toEx (Kp.refl _ _)
     |rt x C=>rw[g]at P;exact So.at (r:=.rt x C) (D:=D) P a.toEx (Kp.refl _ _)
     |exc c C=>rw[g]at P;exact So.at (r:=.exc c C) (D:=D) P a.toEx (Kp.refl _ _)
     |bad=>rw[g]at P;exact P
   |false=>
     replace P:So Y E Kr pr M B U Z (n T) D:=P;exact k I L As Z H1 T D j ⟨A.sa,a.b _ _ A.bl,A.f,A.d,A.s⟩ (So.at P a.toEx (Kp.refl _ _))
theorem Pp{t:TE}{m:T0->Res Mi.D}(h:Wo Y E M (Al i f d s p vf vd vs) (KR Y .F) t m):SA Y E (KR Y .F) pr M (Al i f d s p vf vd vs) (O6 t) (bG (aK m)):=by
 intro B U As Z H T D R A P;refine h B U As Z H T _ R A ?_;unfold bG aK at P;cases e:m T with
 |bad=>rw[e]at P;exact P
 |exc c=>rw[e]at P;exact λS J H' j g'=>P Z S J As H' j g'.toEx (Kp.refl _ _)
 |ok x=>
   rw[e]at P;exact λv I L H1 N g b a dx=>P v Z I L As H1 N g b.toEx (Kp.refl _ _) ⟨a.nd,a.un,R.apart a⟩ dx
end
theorem Mn{Y:Cm}{E:XK}{M:List Md}{i tb:TE}{l j:T0->Res D}(q:PJ Y (KC Y .U) E M i l)(o:PJ Y (KR Y .X) E M tb j):PJ Y (KR Y .U) E M (WQ (Mg Y.K) i (FI tb) uO) (bn yd l j):=by
 intro B U As Z H T Q R P;refine q.bnd R P λx v I L H1 O _ r w t J W=>o.bnd r W λy u n m g A _ R2 c s d b=>?_;have J:Cn Y L H1 x v:=J;have d:Dn Y g y u:=d;cases y with
 |int k=>
   rw[Dn]at d;subst d;refine⟨k,rfl,?_⟩;cases x with
   |lst ds=>
     obtain⟨a,xs,rfl,f,e⟩:=J;replace b:Po Y (KR Y .U) E M n m As Z g T (if 0<=k then .ok (.lst (ds.drop k.toNat)) else .bad) Q:=b;by_cases z:0<=k
     ·rw[Xl z]at b;refine⟨a,xs,rfl,SqL.of (c.h _ _ f),λp hp=>?_⟩;rw[nv z];exact xI R2 b ((e.mono c.u).drop _) hp
     ·rw[Xj z]at b;exact b.elim
   |scr ds=>
     obtain⟨a,xs,rfl,f,e⟩:=J;replace b:Po Y (KR Y .U) E M n m As Z g T (if 0<=k then .ok (.lst (ds.drop k.toNat)) else .bad) Q:=b;by_cases z:0<=k
     ·rw[Xl z]at b;refine⟨a,xs,rfl,(f.mono c.h).sq,λp hp=>?_⟩;rw[nv z];exact xI R2 b ((e.mono c.u).drop _) hp
     ·rw[Xj z]at b;exact b.elim
   |_=>exact b.elim
 |_=>cases x<;>exact b.elim
end Mi
namespace Cl
open PySem L2 Mi
section
variable{Z X W O:Type}{Y:Z->T0}{e:X->D}{e':W->D}{e'':O->D}{eR:O->D}
theorem Mx{m:T0->Out D}{c:Z->OutC Z (List X)}(b:∀a,bL (e a)=true)(h:NJ Y (eL e) m c):NJ Y (eL e) (Km m) c:=λs=>by
 have h:=h s;unfold Km;cases q:c s with
 |ok l s'=>
   rw[q]at h;rw[show m (Y s)=.ok (.lst (l.map e)) (Y s') from h];show(if (l.map e).all bL=true then Out.ok (D.lst (l.map e)) (Y s') else .bad)=_;rw[Xl (sM b l)];rfl
 |exc c s'=>rw[q]at h;rw[show m (Y s)=.exc c (Y s') from h];rfl
 |bad=>trivial
def Ni(c:Int)(o:Option (List Int)):Option (List Int):=o.map (·++[c])
def uk(o:Option (List Int)):Bool:=match o with
 |none=>true
 |some l=>decide (l.length<am)
@[simp] def WI(g:Z->Option (List (List (Option (List Int)))))(p:Z->List (List (Option (List Int)))->Z)(k:Z->Option Int)(f:Z->Bool)(c:Int):Z->FlC Z O:=λs=>match g s,k s with
 | some a,some n=>(match a[n.toNat]? with
   |some b=>if 0<=n/\b.all uk=true/\f s=true then .nx (p s (a.set n.toNat (b.map (Ni c)))) else .bad
   |none=>.bad)
 |_,_=>.bad
theorem SH(c:Int)(o:Option (List Int)):sK c (eO (eL D.int) o)=eO (eL D.int) (Ni c o):=by
 cases o with
 |none=>rfl
 |some l=>show D.lst (l.map D.int++[D.int c])=D.lst ((l++[c]).map D.int);rw[XJ];rfl
theorem M5(o:Option (List Int)):E5 (eO (eL D.int) o)=uk o:=by
 cases o with
 |none=>rfl
 |some l=>show decide ((l.map D.int).length<am)=decide (l.length<am);rw[on]
theorem S8{i k j:Nat}{c:Int}{g:Z->Option (List (List (Option (List Int))))}{p:Z->List (List (Option (List Int)))->Z}{d:Z->Option Int}{f:Z->Bool}(l:∀s,rg (Y s) i=(g s).map (eL (eL (eO (eL D.int)))))(e:∀s x,(Y s).set i (some (eL (eL (eO (eL D.int))) x))=Y (p s x))(h:∀s,rg (Y s) k=(d s).map D.int)(m:∀s,dR (Y s) (some j)=f s):
 TJ Y eR (dpS i k j c) (WI g p d f c):=λs=>by
 unfold dpS WI;rw[l,h];cases g s with
 |none=>trivial
 |some b=>
   cases d s with
   |none=>trivial
   |some n=>
     show SimS Y eR (match (b.map (eL (eO (eL D.int))))[n.toNat]? with|some (.lst a)=>if 0<=n/\a.all E5=true/\dR (Y s) (some j)=true then SO.nx ((Y s).set i (some (.lst ((b.map (eL (eO (eL D.int)))).set n.toNat (.lst (a.map (sK c))))))) else .bad|_=>.bad) (match b[n.toNat]? with|some a=>if 0<=n/\a.all uk=true/\f s=true then .nx (p s (b.set n.toNat (a.map (Ni c)))) else .bad|none=>.bad);rw[X3];cases b[n.toNat]? with
     |none=>trivial
     |some a=>
       show SimS Y eR (if 0<=n/\(a.map (eO (eL D.int))).all E5=true/\dR (Y s) (some j)=true then SO.nx ((Y s).set i (some (.lst ((b.map (eL (eO (eL D.int)))).set n.toNat (.lst ((a.map (eO (eL D.int))).map (sK c))))))) else .bad) (if 0<=n/\a.all uk=true/\f s=true then .nx (p s (b.set n.toNat (a.map (Ni c)))) else .bad);rw[m,Ad2,show E5∘eO (eL D.int)=uk from funext M5];split
       ·show SO.nx _=SO.nx _;rw[<-e];congr 3;show D.lst _=D.lst _;rw[List.map_set,Yk,show sK c∘eO (eL D.int)=eO (eL D.int)∘Ni c from funext (SH c)];show D.lst (List.set _ _ (D.lst _))=D.lst (List.set _ _ (D.lst ((a.map (Ni c)).map _)));rw[Yk]
       ·trivial
theorem JX{f d s:Nat}{h:Z->Option X}{i:Z->Option W}{g:Z->Option O}(k:∀x,rg (Y x) f=(h x).map e)(hd:∀x,rg (Y x) d=(i x).map e')(j:∀x,rg (Y x) s=(g x).map e''):EJ Y (Bd e e' e'') (S4 f d s) (iW (vC h) (iW (vC i) (vC g))):=λx=>by
 unfold S4 iW vC;rw[k,hd,j];cases h x with
 |none=>trivial
 |some a=>
   cases i x with
   |none=>trivial
   |some b=>
     cases g x with
     |none=>trivial
     |some c=>rfl
@[simp] def B7(b:Z->Option X)(c:Z->Option W)(a:Z->Option O)(fr:Z->Bool){J:Type}:Z->FlC Z J:=λx=>match b x,c x,a x with
 |some _,some _,some _=>if fr x=true then .nx x else .bad
 |_,_,_=>.bad
theorem Lx{J:Type}{k:J->D}{i f d s:Nat}{h:Z->Option X}{j:Z->Option W}{g:Z->Option O}{fr:Z->Bool}(n:∀x,rg (Y x) f=(h x).map e)(hd:∀x,rg (Y x) d=(j x).map e')(l:∀x,rg (Y x) s=(g x).map e'')(m:∀x,dR (Y x) (some i)=fr x):TJ Y k (xb i f d s) (B7 h j g fr):=λx=>by
 unfold xb B7;rw[n,hd,l,m];cases h x with
 |none=>trivial
 |some a=>
   cases j x with
   |none=>trivial
   |some b=>
     cases g x with
     |none=>trivial
     |some c=>
       show SimS Y k (if fr x=true then SO.nx (Y x) else .bad) (if fr x=true then .nx x else .bad);split
       ·exact rfl
       ·trivial
end
@[simp] def O2{X:Type}(p:X×X×X):Res (List X):=.ok [p.1,p.2.1,p.2.2]
theorem Lb{X:Type}{e:X->D}(p:X×X×X):SimR (Bc e) (.ok (Fu e e e p)) (O2 p):=rfl
end Cl
namespace Mi
open PySem L2
def Uz{X:Type}(m:T0->Res X):T0->Res X:=λT=>match m T with
 |.ok d=>.ok d
 |_=>.bad
theorem TY{Y:Cm}{E:XK}{M:List Md}{X W:Type}{K:KT X W}{t:St->Hp->(W->Hp->Prop)->Prop}{m:T0->Res X}(h:PJ Y K E0 M t m):PJ Y K E M t (Uz m):=by
 intro B U As Z H T Q R P;refine h B U As Z H T Q R ?_;unfold Uz at P;cases e:m T with
 |ok d=>rw[e]at P;exact P
 |exc c=>rw[e]at P;exact P.elim
 |bad=>rw[e]at P;exact P.elim
end Mi
namespace Cl
open PySem L2 Mi
def HK{Z X:Type}(c:Z->Res X):Z->Res X:=λs=>match c s with
 |.ok d=>.ok d
 |_=>.bad
theorem RD{Z X O:Type}{Y:Z->T0}{e:X->O}{m:T0->Res O}{c:Z->Res X}(h:EJ Y e m c):EJ Y e (Uz m) (HK c):=λs=>by
 have h:=h s;unfold Uz HK;cases q:c s with
 |ok a=>rw[q]at h;rw[show m (Y s)=_ from h];exact rfl
 |exc x=>trivial
 |bad=>trivial
end Cl
set_option genInjectivity false
set_option genSizeOf false
open PySem L2 in
theorem L2.Room.mm{j k:Nat}{A:Around}(r:Room k A)(h:j<=k:=by decide):Room j A:=r.mono h
namespace K22
open PySem L2
def top(i:Nat):Stmt:=PySem.Challenge.pw_heraldways_k22_whole_all_settled_tables.main.body.getD i (.Pass ⟨0,0,0,0⟩)
abbrev PU:Stmt:=dE (top 11) 0
abbrev Gy:Stmt:=dE (top 11) 13
abbrev L6:Stmt:=dE (top 11) 15
abbrev Pz:Stmt:=dE (top 11) 1
abbrev Pu:Stmt:=top 28
abbrev Pr:Stmt:=top 44
abbrev Pq:Stmt:=top 36
abbrev Gv:Stmt:=top 33
abbrev Gu:Stmt:=top 42
abbrev xi:Stmt:=top 32
abbrev Gp:Stmt:=top 38
abbrev xg:Stmt:=top 40
abbrev Gk:Stmt:=top 35
abbrev Gj:Stmt:=top 29
abbrev Px:Stmt:=top 18
abbrev xf:Stmt:=top 26
abbrev Gg:Stmt:=top 10
abbrev Gf:Stmt:=top 25
abbrev B8:Stmt:=top 23
abbrev PH:Stmt:=dE (top 11) 16
abbrev L5:Stmt:=top 34
abbrev Pt:Stmt:=top 37
abbrev Gs:Stmt:=top 43
abbrev Gr:Stmt:=top 30
abbrev Gi:Stmt:=top 17
abbrev Gh:Stmt:=top 15
abbrev xc:Stmt:=top 24
abbrev PQ:Stmt:=dE (top 11) 6
abbrev PP:Stmt:=dE (top 11) 7
abbrev PN:Stmt:=dE (top 11) 2
abbrev PF:Stmt:=dE (top 11) 18
abbrev PD:Stmt:=dE (top 11) 17
abbrev Ew:Stmt:=top 46
abbrev Gq:Stmt:=top 31
abbrev xh:Stmt:=top 41
abbrev Go:Stmt:=top 47
abbrev PR:Stmt:=dE (top 11) 4
abbrev PL:Stmt:=dE (top 11) 12
abbrev PB:Stmt:=dE (top 11) 8
abbrev Py:Stmt:=dE (top 11) 10
abbrev Ey:Stmt:=top 45
abbrev Ps:Stmt:=top 48
abbrev Ge:Stmt:=top 22
abbrev Gx:Stmt:=top 39
abbrev Gb:Stmt:=top 14
abbrev F7:Stmt:=top 16
abbrev F6:Stmt:=top 13
abbrev Gc:Stmt:=top 21
abbrev Gn:Stmt:=top 50
abbrev Gm:Stmt:=top 49
abbrev Pw:Stmt:=top 51
theorem Tz:FnScope ["self","size"] ["self","size"] (ao PU):=by ac_rfl
theorem Tx:FnScope ["self","pairs","a"] ["self","pairs","a"] (ao Gy):=by ac_rfl
theorem Tn:FnScope ["self","a","houses"] ["self","a","houses"] (ao L6):=by ac_rfl
theorem Tl:FnScope ["self"] ["self"] (ao Pz):=by ac_rfl
theorem Tj:FnScope ["script","k"] ["script","k"] (ao Pu):=by ac_rfl
theorem FX:FnScope ["row","house","road","step"] ["row","house"] (ao Pr):=by ac_rfl
theorem B5:FnScope ["cell","size","fond","k"] ["cell","size"] (ao Pq):=by ac_rfl
theorem z5:FnScope ["fond","dear","road","rank"] ["fond","dear","road"] (ao Gv):=by ac_rfl
theorem zZ:FnScope ["table","out","road"] ["table"] (ao Gu):=by ac_rfl
theorem j6:FnScope ["cell","house","size","rest","road","many"] ["cell","house","size"] (ao xi):=by ac_rfl
theorem nX:FnScope ["cell","size","shy","k","a","b"] ["cell","size"] (ao Gp):=by ac_rfl
theorem Pn:FnScope ["ways","size","a"] ["ways","size","a"] (ao xg):=by ac_rfl
theorem lS:FnScope ["cell","size","seed","ways","k","a","b"] ["cell","size"] (ao Gk):=by ac_rfl
theorem Pm:FnScope ["found"] ["found"] (ao Gj):=by ac_rfl
theorem NP:FnScope ["house","standings","best"] ["house","standings"] (ao Px):=by ac_rfl
theorem Pk:FnScope ["table"] ["table"] (ao xf):=by ac_rfl
theorem Pj:FnScope ["houses","count"] ["houses","count"] (ao Gg):=by ac_rfl
theorem zX:FnScope ["next_houses","house","road","next_house"] ["next_houses","house"] (ao Gf):=by ac_rfl
theorem zW:FnScope ["rows","ends","longer","row"] ["rows","ends"] (ao B8):=by ac_rfl
theorem Ts:FnScope ["self","houses"] ["self","houses"] (ao PH):=by ac_rfl
theorem w9:FnScope ["fond","dear","shy","house","told","best","road","mine"] ["fond","dear","shy","house","told"] (ao L5):=by ac_rfl
theorem wZ:FnScope ["cell","size","dear","k","road"] ["cell","size"] (ao Pt):=by ac_rfl
theorem lT:FnScope ["ways","size","rows","house","longer","row","step"] ["ways","size"] (ao Gs):=by ac_rfl
theorem F3:FnScope ["found","due","house"] ["found","due"] (ao Gr):=by ac_rfl
theorem Pl:FnScope ["guild","house","road"] ["guild","house","road"] (ao Gi):=by ac_rfl
theorem F0:FnScope ["told","count","road"] ["told","count"] (ao Gh):=by ac_rfl
theorem Ph:FnScope ["next_houses"] ["next_houses"] (ao xc):=by ac_rfl
theorem Tv:FnScope ["self","a","b","rank"] ["self","a","b","rank"] (ao PQ):=by ac_rfl
theorem Tu:FnScope ["self","a","b"] ["self","a","b"] (ao PP):=by ac_rfl
theorem Tt:FnScope ["self","a"] ["self","a"] (ao PN):=by ac_rfl
theorem Tr:FnScope ["self","road"] ["self","road"] (ao PF):=by ac_rfl
theorem Tq:FnScope ["self","a","b"] ["self","a","b"] (ao PD):=by ac_rfl
theorem qi:FnScope ["ways","said","size","table","k","after","house","told"] ["ways","said","size"] (ao Ew):=by ac_rfl
theorem F2:FnScope ["found","due","k"] ["found","due"] (ao Gq):=by ac_rfl
theorem zY:FnScope ["ways","said","table","house","told"] ["ways","said","table"] (ao xh):=by ac_rfl
theorem F1:FnScope ["table","size","road"] ["table","size"] (ao Go):=by ac_rfl
theorem Tw:FnScope ["self","a","b"] ["self","a","b"] (ao PR):=by ac_rfl
theorem NQ:FnScope ["self","road","wish_rank"] ["self","road"] (ao PL):=by ac_rfl
theorem To:FnScope ["self","a","b"] ["self","a","b"] (ao PB):=by ac_rfl
theorem Tk:FnScope ["self","road","rank"] ["self","road","rank"] (ao Py):=by ac_rfl
theorem B6:FnScope ["ways","said","size","out","row","table"] ["ways","said","size"] (ao Ey):=by ac_rfl
theorem FY:FnScope ["found","ways","said","k","got"] ["found","ways","said"] (ao Ps):=by ac_rfl
theorem uY:FnScope ["guild","rows","house"] ["guild"] (ao Ge):=by ac_rfl
theorem j7:FnScope ["size","ways","fond","dear","shy","guild","a","b","pair","key"] ["size","ways","fond","dear","shy"] (ao Gx):=by ac_rfl
theorem Pi:FnScope ["guild","road"] ["guild","road"] (ao Gb):=by ac_rfl
theorem NO:FnScope ["guild","house","told","standings"] ["guild","house","told"] (ao F7):=by ac_rfl
theorem FZ:FnScope ["guild","table","house","told"] ["guild","table"] (ao F6):=by ac_rfl
theorem uX:FnScope ["guild","tables","next_houses","table"] ["guild"] (ao Gc):=by ac_rfl
theorem jk:FnScope ["guild","ways","said","size","found","rows","house","due","k","road"] ["guild","ways","said","size"] (ao Gn):=by ac_rfl
theorem uZ:FnScope ["size","refused","e"] ["size"] (ao Gm):=by ac_rfl
theorem iS:FnScope ["script","first","size","ways","fond","dear","shy","pair","said","guild","a","b"] ["script"] (ao Pw):=by ac_rfl
structure Adr where
 C_Guild:Addr
 C_GuildError:Addr
 C_NoHouse:Addr
 C_WayThere:Addr
 C_NoRoad:Addr
 C_TooMany:Addr
 f_a9:Addr
 d_a9:FuncData
 f_b9:Addr
 d_b9:FuncData
 f_l9:Addr
 d_l9:FuncData
 f_m9:Addr
 d_m9:FuncData
 f_u9:Addr
 d_u9:FuncData
 f_x9:Addr
 d_x9:FuncData
 f_y9:Addr
 d_y9:FuncData
 f_bb9:Addr
 d_bb9:FuncData
 f_bc9:Addr
 d_bc9:FuncData
 f_bd9:Addr
 d_bd9:FuncData
 f_bi9:Addr
 d_bi9:FuncData
 f_bk9:Addr
 d_bk9:FuncData
 f_bn9:Addr
 d_bn9:FuncData
 f_bo9:Addr
 d_bo9:FuncData
 f_o9:Addr
 d_o9:FuncData
 f_bq9:Addr
 d_bq9:FuncData
 f_bs9:Addr
 d_bs9:FuncData
 f_bt9:Addr
 d_bt9:FuncData
 f_bv9:Addr
 d_bv9:FuncData
 f_h9:Addr
 d_h9:FuncData
 f_t9:Addr
 d_t9:FuncData
 f_v9:Addr
 d_v9:FuncData
 f_be9:Addr
 d_be9:FuncData
 f_bf9:Addr
 d_bf9:FuncData
 f_bp9:Addr
 d_bp9:FuncData
 f_br9:Addr
 d_br9:FuncData
 f_by9:Addr
 d_by9:FuncData
 f_d9:Addr
 d_d9:FuncData
 f_e9:Addr
 d_e9:FuncData
 f_f9:Addr
 d_f9:FuncData
 f_i9:Addr
 d_i9:FuncData
 f_j9:Addr
 d_j9:FuncData
 f_z9:Addr
 d_z9:FuncData
 f_bg9:Addr
 d_bg9:FuncData
 f_bh9:Addr
 d_bh9:FuncData
 f_bj9:Addr
 d_bj9:FuncData
 f_c9:Addr
 d_c9:FuncData
 f_g9:Addr
 d_g9:FuncData
 f_k9:Addr
 d_k9:FuncData
 f_n9:Addr
 d_n9:FuncData
 f_s9:Addr
 d_s9:FuncData
 f_w9:Addr
 d_w9:FuncData
 f_bu9:Addr
 d_bu9:FuncData
 f_ba9:Addr
 d_ba9:FuncData
 f_bx9:Addr
 d_bx9:FuncData
 f_p9:Addr
 d_p9:FuncData
 f_q9:Addr
 d_q9:FuncData
 f_bw9:Addr
 d_bw9:FuncData
 f_bl9:Addr
 d_bl9:FuncData
 f_bm9:Addr
 d_bm9:FuncData
 f_r9:Addr
 d_r9:FuncData
structure Txt (K:L0) (mg:Str->Option Value) (a:Adr) (base:Heap):Prop where
 cl_Guild:Cls K a.C_Guild
 mgC_Guild:mg "Guild" = some (.ref a.C_Guild)
 mk_Guild:Mk K a.C_Guild a.f_a9
 n_house_count:NoAttr K a.C_Guild "house_count"
 n_ways:NoAttr K a.C_Guild "ways"
 n_likings:NoAttr K a.C_Guild "likings"
 n_shuns:NoAttr K a.C_Guild "shuns"
 n_wish_ranks:NoAttr K a.C_Guild "wish_ranks"
 mgC_GuildError:mg "GuildError" = some (.ref a.C_GuildError)
 ek_GuildError:lC K a.C_GuildError=true
 xa_GuildError:PySem.W.excAt K a.C_GuildError=true
 mgC_NoHouse:mg "NoHouse" = some (.ref a.C_NoHouse)
 ek_NoHouse:lC K a.C_NoHouse=true
 xa_NoHouse:PySem.W.excAt K a.C_NoHouse=true
 mgC_WayThere:mg "WayThere" = some (.ref a.C_WayThere)
 ek_WayThere:lC K a.C_WayThere=true
 xa_WayThere:PySem.W.excAt K a.C_WayThere=true
 mgC_NoRoad:mg "NoRoad" = some (.ref a.C_NoRoad)
 ek_NoRoad:lC K a.C_NoRoad=true
 xa_NoRoad:PySem.W.excAt K a.C_NoRoad=true
 mgC_TooMany:mg "TooMany" = some (.ref a.C_TooMany)
 ek_TooMany:lC K a.C_TooMany=true
 xa_TooMany:PySem.W.excAt K a.C_TooMany=true
 sb_TooMany_TooMany:(qF K a.C_TooMany).contains (.ref a.C_TooMany)=true
 kt_TooMany_GuildError:PySem.W.kitOne K (.ref a.C_TooMany) (.ref a.C_GuildError)=some true
 F_a9:Fun K "__init__" "Guild.__init__" PU a.f_a9 a.d_a9
 b_a9:Binds K a.d_a9 ["self","size"] []
 F_b9:Fun K "houses_paired" "Guild.houses_paired" Gy a.f_b9 a.d_b9
 b_b9:Binds K a.d_b9 ["self","pairs","a"] []
 me_b9:Meth K a.C_Guild "houses_paired" a.f_b9
 F_l9:Fun K "shuns_one_of" "Guild.shuns_one_of" L6 a.f_l9 a.d_l9
 b_l9:Binds K a.d_l9 ["self","a","houses"] []
 me_l9:Meth K a.C_Guild "shuns_one_of" a.f_l9
 F_m9:Fun K "size" "Guild.size" Pz a.f_m9 a.d_m9
 b_m9:Binds K a.d_m9 ["self"] []
 me_m9:Meth K a.C_Guild "size" a.f_m9
 F_u9:Fun K "_law_cell_at" "_law_cell_at" Pu a.f_u9 a.d_u9
 b_u9:Binds K a.d_u9 ["script","k"] []
 m_u9:mg "_law_cell_at" = some (.ref a.f_u9)
 F_x9:Fun K "_law_followed" "_law_followed" Pr a.f_x9 a.d_x9
 b_x9:Binds K a.d_x9 ["row","house"] []
 m_x9:mg "_law_followed" = some (.ref a.f_x9)
 F_y9:Fun K "_law_fond_by" "_law_fond_by" Pq a.f_y9 a.d_y9
 b_y9:Binds K a.d_y9 ["cell","size"] []
 m_y9:mg "_law_fond_by" = some (.ref a.f_y9)
 F_bb9:Fun K "_law_key" "_law_key" Gv a.f_bb9 a.d_bb9
 b_bb9:Binds K a.d_bb9 ["fond","dear","road"] []
 m_bb9:mg "_law_key" = some (.ref a.f_bb9)
 F_bc9:Fun K "_law_nexts" "_law_nexts" Gu a.f_bc9 a.d_bc9
 b_bc9:Binds K a.d_bc9 ["table"] []
 m_bc9:mg "_law_nexts" = some (.ref a.f_bc9)
 F_bd9:Fun K "_law_road_by" "_law_road_by" xi a.f_bd9 a.d_bd9
 b_bd9:Binds K a.d_bd9 ["cell","house","size"] []
 m_bd9:mg "_law_road_by" = some (.ref a.f_bd9)
 F_bi9:Fun K "_law_shy_by" "_law_shy_by" Gp a.f_bi9 a.d_bi9
 b_bi9:Binds K a.d_bi9 ["cell","size"] []
 m_bi9:mg "_law_shy_by" = some (.ref a.f_bi9)
 F_bk9:Fun K "_law_ties" "_law_ties" xg a.f_bk9 a.d_bk9
 b_bk9:Binds K a.d_bk9 ["ways","size","a"] []
 m_bk9:mg "_law_ties" = some (.ref a.f_bk9)
 F_bn9:Fun K "_law_ways_by" "_law_ways_by" Gk a.f_bn9 a.d_bn9
 b_bn9:Binds K a.d_bn9 ["cell","size"] []
 m_bn9:mg "_law_ways_by" = some (.ref a.f_bn9)
 F_bo9:Fun K "_law_whole" "_law_whole" Gj a.f_bo9 a.d_bo9
 b_bo9:Binds K a.d_bo9 ["found"] []
 m_bo9:mg "_law_whole" = some (.ref a.f_bo9)
 F_o9:Fun K "best_road" "best_road" Px a.f_o9 a.d_o9
 b_o9:Binds K a.d_o9 ["house","standings"] []
 m_o9:mg "best_road" = some (.ref a.f_o9)
 F_bq9:Fun K "next_houses_of" "next_houses_of" xf a.f_bq9 a.d_bq9
 b_bq9:Binds K a.d_bq9 ["table"] []
 m_bq9:mg "next_houses_of" = some (.ref a.f_bq9)
 F_bs9:Fun K "require_within" "require_within" Gg a.f_bs9 a.d_bs9
 b_bs9:Binds K a.d_bs9 ["houses","count"] []
 m_bs9:mg "require_within" = some (.ref a.f_bs9)
 F_bt9:Fun K "road_by" "road_by" Gf a.f_bt9 a.d_bt9
 b_bt9:Binds K a.d_bt9 ["next_houses","house"] []
 m_bt9:mg "road_by" = some (.ref a.f_bt9)
 F_bv9:Fun K "rows_with_ends" "rows_with_ends" B8 a.f_bv9 a.d_bv9
 b_bv9:Binds K a.d_bv9 ["rows","ends"] []
 m_bv9:mg "rows_with_ends" = some (.ref a.f_bv9)
 F_h9:Fun K "require_houses" "Guild.require_houses" PH a.f_h9 a.d_h9
 b_h9:Binds K a.d_h9 ["self","houses"] []
 me_h9:Meth K a.C_Guild "require_houses" a.f_h9
 F_t9:Fun K "_law_best" "_law_best" L5 a.f_t9 a.d_t9
 b_t9:Binds K a.d_t9 ["fond","dear","shy","house","told"] []
 m_t9:mg "_law_best" = some (.ref a.f_t9)
 F_v9:Fun K "_law_dear_by" "_law_dear_by" Pt a.f_v9 a.d_v9
 b_v9:Binds K a.d_v9 ["cell","size"] []
 m_v9:mg "_law_dear_by" = some (.ref a.f_v9)
 F_be9:Fun K "_law_rows" "_law_rows" Gs a.f_be9 a.d_be9
 b_be9:Binds K a.d_be9 ["ways","size"] []
 m_be9:mg "_law_rows" = some (.ref a.f_be9)
 F_bf9:Fun K "_law_same_road" "_law_same_road" Gr a.f_bf9 a.d_bf9
 b_bf9:Binds K a.d_bf9 ["found","due"] []
 m_bf9:mg "_law_same_road" = some (.ref a.f_bf9)
 F_bp9:Fun K "may_take" "may_take" Gi a.f_bp9 a.d_bp9
 b_bp9:Binds K a.d_bp9 ["guild","house","road"] []
 m_bp9:mg "may_take" = some (.ref a.f_bp9)
 F_br9:Fun K "require_told_houses" "require_told_houses" Gh a.f_br9 a.d_br9
 b_br9:Binds K a.d_br9 ["told","count"] []
 m_br9:mg "require_told_houses" = some (.ref a.f_br9)
 F_by9:Fun K "table_by" "table_by" xc a.f_by9 a.d_by9
 b_by9:Binds K a.d_by9 ["next_houses"] []
 m_by9:mg "table_by" = some (.ref a.f_by9)
 F_d9:Fun K "like" "Guild.like" PQ a.f_d9 a.d_d9
 b_d9:Binds K a.d_d9 ["self","a","b","rank"] []
 me_d9:Meth K a.C_Guild "like" a.f_d9
 F_e9:Fun K "liking" "Guild.liking" PP a.f_e9 a.d_e9
 b_e9:Binds K a.d_e9 ["self","a","b"] []
 me_e9:Meth K a.C_Guild "liking" a.f_e9
 F_f9:Fun K "neighbours" "Guild.neighbours" PN a.f_f9 a.d_f9
 b_f9:Binds K a.d_f9 ["self","a"] []
 me_f9:Meth K a.C_Guild "neighbours" a.f_f9
 F_i9:Fun K "require_long_road" "Guild.require_long_road" PF a.f_i9 a.d_i9
 b_i9:Binds K a.d_i9 ["self","road"] []
 me_i9:Meth K a.C_Guild "require_long_road" a.f_i9
 F_j9:Fun K "require_two_houses" "Guild.require_two_houses" PD a.f_j9 a.d_j9
 b_j9:Binds K a.d_j9 ["self","a","b"] []
 me_j9:Meth K a.C_Guild "require_two_houses" a.f_j9
 F_z9:Fun K "_law_got" "_law_got" Ew a.f_z9 a.d_z9
 b_z9:Binds K a.d_z9 ["ways","said","size"] []
 m_z9:mg "_law_got" = some (.ref a.f_z9)
 F_bg9:Fun K "_law_same_table" "_law_same_table" Gq a.f_bg9 a.d_bg9
 b_bg9:Binds K a.d_bg9 ["found","due"] []
 m_bg9:mg "_law_same_table" = some (.ref a.f_bg9)
 F_bh9:Fun K "_law_settled" "_law_settled" xh a.f_bh9 a.d_bh9
 b_bh9:Binds K a.d_bh9 ["ways","said","table"] []
 m_bh9:mg "_law_settled" = some (.ref a.f_bh9)
 F_bj9:Fun K "_law_table_kind" "_law_table_kind" Go a.f_bj9 a.d_bj9
 b_bj9:Binds K a.d_bj9 ["table","size"] []
 m_bj9:mg "_law_table_kind" = some (.ref a.f_bj9)
 F_c9:Fun K "lay_way" "Guild.lay_way" PR a.f_c9 a.d_c9
 b_c9:Binds K a.d_c9 ["self","a","b"] []
 me_c9:Meth K a.C_Guild "lay_way" a.f_c9
 F_g9:Fun K "rank_of" "Guild.rank_of" PL a.f_g9 a.d_g9
 b_g9:Binds K a.d_g9 ["self","road"] []
 me_g9:Meth K a.C_Guild "rank_of" a.f_g9
 F_k9:Fun K "shun" "Guild.shun" PB a.f_k9 a.d_k9
 b_k9:Binds K a.d_k9 ["self","a","b"] []
 me_k9:Meth K a.C_Guild "shun" a.f_k9
 F_n9:Fun K "wish" "Guild.wish" Py a.f_n9 a.d_n9
 b_n9:Binds K a.d_n9 ["self","road","rank"] []
 me_n9:Meth K a.C_Guild "wish" a.f_n9
 F_s9:Fun K "_law_all" "_law_all" Ey a.f_s9 a.d_s9
 b_s9:Binds K a.d_s9 ["ways","said","size"] []
 m_s9:mg "_law_all" = some (.ref a.f_s9)
 F_w9:Fun K "_law_five" "_law_five" Ps a.f_w9 a.d_w9
 b_w9:Binds K a.d_w9 ["found","ways","said"] []
 m_w9:mg "_law_five" = some (.ref a.f_w9)
 F_bu9:Fun K "rows_of_next_houses" "rows_of_next_houses" Ge a.f_bu9 a.d_bu9
 b_bu9:Binds K a.d_bu9 ["guild"] []
 m_bu9:mg "rows_of_next_houses" = some (.ref a.f_bu9)
 F_ba9:Fun K "_law_guild_by" "_law_guild_by" Gx a.f_ba9 a.d_ba9
 b_ba9:Binds K a.d_ba9 ["size","ways","fond","dear","shy"] []
 m_ba9:mg "_law_guild_by" = some (.ref a.f_ba9)
 F_bx9:Fun K "standing" "standing" Gb a.f_bx9 a.d_bx9
 b_bx9:Binds K a.d_bx9 ["guild","road"] []
 m_bx9:mg "standing" = some (.ref a.f_bx9)
 F_p9:Fun K "choice_among" "choice_among" F7 a.f_p9 a.d_p9
 b_p9:Binds K a.d_p9 ["guild","house","told"] []
 m_p9:mg "choice_among" = some (.ref a.f_p9)
 F_q9:Fun K "first_unsettled" "first_unsettled" F6 a.f_q9 a.d_q9
 b_q9:Binds K a.d_q9 ["guild","table"] []
 m_q9:mg "first_unsettled" = some (.ref a.f_q9)
 F_bw9:Fun K "settled_tables" "settled_tables" Gc a.f_bw9 a.d_bw9
 b_bw9:Binds K a.d_bw9 ["guild"] []
 m_bw9:mg "settled_tables" = some (.ref a.f_bw9)
 F_bl9:Fun K "_law_told" "_law_told" Gn a.f_bl9 a.d_bl9
 b_bl9:Binds K a.d_bl9 ["guild","ways","said","size"] []
 m_bl9:mg "_law_told" = some (.ref a.f_bl9)
 F_bm9:Fun K "_law_too_many" "_law_too_many" Gm a.f_bm9 a.d_bm9
 b_bm9:Binds K a.d_bm9 ["size"] []
 m_bm9:mg "_law_too_many" = some (.ref a.f_bm9)
 F_r9:Fun K "law" "law" Pw a.f_r9 a.d_r9
 b_r9:Binds K a.d_r9 ["script"] []
 m_r9:mg "law" = some (.ref a.f_r9)
 g_SEAT:∃t,mg "SEAT" = some (.int 0 t)
 g_MOST_HOUSES:∃t,mg "MOST_HOUSES" = some (.int 60 t)
 g_MOST_FOR_TABLES:∃t,mg "MOST_FOR_TABLES" = some (.int 5 t)
 z_len:mg "len" = none
 z_range:mg "range" = none
 z_min:mg "min" = none
 z_max:mg "max" = none
 z_set:mg "set" = none
 z_list:mg "list" = none
 z_tuple:mg "tuple" = none
 z_isinstance:mg "isinstance" = none
 z_any:mg "any" = none
 z_bool:mg "bool" = none
 z_int:mg "int" = none
 z_ValueError:mg "ValueError" = none
def ay(a:Adr)(K:L0):Mi.Cm:=⟨λc=>match c with|0=>a.C_Guild|10=>a.C_GuildError|11=>a.C_NoHouse|13=>a.C_WayThere|14=>a.C_NoRoad|16=>a.C_TooMany|_=>0,K,[]⟩
end K22
namespace K22
open PySem L2 Mi
noncomputable section
def gc:List (Str×Sh):=[("ways",.ct .fz),("likings",.ct .fz),("shuns",.ct .fz),("wish_ranks",.ct .fz)]
def OD:List Md:=[.O (.ob gc),.F]
def U6:List Md:=[]
def I8:T0->SO:=ax (fG (aK (vv (cP (bn Jd (vr 1) (aP (.int 1)))) (cP (bn E2 (vr 1) (aP (.int 60))))))
 (fK 11)
 bo)
 (ax (nj 0 "house_count" 0 (aK (vr 1)))
 (ax (nj 0 "ways" 0 (aK (aP (.dT [] []))))
 (ax (nj 0 "likings" 0 (aK (aP (.dT [] []))))
 (ax (nj 0 "shuns" 0 (aK (aP (.dT [] []))))
 (nj 0 "wish_ranks" 0 (aK (aP (.dT [] []))))))))
def xP:List D->Out D:=run 2 I8
theorem xN:I8=(ax (fG (aK (vv (cP (bn Jd (vr 1) (aP (.int 1)))) (cP (bn E2 (vr 1) (aP (.int 60))))))
 (fK 11)
 bo)
 (ax (nj 0 "house_count" 0 (aK (vr 1)))
 (ax (nj 0 "ways" 0 (aK (aP (.dT [] []))))
 (ax (nj 0 "likings" 0 (aK (aP (.dT [] []))))
 (ax (nj 0 "shuns" 0 (aK (aP (.dT [] []))))
 (nj 0 "wish_ranks" 0 (aK (aP (.dT [] []))))))))):=rfl
def OC:List Md:=[.R,.R,.F]
def U5:List Md:=[]
def I0:T0->SO:=bG (aK (iO (fI (un (ie 0 "house_count") (vr 0))) [1,2] (cP (bn (vM false) (oT (aA (vr 2) (aA (vr 0) bq))) (vr 1))) (vr 0)))
def Rl:List D->Out D:=iT 3 I0
def Oq:List Md:=[.R,.F,.R]
def UR:List Md:=[]
def IQ:T0->SO:=bG (aK (un wI (iO (fb (vr 2)) [1,0] (λ_=>.ok true) (bn (vM false) (oT (aA (vr 1) (aA (nP (vr 0)) bq))) (un (ie 0 "shuns") (vr 2))))))
def Rg:List D->Out D:=run 3 IQ
def Op:List Md:=[.R]
def UQ:List Md:=[]
def IP:T0->SO:=bG (aK (nP (un (ie 0 "house_count") (vr 0))))
def EH:List D->Out D:=run 1 IP
def Og:List Md:=[.R,.F]
def UI:List Md:=[]
def IG:T0->SO:=ax (fG (aK (cP (bn Jd (vr 1) (un fE (vr 0)))))
 (bG (aK (nP (bn i5 (vr 0) (vr 1)))))
 bo)
 (bG (aK (aP (.int 0))))
def m_u9:List D->Out D:=run 2 IG
def Od:List Md:=[.F,.F]
def UF:List Md:=[.O (.ct .fz),.F]
abbrev MM:T0->SO:=(ax (bF 3 (aK (bn i5 (vr 0) (bn i5 (vr 2) (un tm (aP (.int 1)))))))
 (ax (fG (aK (vv (cP (bn (iF false) (vr 3) (aP .non))) (cP (bn EW (vr 3) (vr 2)))))
 (bG (aK (aP .non)))
 bo)
 (cC (jW (gb 2) (eC 2) iP (vr 3)))))
def ID:T0->SO:=ax (bF 2 (aK (km (aA (vr 1) bq))))
 (ax (zO (aK (cP (bn (sV true) (bn i5 (vr 2) (un tm (aP (.int 1)))) (aP (.int 0)))))
 MM 100000)
 (bG (tY 2)))
def m_x9:List D->Out D:=run 4 ID
def Oc:List Md:=[.F,.F]
def UE:List Md:=[.O (.ct .fz),.F]
abbrev ML:T0->SO:=(ax (bF 0 (aK (bn d5 (bn jg (bn tq (vr 0) (aP (.int 48271))) (aP (.int 11))) (aP (.int 2147483647)))))
 (jS (gb 2) (eC 2) (oT (aA (bn d5 (vr 0) (vr 1)) (aA (bn d5 (bn gE (vr 0) (aP (.int 7))) (vr 1)) bq))) (aK (bn sX (bn d5 (bn gE (vr 0) (aP (.int 49))) (aP (.int 7))) (aP (.int 3))))))
def IC:T0->SO:=ax (bF 2 (aK (aP (.dT [] []))))
 (ax (cB (aK (fI (bn d5 (vr 0) (aP (.int 5))))) (kX 3)
 ML)
 (bG (tY 2)))
def m_y9:List D->Out D:=iT 4 IC
def Iv:List Md:=[.R,.R,.F]
def Q7:List Md:=[.F]
def AQ:T0->SO:=ax (bF 3 (aK (nP (C2 (vr 0) (oT (aA (bn i5 (vr 2) (aP (.int 0))) (aA (bn i5 (vr 2) (aP (.int 1))) bq))) (aP (.int 0))))))
 (ax (fG (aK (cP (bn (vM false) (un zT (vr 2)) (vr 1))))
 (bF 3 (aK (nP (bn o0 (vr 1) (un zT (vr 2))))))
 bo)
 (bG (aK (oT (aA (bn sX (aP (.int 0)) (vr 3)) (aA (un fE (vr 2)) (aA (vr 2) bq)))))))
def m_bb9:List D->Out D:=run 4 AQ
def Iu:List Md:=[.R]
def Q6:List Md:=[.O (.ct .fz),.R]
abbrev Jy:T0->SO:=(cC (jW (gb 1) (eC 1) iP (JH (cP (bn (iF false) (vr 2) (aP .non))) (un tm (aP (.int 1))) (nP (bn i5 (vr 2) (aP (.int 1)))))))
def AO:T0->SO:=ax (bF 1 (aK (km bq)))
 (ax (cB (aK (fb (bn yd (vr 0) (aP (.int 1))))) (kX 2)
 Jy)
 (bG (tY 1)))
def m_bc9:List D->Out D:=iT 3 AO
def Ir:List Md:=[.F,.F,.F]
def Q5:List Md:=[.O (.ct .fz),.O (.ct .fz),.F]
abbrev Jx:T0->SO:=(ax (cC (zy 4 (jW (gb 3) (eC 3) Hc (bn d5 (vr 0) (un fE (vr 3))))))
 (ax (bF 0 (aK (bn gE (vr 0) (aP (.int 5)))))
 (bF 5 (aK (bn sX (vr 5) (aP (.int 1)))))))
def AN:T0->SO:=ax (bF 3 (aK (iO (uQ (aP (.int 1)) (vr 2)) [1] (cP (bn (sV true) (vr 0) (vr 1))) (vr 0))))
 (ax (bF 4 (aK (km (aA (vr 1) bq))))
 (ax (bF 5 (aK (bn d5 (vr 0) (aP (.int 4)))))
 (ax (fG (aK (cP (bn (sV false) (bn d5 (bn gE (vr 0) (aP (.int 4))) (aP (.int 8))) (aP (.int 3)))))
 (bF 5 (aK (vr 2)))
 bo)
 (ax (bF 0 (aK (bn gE (vr 0) (aP (.int 4)))))
 (ax (zO (aK (wJ (cP (bn E2 (vr 5) (aP (.int 0)))) (cP (bn E2 (un fE (vr 3)) (aP (.int 0))))))
 Jx 100000)
 (bG (aK (bn sE (vr 4) (km (aA (aP (.int 0)) bq))))))))))
def m_bd9:List D->Out D:=iT 6 AN
def Ik:List Md:=[.F,.F]
def Q0:List Md:=[.O (.ct .fz),.F,.F,.F]
abbrev Js:T0->SO:=(ax (bF 0 (aK (bn d5 (bn jg (bn tq (vr 0) (aP (.int 48271))) (aP (.int 23))) (aP (.int 2147483647)))))
 (ax (bF 4 (aK (bn d5 (vr 0) (vr 1))))
 (ax (bF 5 (aK (bn d5 (bn jg (bn jg (vr 4) (aP (.int 1))) (bn d5 (bn gE (vr 0) (aP (.int 7))) (bn sX (vr 1) (aP (.int 1))))) (vr 1))))
 (fG (aK (cP (bn xG (oT (aA (vr 4) (aA (vr 5) bq))) (vr 2))))
 (cC (jW (gb 2) (eC 2) iP (oT (aA (vr 4) (aA (vr 5) bq)))))
 bo))))
def AG:T0->SO:=ax (bF 2 (aK (km bq)))
 (ax (fG (aK (cP (bn Jd (vr 1) (aP (.int 2)))))
 (bG (tY 2))
 bo)
 (ax (cB (aK (fI (bn d5 (vr 0) (aP (.int 3))))) (kX 3)
 Js)
 (bG (tY 2))))
def m_bi9:List D->Out D:=iT 6 AG
def Ii:List Md:=[.R,.F,.F]
def QY:List Md:=[]
def AE:T0->SO:=bG (aK (iO (fI (vr 1)) [0,2] (cP (bn EW (oT (aA (bn My (vr 2) (vr 0)) (aA (bn MA (vr 2) (vr 0)) bq))) (vr 1))) (vr 0)))
def m_bk9:List D->Out D:=iT 3 AE
def Ie:List Md:=[.F,.F]
def QV:List Md:=[.F,.O (.ct .fz),.F,.F,.F]
abbrev AZ:T0->SO:=(ax (fG (aK (cP (bn (sV false) (bn d5 (bn FU (vr 2) (bn d5 (vr 4) (aP (.int 29)))) (aP (.int 2))) (aP (.int 1)))))
 (cC (jW (gb 3) (eC 3) iP (oT (aA (vr 5) (aA (vr 6) bq)))))
 bo)
 (bF 4 (aK (bn jg (vr 4) (aP (.int 1))))))
abbrev Jn:T0->SO:=(cB (aK (uQ (bn jg (vr 5) (aP (.int 1))) (vr 1))) (kX 6)
 AZ)
def AB:T0->SO:=ax (bF 2 (aK (bn d5 (bn tq (bn d5 (bn tq (bn jg (vr 0) (aP (.int 1))) (aP (.int 48271))) (aP (.int 2147483647))) (aP (.int 16807))) (aP (.int 2147483647)))))
 (ax (bF 3 (aK (km bq)))
 (ax (bF 4 (aK (aP (.int 0))))
 (ax (cB (aK (fI (vr 1))) (kX 5)
 Jn)
 (bG (tY 3)))))
def m_bn9:List D->Out D:=iT 7 AB
def Ic:List Md:=[.F]
def QU:List Md:=[]
def AA:T0->SO:=bG (aK (Nl (bn EU (vr 0) (aP (.ty "int"))) (un HI (bn EU (vr 0) (aP (.ty "bool"))))))
def m_bo9:List D->Out D:=run 1 AA
def On:List Md:=[.F,.F]
def UO:List Md:=[.F]
def IM:T0->SO:=ax (fG (aK (cP (bn (sV false) (vr 0) (aP (.int 0)))))
 (bG (aK (km (aA (aP (.int 0)) bq))))
 bo)
 (ax (bF 2 (aK (bn xL (vr 1) (aP .non))))
 (ax (fG (aK (cP (bn (iF false) (vr 2) (aP .non))))
 (bG (aK (aP .non)))
 bo)
 (bG (aK (bn SZ (vr 2) (aP (.int 2)))))))
def m_o9:List D->Out D:=run 3 IM
def Ia:List Md:=[.R]
def QS:List Md:=[]
def Ay:T0->SO:=bG (aK (iO (fb (vr 0)) [] (λ_=>.ok true) (JH (vv (cP (bn (iF false) (vr 0) (aP .non))) (cP (bn Jd (un fE (vr 0)) (aP (.int 2))))) (aP .non) (nP (bn i5 (vr 0) (aP (.int 1)))))))
def m_bq9:List D->Out D:=iT 1 Ay
def H8:List Md:=[.R,.F]
def QQ:List Md:=[]
def Aw:T0->SO:=fG (aK (vv (cP (bn Jd (bn (qU fk) (vr 0) (aP (.int 0))) (aP (.int 0)))) (cP (bn WH (bn (qU i3) (vr 0) (aP (.int 0))) (vr 1)))))
 (fK 11)
 bo
def m_bs9:List D->Out D:=run 2 Aw
def HZ:List Md:=[.F,.F]
def QP:List Md:=[.O (.ct .fz),.F]
abbrev Jl:T0->SO:=(ax (bF 3 (aK (bn i5 (vr 0) (bn i5 (vr 2) (un tm (aP (.int 1)))))))
 (ax (fG (aK (vv (cP (bn (iF false) (vr 3) (aP .non))) (cP (bn EW (vr 3) (vr 2)))))
 (bG (aK (aP .non)))
 bo)
 (cC (jW (gb 2) (eC 2) iP (vr 3)))))
def Av:T0->SO:=ax (bF 2 (aK (km (aA (vr 1) bq))))
 (ax (zO (aK (cP (bn (sV true) (bn i5 (vr 2) (un tm (aP (.int 1)))) (aP (.int 0)))))
 Jl 100000)
 (bG (Km (tY 2))))
def m_bt9:List D->Out D:=iT 4 Av
def HX:List Md:=[.F,.F]
def QN:List Md:=[.O (.ct .fz),.F]
abbrev Jj:T0->SO:=(cC (jW (gb 2) (eC 2) MY (iO (fb (vr 1)) [3] (λ_=>.ok true) (bn sE (vr 1) (km (aA (vr 0) bq))))))
def At:T0->SO:=ax (bF 2 (aK (km bq)))
 (ax (cB (aK (fb (vr 0))) (kX 3)
 Jj)
 (bG (tY 2)))
def m_bv9:List D->Out D:=iT 4 At
def Ov:List Md:=[.R,.R]
def UV:List Md:=[]
def IU:T0->SO:=cC (aK (pc m_bs9 (aA (vr 1) (aA (nP (un (ie 0 "house_count") (vr 0))) bq))))
def AV:List D->Out D:=run 2 IU
def Oh:List Md:=[.R,.R,.R,.F,.R]
def UJ:List Md:=[.F,.R,.F]
abbrev MP:T0->SO:=(ax (fG (aK (vv (cP (bn (iF false) (vr 6) (aP .non))) (cP (bn EW (vr 3) (vr 6)))))
 M8
 bo)
 (ax (fG (aK (cP (bn E2 (un fE (iO (fb (vr 6)) [2,3] (cP (bn EW (oT (aA (vr 2) (aA (nP (vr 0)) bq))) (vr 1))) (nP (vr 0)))) (aP (.int 0)))))
 M8
 bo)
 (ax (bF 7 (aK (bn sE (km (aA (vr 3) bq)) (tD (vr 6)))))
 (fG (aK (vv (cP (bn (iF false) (vr 5) (aP .non))) (cP (bn SY (pc m_bb9 (aA (vr 0) (aA (vr 1) (aA (vr 7) bq)))) (pc m_bb9 (aA (vr 0) (aA (vr 1) (aA (vr 5) bq))))))))
 (bF 5 (aK (vr 7)))
 bo))))
def IH:T0->SO:=ax (fG (aK (cP (bn (sV false) (vr 3) (aP (.int 0)))))
 (bG (aK (km (aA (aP (.int 0)) bq))))
 bo)
 (ax (bF 5 (aK (aP .non)))
 (ax (cB (aK (fb (vr 4))) (kX 6)
 MP)
 (bG (aK (vr 5)))))
def m_t9:List D->Out D:=run 8 IH
def Of:List Md:=[.F,.F]
def UH:List Md:=[.O (.ct .fz),.F,.F]
abbrev MO:T0->SO:=(ax (bF 0 (aK (bn d5 (bn jg (bn tq (vr 0) (aP (.int 48271))) (aP (.int 17))) (aP (.int 2147483647)))))
 (ax (bF 4 (aK (pc m_bd9 (aA (bn gE (vr 0) (aP (.int 9))) (aA (bn jg (aP (.int 1)) (bn d5 (vr 0) (bn sX (vr 1) (aP (.int 1))))) (aA (vr 1) bq))))))
 (jS (gb 2) (eC 2) (un zT (vr 4)) (aK (bn sX (bn d5 (bn gE (vr 0) (aP (.int 5))) (aP (.int 9))) (aP (.int 4)))))))
def IF:T0->SO:=ax (bF 2 (aK (aP (.dT [] []))))
 (ax (fG (aK (cP (bn Jd (vr 1) (aP (.int 2)))))
 (bG (tY 2))
 bo)
 (ax (cB (aK (fI (bn d5 (vr 0) (aP (.int 4))))) (kX 3)
 MO)
 (bG (tY 2))))
def m_v9:List D->Out D:=iT 5 IF
def Iq:List Md:=[.R,.F]
def Q4:List Md:=[.F,.F,.O (.ct .fz),.F,.F]
abbrev vE:T0->SO:=(cC (jW (gb 4) (eC 4) iP (bn sE (vr 5) (km (aA (vr 6) bq)))))
abbrev A0:T0->SO:=(cB (aK (fb (bn sE (km (aA (aP .non) bq)) (pc m_bk9 (aA (vr 0) (aA (vr 1) (aA (vr 3) bq))))))) (kX 6)
 vE)
abbrev Jw:T0->SO:=(ax (bF 4 (aK (km bq)))
 (ax (cB (aK (fb (vr 2))) (kX 5)
 A0)
 (bF 2 (tY 4))))
def AM:T0->SO:=ax (bF 2 (aK (km (aA (km (aA (aP .non) bq)) bq))))
 (ax (cB (aK (uQ (aP (.int 1)) (vr 1))) (kX 3)
 Jw)
 (bG (aK (vr 2))))
def m_be9:List D->Out D:=run 7 AM
def Io:List Md:=[.R,.R]
def Q3:List Md:=[.R]
abbrev Jv:T0->SO:=(fG (aK (kj (cP (pc m_bo9 (aA (nP (vr 2)) bq)))))
 (bG (aK (aP (.bl false))))
 bo)
def AK:T0->SO:=ax (fG (aK (cP (bn (iF false) (vr 1) (aP .non))))
 (bG (aK (bn (iF false) (vr 0) (aP .non))))
 bo)
 (ax (fG (aK (vv (kj (cP (bn EU (vr 0) (aP (.ty "list"))))) (cP (bn (sV true) (un fE (vr 0)) (un fE (vr 1))))))
 (bG (aK (aP (.bl false))))
 bo)
 (ax (cB (aK (fb (vr 0))) (kX 2)
 Jv)
 (bG (aK (bn (Lu false) (vr 0) (vr 1))))))
def m_bf9:List D->Out D:=run 3 AK
def Ib:List Md:=[.R,.F,.R]
def QT:List Md:=[]
def Az:T0->SO:=ax (fG (aK (vv (cP (bn (iF false) (vr 2) (aP .non))) (vv (cP (bn (sV false) (vr 1) (aP (.int 0)))) (cP (bn EW (vr 1) (vr 2))))))
 (bG (aK (aP (.bl false))))
 bo)
 (bG (aK (un HI (pm 0 "shuns_one_of" Rg (vr 0) (aA (vr 1) (aA (vr 2) bq))))))
def m_bp9:List D->Out D:=run 3 Az
def H9:List Md:=[.R,.F]
def QR:List Md:=[.R]
abbrev Jm:T0->SO:=(fG (aK (cP (bn (iF true) (vr 2) (aP .non))))
 (cC (aK (pc m_bs9 (aA (vr 2) (aA (vr 1) bq)))))
 bo)
def Ax:T0->SO:=cB (aK (fb (vr 0))) (kX 2)
 Jm
def m_br9:List D->Out D:=run 3 Ax
def HU:List Md:=[.F]
def QK:List Md:=[]
def Ao:T0->SO:=bG (aK (iO (fI (un fE (vr 0))) [0] (λ_=>.ok true) (pc m_bt9 (aA (vr 1) (aA (vr 0) bq)))))
def m_by9:List D->Out D:=iT 1 Ao
def OA:List Md:=[.O (.ob gc),.F,.F,.F]
def UZ:List Md:=[]
def IY:T0->SO:=ax (cC (aK (pm 0 "require_houses" AV (vr 0) (aA (km (aA (vr 1) (aA (vr 2) bq))) bq))))
 (jS (A9 0 "likings" 0) (wY "likings" 0) (oT (aA (vr 1) (aA (vr 2) bq))) (aK (vr 3)))
def MH:List D->Out D:=run 4 IY
def Oz:List Md:=[.R,.F,.F]
def UY:List Md:=[]
def IX:T0->SO:=ax (cC (aK (pm 0 "require_houses" AV (vr 0) (aA (km (aA (vr 1) (aA (vr 2) bq))) bq))))
 (bG (aK (nP (C2 (un (ie 0 "likings") (vr 0)) (oT (aA (vr 1) (aA (vr 2) bq))) (aP (.int 0))))))
def Rj:List D->Out D:=run 3 IX
def Oy:List Md:=[.R,.F]
def UX:List Md:=[]
def IW:T0->SO:=ax (cC (aK (pm 0 "require_houses" AV (vr 0) (aA (km (aA (vr 1) bq)) bq))))
 (bG (aK (pm 0 "houses_paired" Rl (vr 0) (aA (un (ie 0 "ways") (vr 0)) (aA (vr 1) bq)))))
def MG:List D->Out D:=iT 2 IW
def Ou:List Md:=[.R,.R]
def UU:List Md:=[]
def IT:T0->SO:=ax (cC (aK (pm 0 "require_houses" AV (vr 0) (aA (vr 1) bq))))
 (ax (fG (aK (cP (bn Jd (un fE (vr 1)) (aP (.int 2)))))
 (fK 14)
 bo)
 (ax (fG (aK (cP (bn (sV true) (bn i5 (vr 1) (un tm (aP (.int 1)))) (aP (.int 0)))))
 (fK 14)
 bo)
 (fG (aK (cP (bn (sV true) (un qN (vr 1)) (un fE (vr 1)))))
 (fK 14)
 bo)))
def MF:List D->Out D:=run 2 IT
def Ot:List Md:=[.R,.F,.F]
def UT:List Md:=[]
def IS:T0->SO:=ax (cC (aK (pm 0 "require_houses" AV (vr 0) (aA (km (aA (vr 1) (aA (vr 2) bq))) bq))))
 (fG (aK (cP (bn (sV false) (vr 1) (vr 2))))
 (fK 11)
 bo)
def ME:List D->Out D:=run 3 IS
def Oa:List Md:=[.R,.R,.F]
def UD:List Md:=[.F,.F,.O (.ct .fz),.F,.F]
abbrev EN:T0->SO:=(ax (bF 7 (aK (iO (fb (pc m_bk9 (aA (vr 0) (aA (vr 2) (aA (vr 6) bq))))) [3] (λ_=>.ok true) (bn i5 (vr 1) (vr 0)))))
 (cC (jW (gb 5) (eC 5) iP (pc m_t9 (aA (bn i5 (vr 1) (aP (.int 0))) (aA (bn i5 (vr 1) (aP (.int 1))) (aA (bn i5 (vr 1) (aP (.int 2))) (aA (vr 6) (aA (vr 7) bq)))))))))
abbrev MK:T0->SO:=(ax (bF 5 (aK (km bq)))
 (ax (cB (aK (fI (vr 2))) (kX 6)
 EN)
 (bF 3 (tY 5))))
def IB:T0->SO:=ax (bF 3 (aK (bn sE (km (aA (km (aA (aP (.int 0)) bq)) bq)) (iO (uQ (aP (.int 1)) (vr 2)) [] (λ_=>.ok true) (aP .non)))))
 (ax (cB (aK (fI (aP (.int 6)))) (kX 4)
 MK)
 (bG (aK (vr 3))))
def m_z9:List D->Out D:=run 8 IB
def Im:List Md:=[.R,.R]
def Q2:List Md:=[.F]
abbrev Ju:T0->SO:=(fG (aK (kj (cP (pc m_bf9 (aA (bn i5 (vr 0) (vr 2)) (aA (bn i5 (vr 1) (vr 2)) bq))))))
 (bG (aK (aP (.bl false))))
 bo)
def AI:T0->SO:=ax (fG (aK (vv (kj (cP (bn EU (vr 0) (aP (.ty "list"))))) (cP (bn (sV true) (un fE (vr 0)) (un fE (vr 1))))))
 (bG (aK (aP (.bl false))))
 bo)
 (ax (cB (aK (fI (un fE (vr 1)))) (kX 2)
 Ju)
 (bG (aK (aP (.bl true)))))
def m_bg9:List D->Out D:=run 3 AI
def Il:List Md:=[.R,.R,.R]
def Q1:List Md:=[.F,.R]
abbrev Jt:T0->SO:=(ax (bF 4 (aK (iO (fb (pc m_bk9 (aA (vr 0) (aA (un fE (vr 2)) (aA (vr 3) bq))))) [2] (λ_=>.ok true) (bn i5 (vr 1) (vr 0)))))
 (fG (aK (cP (bn (Lu true) (pc m_t9 (aA (bn i5 (vr 1) (aP (.int 0))) (aA (bn i5 (vr 1) (aP (.int 1))) (aA (bn i5 (vr 1) (aP (.int 2))) (aA (vr 3) (aA (vr 4) bq)))))) (bn i5 (vr 2) (vr 3)))))
 (bG (aK (aP (.bl false))))
 bo))
def AH:T0->SO:=ax (cB (aK (fI (un fE (vr 2)))) (kX 3)
 Jt)
 (bG (aK (aP (.bl true))))
def m_bh9:List D->Out D:=run 5 AH
def Ij:List Md:=[.R,.F]
def QZ:List Md:=[.R]
abbrev Jr:T0->SO:=(fG (aK (wJ (cP (bn (iF true) (vr 2) (aP .non))) (kj (cP (pc m_bf9 (aA (vr 2) (aA (vr 2) bq)))))))
 (bG (aK (aP (.bl false))))
 bo)
def AF:T0->SO:=ax (fG (aK (vv (kj (cP (bn EU (vr 0) (aP (.ty "list"))))) (cP (bn (sV true) (un fE (vr 0)) (vr 1)))))
 (bG (aK (aP (.bl false))))
 bo)
 (ax (cB (aK (fb (vr 0))) (kX 2)
 Jr)
 (bG (aK (aP (.bl true)))))
def m_bj9:List D->Out D:=run 3 AF
def OB:List Md:=[.O (.ob gc),.F,.F]
def U0:List Md:=[]
def IZ:T0->SO:=ax (cC (aK (pm 0 "require_two_houses" ME (vr 0) (aA (vr 1) (aA (vr 2) bq)))))
 (ax (fG (aK (cP (bn (vM false) (oT (aA (vr 1) (aA (vr 2) bq))) (un (ie 0 "ways") (vr 0)))))
 (fK 13)
 bo)
 (ax (jS (A9 0 "ways" 0) (wY "ways" 0) (oT (aA (vr 1) (aA (vr 2) bq))) (aK (aP (.bl true))))
 (jS (A9 0 "ways" 0) (wY "ways" 0) (oT (aA (vr 2) (aA (vr 1) bq))) (aK (aP (.bl true))))))
def Rk:List D->Out D:=run 3 IZ
def Ox:List Md:=[.R,.R]
def UW:List Md:=[.F]
def IV:T0->SO:=ax (cC (aK (pm 0 "require_long_road" MF (vr 0) (aA (vr 1) bq))))
 (ax (bF 2 (aK (nP (JP (un (ie 0 "wish_ranks") (vr 0)) (un zT (tD (vr 1)))))))
 (ax (fG (aK (cP (bn (iF false) (vr 2) (aP .non))))
 (bG (aK (pm 0 "liking" Rj (vr 0) (aA (nP (bn i5 (vr 1) (aP (.int 0)))) (aA (nP (bn i5 (vr 1) (aP (.int 1)))) bq)))))
 bo)
 (bG (aK (vr 2)))))
def Ri:List D->Out D:=run 3 IV
def Os:List Md:=[.O (.ob gc),.F,.F]
def US:List Md:=[]
def IR:T0->SO:=ax (cC (aK (pm 0 "require_two_houses" ME (vr 0) (aA (vr 1) (aA (vr 2) bq)))))
 (jS (A9 0 "shuns" 0) (wY "shuns" 0) (oT (aA (vr 1) (aA (vr 2) bq))) (aK (aP (.bl true))))
def Rh:List D->Out D:=run 3 IR
def Oo:List Md:=[.O (.ob gc),.R,.F]
def UP:List Md:=[]
def IN:T0->SO:=ax (cC (aK (pm 0 "require_long_road" MF (vr 0) (aA (vr 1) bq))))
 (jS (A9 0 "wish_ranks" 0) (wY "wish_ranks" 0) (un zT (tD (vr 1))) (aK (vr 2)))
def Re:List D->Out D:=run 3 IN
def Oi:List Md:=[.R,.R,.F]
def UK:List Md:=[.O (.ct .fz),.F,.F]
abbrev MQ:T0->SO:=(ax (bF 5 (aK (iO (fI (vr 2)) [4] (λ_=>.ok true) (pc m_x9 (aA (vr 1) (aA (vr 0) bq))))))
 (fG (aK (wJ (cP (pc m_bh9 (aA (vr 0) (aA (vr 1) (aA (vr 5) bq))))) (cP (bn (Lu false) (pc m_bc9 (aA (vr 5) bq)) (iO (fb (bn yd (vr 4) (aP (.int 1)))) [] (λ_=>.ok true) (JH (cP (bn (iF false) (vr 0) (aP .non))) (un tm (aP (.int 1))) (vr 0)))))))
 (cC (jW (gb 3) (eC 3) iP (vr 5)))
 bo))
def II:T0->SO:=ax (bF 3 (aK (km bq)))
 (ax (cB (aK (fb (pc m_be9 (aA (vr 0) (aA (vr 2) bq))))) (kX 4)
 MQ)
 (bG (tY 3)))
def m_s9:List D->Out D:=iT 6 II
def Oe:List Md:=[.R,.R,.R]
def UG:List Md:=[.F,.F]
abbrev MN:T0->SO:=(ax (fG (aK (vv (kj (cP (pc m_bj9 (aA (bn i5 (vr 0) (vr 3)) (aA (aP (.int 5)) bq))))) (kj (cP (pc m_bh9 (aA (vr 1) (aA (vr 2) (aA (bn i5 (vr 0) (vr 3)) bq))))))))
 (bG (aK (aP (.bl false))))
 bo)
 (fG (aK (wJ (cP (bn E2 (vr 3) (aP (.int 0)))) (kj (cP (bn WZ (pc m_bc9 (aA (bn i5 (vr 0) (bn sX (vr 3) (aP (.int 1)))) bq)) (pc m_bc9 (aA (bn i5 (vr 0) (vr 3)) bq)))))))
 (bG (aK (aP (.bl false))))
 bo))
def IE:T0->SO:=ax (cB (aK (fI (un fE (vr 0)))) (kX 3)
 MN)
 (ax (bF 4 (aK (pc m_z9 (aA (vr 1) (aA (vr 2) (aA (aP (.int 5)) bq))))))
 (bG (aK (WA (un HI (pc m_bh9 (aA (vr 1) (aA (vr 2) (aA (vr 4) bq))))) (bn EW (vr 4) (vr 0))))))
def m_w9:List D->Out D:=run 5 IE
def HY:List Md:=[.R]
def QO:List Md:=[.F,.F]
abbrev Jk:T0->SO:=(bF 1 (aK (pc m_bv9 (aA (vr 1) (aA (bn sE (km (aA (aP .non) bq)) (pm 0 "neighbours" MG (vr 0) (aA (vr 2) bq))) bq)))))
def Au:T0->SO:=ax (bF 1 (aK (km (aA (km (aA (aP .non) bq)) bq))))
 (ax (cB (aK (uQ (aP (.int 1)) (pm 0 "size" EH (vr 0) bq))) (kX 2)
 Jk)
 (bG (aK (vr 1))))
def m_bu9:List D->Out D:=run 3 Au
def Iw:List Md:=[.F,.R,.R,.R,.R]
def Q8:List Md:=[.O (.ob gc),.R,.R,.R,.R]
abbrev JC:T0->SO:=(cC (mm 0 "lay_way" [(.O 5),.F,.F] Rk (vr 5) (aA (nP (vr 6)) (aA (nP (vr 7)) bq))))
abbrev JB:T0->SO:=(cC (mm 0 "like" [(.O 5),.F,.F,.F] MH (vr 5) (aA (nP (bn SZ (vr 8) (aP (.int 0)))) (aA (nP (bn SZ (vr 8) (aP (.int 1)))) (aA (nP (bn o0 (vr 2) (vr 8))) bq)))))
abbrev JA:T0->SO:=(cC (mm 0 "wish" [(.O 5),.F,.F] Re (vr 5) (aA (un vB (tD (vr 9))) (aA (nP (bn o0 (vr 3) (vr 9))) bq))))
abbrev Jz:T0->SO:=(cC (mm 0 "shun" [(.O 5),.F,.F] Rh (vr 5) (aA (nP (vr 6)) (aA (nP (vr 7)) bq))))
def AR:T0->SO:=ax (bF 5 (aK (pk 0 xP (aA (vr 0) bq))))
 (ax (cB (aK (fb (vr 1))) (O5 6 7)
 JC)
 (ax (cB (aK (fb (un CV (vr 2)))) (kX 8)
 JB)
 (ax (cB (aK (fb (un CV (vr 3)))) (kX 9)
 JA)
 (ax (cB (aK (fb (vr 4))) (O5 6 7)
 Jz)
 (bG (tY 5))))))
def m_ba9:List D->Out D:=iT 10 AR
def HV:List Md:=[.R,.F]
def QL:List Md:=[]
def Aq:T0->SO:=bG (aK (oT (aA (un tm (pm 0 "rank_of" Ri (vr 0) (aA (vr 1) bq))) (aA (un fE (vr 1)) (aA (vr 1) bq)))))
def m_bx9:List D->Out D:=run 2 Aq
def Om:List Md:=[.R,.F,.R]
def UN:List Md:=[.F]
def IL:T0->SO:=ax (bF 3 (aK (iO (fb (vr 2)) [0,1] (cP (pc m_bp9 (aA (vr 1) (aA (vr 2) (aA (vr 0) bq))))) (pc m_bx9 (aA (vr 1) (aA (bn sE (km (aA (vr 2) bq)) (tD (vr 0))) bq))))))
 (bG (aK (pc m_o9 (aA (vr 1) (aA (vr 3) bq)))))
def m_p9:List D->Out D:=run 4 IL
def Ol:List Md:=[.R,.R]
def UM:List Md:=[.F,.R]
abbrev MR:T0->SO:=(ax (bF 3 (aK (iO (fb (pm 0 "neighbours" MG (vr 0) (aA (vr 2) bq))) [1] (λ_=>.ok true) (bn i5 (vr 1) (vr 0)))))
 (fG (aK (cP (bn (Lu true) (pc m_p9 (aA (vr 0) (aA (vr 2) (aA (vr 3) bq)))) (bn i5 (vr 1) (vr 2)))))
 (bG (aK (vr 2)))
 bo))
def IK:T0->SO:=ax (cC (aK (pc m_br9 (aA (vr 1) (aA (pm 0 "size" EH (vr 0) bq) bq)))))
 (ax (cB (aK (fI (pm 0 "size" EH (vr 0) bq))) (kX 2)
 MR)
 (bG (aK (aP .non))))
def m_q9:List D->Out D:=run 4 IK
def HW:List Md:=[.R]
def QM:List Md:=[.O (.ct (.ct .dp)),.F,.O (.ct .dp)]
abbrev Ji:T0->SO:=(ax (bF 3 (aK (pc m_by9 (aA (vr 2) bq))))
 (fG (aK (wJ (cP (bn (Lu false) (pc m_bq9 (aA (vr 3) bq)) (vr 2))) (cP (bn (iF false) (pc m_q9 (aA (vr 0) (aA (vr 3) bq))) (aP .non)))))
 (cC (zy 1 (tY 3)))
 bo))
def Ar:T0->SO:=ax (fG (aK (cP (bn E2 (pm 0 "size" EH (vr 0) bq) (aP (.int 5)))))
 (fK 16)
 bo)
 (ax (bF 1 (aK (km bq)))
 (ax (cB (aK (fb (pc m_bu9 (aA (vr 0) bq)))) (kX 2)
 Ji)
 (bG (tY 1))))
def m_bw9:List D->Out D:=iT 4 Ar
def Ih:List Md:=[.R,.R,.R,.F]
def QX:List Md:=[.O (.ct (.ct .dp)),.F,.F,.F,.F,.F]
abbrev Jq:T0->SO:=(bF 5 (aK (bn tq (vr 5) (bn jg (aP (.int 1)) (un fE (pc m_bk9 (aA (vr 1) (aA (vr 3) (aA (vr 6) bq)))))))))
abbrev Jp:T0->SO:=(fG (aK (kj (cP (pc m_bg9 (aA (bn i5 (vr 4) (vr 8)) (aA (bn i5 (vr 7) (vr 8)) bq))))))
 (bG (aK (aP (.bl false))))
 bo)
abbrev Jo:T0->SO:=(ax (dpS 4 8 9 99)
 (fG (aK (wJ (cP (bn E2 (un fE (vr 7)) (bn jg (vr 8) (aP (.int 1))))) (kj (cP (pc m_bg9 (aA (bn i5 (vr 4) (bn jg (vr 8) (aP (.int 1)))) (aA (bn i5 (vr 7) (bn jg (vr 8) (aP (.int 1)))) bq)))))))
 (bG (aK (aP (.bl false))))
 bo))
def AD:T0->SO:=ax (bF 4 (aK (pc m_bw9 (aA (vr 0) bq))))
 (ax (fG (aK (kj (cP (bn EU (vr 4) (aP (.ty "list"))))))
 (bG (aK (aP (.bl false))))
 bo)
 (ax (bF 5 (aK (aP (.int 1))))
 (ax (cB (aK (uQ (aP (.int 1)) (vr 3))) (kX 6)
 Jq)
 (ax (fG (aK (cP (bn E2 (vr 5) (aP (.int 81)))))
 (bG (aK (pc m_w9 (aA (vr 4) (aA (vr 1) (aA (vr 2) bq))))))
 bo)
 (ax (bF 7 (aK (pc m_s9 (aA (vr 1) (aA (vr 2) (aA (vr 3) bq))))))
 (ax (fG (aK (cP (bn (sV true) (un fE (vr 4)) (un fE (vr 7)))))
 (bG (aK (aP (.bl false))))
 bo)
 (ax (cB (aK (fI (un fE (vr 7)))) (kX 8)
 Jp)
 (ax (cB (aK (fI (un fE (vr 7)))) (kX 8)
 Jo)
 (bG (aK (aP (.bl true))))))))))))
def m_bl9:List D->Out D:=run 10 AD
def Ig:List Md:=[.F]
def QW:List Md:=[.F,.F]
def AC:T0->SO:=ax (bF 1 (aK (aP (.bl false))))
 (ax (Fz (some 2) (SC [16]) (cC (aK (pc m_bw9 (aA (Uz (pk 0 xP (aA (vr 0) bq))) bq)))) λc=>(bF 1 (aK (aP (.bl (match c with|16=>true|_=>false))))))
 (bG (aK (vr 1))))
def m_bm9:List D->Out D:=run 3 AC
def Oj:List Md:=[.R]
def UL:List Md:=[.F,.F,.O (.ct .fz),.O (.ct .fz),.O (.ct .fz),.O (.ct .fz),.F,.F,.O (.ob gc),.F,.F]
abbrev xV:T0->SO:=(fG (aK (cP (bn xG (vr 7) (vr 3))))
 (cC (jW (gb 3) (eC 3) iP (vr 7)))
 bo)
def IJ:T0->SO:=ax (bF 1 (aK (pc m_u9 (aA (vr 0) (aA (aP (.int 0)) bq)))))
 (ax (fG (aK (cP (bn (sV false) (bn d5 (bn gE (vr 1) (aP (.int 4))) (aP (.int 8))) (aP (.int 5)))))
 (bG (aK (pc m_bm9 (aA (bn jg (aP (.int 6)) (bn d5 (bn gE (vr 1) (aP (.int 32))) (aP (.int 55)))) bq))))
 bo)
 (ax (bF 2 (aK (bn jg (aP (.int 1)) (bn d5 (vr 1) (aP (.int 4))))))
 (ax (fG (aK (cP (bn (sV false) (bn d5 (bn gE (vr 1) (aP (.int 4))) (aP (.int 4))) (aP (.int 2)))))
 (bF 2 (aK (aP (.int 5))))
 bo)
 (ax (bF 3 (aK (pc m_bn9 (aA (pc m_u9 (aA (vr 0) (aA (aP (.int 1)) bq))) (aA (vr 2) bq)))))
 (ax (bF 4 (aK (pc m_y9 (aA (pc m_u9 (aA (vr 0) (aA (aP (.int 2)) bq))) (aA (vr 2) bq)))))
 (ax (bF 5 (aK (pc m_v9 (aA (pc m_u9 (aA (vr 0) (aA (aP (.int 3)) bq))) (aA (vr 2) bq)))))
 (ax (bF 6 (aK (pc m_bi9 (aA (pc m_u9 (aA (vr 0) (aA (aP (.int 4)) bq))) (aA (vr 2) bq)))))
 (ax (fG (aK (wJ (cP (bn (sV false) (bn d5 (bn gE (pc m_u9 (aA (vr 0) (aA (aP (.int 7)) bq))) (aP (.int 4))) (aP (.int 4))) (aP (.int 1)))) (cP (bn E2 (vr 2) (aP (.int 2))))))
 (ax (cB (aK (fb (km (aA (oT (aA (aP (.int 0)) (aA (aP (.int 1)) bq))) (aA (oT (aA (aP (.int 0)) (aA (aP (.int 2)) bq))) (aA (oT (aA (aP (.int 1)) (aA (aP (.int 2)) bq))) bq)))))) (kX 7)
 xV)
 (ax (jS (gb 5) (eC 5) (oT (aA (aP (.int 1)) (aA (aP (.int 2)) (aA (aP (.int 0)) bq)))) (aK (aP (.int 9))))
 (jS (gb 5) (eC 5) (oT (aA (aP (.int 2)) (aA (aP (.int 1)) (aA (aP (.int 0)) bq)))) (aK (aP (.int 9))))))
 bo)
 (ax (xb 8 4 5 6)
 (ax (bF 9 (aK (pc m_ba9 (aA (vr 2) (aA (vr 3) (aA (vr 4) (aA (vr 5) (aA (vr 6) bq))))))))
 (ax (fG (aK (kj (cP (pc m_bl9 (aA (vr 9) (aA (vr 3) (aA (S4 4 5 6) (aA (vr 2) bq))))))))
 (bG (aK (aP (.bl false))))
 bo)
 (ax (bF 10 (aK (bn d5 (pc m_u9 (aA (vr 0) (aA (aP (.int 5)) bq))) (vr 2))))
 (ax (bF 11 (aK (bn d5 (pc m_u9 (aA (vr 0) (aA (aP (.int 6)) bq))) (vr 2))))
 (ax (cC (mm 0 "like" [(.O 9),.F,.F,.F] MH (vr 9) (aA (vr 10) (aA (vr 11) (aA (bn jg (aP (.int 1)) (bn d5 (pc m_u9 (aA (vr 0) (aA (aP (.int 7)) bq))) (aP (.int 4)))) bq)))))
 (ax (jS (gb 4) (eC 4) (oT (aA (vr 10) (aA (vr 11) bq))) (aK (bn jg (aP (.int 1)) (bn d5 (pc m_u9 (aA (vr 0) (aA (aP (.int 7)) bq))) (aP (.int 4))))))
 (bG (aK (pc m_bl9 (aA (vr 9) (aA (vr 3) (aA (S4 4 5 6) (aA (vr 2) bq))))))))))))))))))))))
def m_r9:List D->Out D:=run 12 IJ
end
variable{P:Program}{w:World}{K:L0}{mg:Str->Option Value}{base:Heap}{a:Adr}
theorem N8(T:Txt K mg a base):FnOk P w K mg base (d8 P w) 1 a.f_a9 a.d_a9 ["self","size"] (dX (ay a K) OD (KR (ay a K) .F) xP):=by
 obtain⟨b,g_MOST_HOUSES⟩:=T.g_MOST_HOUSES;refine T.F_a9.okX Tz (λ_ _ _ _=>aG) (λ_ _ _ _ _ _ _ _ d h=>?_)
 refine⟨_,(ae (bC (PW.pt (iU (av qA (pv 1) ah (aQ _)) (gv (av m9 (pv 1) (f6 rfl g_MOST_HOUSES (v:=.int 60) ⟨_,rfl⟩) (aQ _))))) (af (gh iD rfl rfl T.mgC_NoHouse T.ek_NoHouse (aa kg ac))) aH)
  (ae (qu (pv 0) (pv 1) rfl)
  (ae (qu (pv 0) iY rfl)
  (ae (qu (pv 0) iY rfl)
  (ae (qu (pv 0) iY rfl)
  (af (qu (pv 0) iY rfl))))))),?_⟩
 refine aZ (Y:=ay a K) (M:=OD) (more:=U6) (body:=I8) ?_ rfl rfl (λ_ _ _=>dG) h
 exact(aq (cN (aR (iV (bU (fx (aC z6 (fx (fF 1)) (fx pI)))) (bU (fx (aC u5 (fx (fF 1)) (fx pI)))))) (ij (c:=11)) bI)
  (aq (PM (c:=0) (i:=0) T.cl_Guild T.n_house_count rfl rfl (aR (fF 1)))
  (aq (u6 (c:=0) (i:=0) T.cl_Guild T.n_ways rfl rfl (aR tW))
  (aq (u6 (c:=0) (i:=0) T.cl_Guild T.n_likings rfl rfl (aR tW))
  (aq (u6 (c:=0) (i:=0) T.cl_Guild T.n_shuns rfl rfl (aR tW))
  (u6 (c:=0) (i:=0) T.cl_Guild T.n_wish_ranks rfl rfl (aR tW)))))))
theorem Kl:CompSc (ao Gy) (Gd.f7 (Gd.lE (Gd.nth (dh Gy) 0))) "b" ["pairs","a"]:=by ac_rfl
theorem Ul(T:Txt K mg a base):FnOk P w K mg base (d8 P w) 1 a.f_b9 a.d_b9 ["self","pairs","a"] (dX (ay a K) OC (KO (ay a K) (.ct .fz)) Rl):=by
 refine T.F_b9.okX Tx (λ_ _ _ _=>aG) (λ_ _ _ _ _ _ _ _ d h=>?_);have b:=i7 d;refine⟨_,(af (aE (gH rfl (cc rfl T.z_range (aa (dY K rfl (pv 0) rfl) ac)) Kl (ix:=[1,2]) rfl (λ_ _ _ _=>mX (Ac (vp b (cT (aa (pv 2) (aa (pv 0) ac))) (pv 1)))) (λ_ _ _ _=>(pv 0))))),?_⟩;refine ce (Y:=ay a K) (M:=OC) (more:=U5) (body:=I0) ?_ rfl rfl h;exact(a8 (aR (gk (ix:=[1,2]) (lB (ux (qy (c:=0) T.cl_Guild T.n_house_count (rc (fR 0))))) (by decide) (lv (fx (CL (fx (dI (ar (fF 2) (ar (fF 0) a6)))) (rc (fR 1))))) (fF 0))))
theorem Kk:CompSc (ao L6) { kind:=.function,names:=[ (".0",.local),("b",.local),("a",.free),("self",.free)],isGenerator:=false,isCoroutine:=false,more:=[]:PySem.Scope } "b" ["a","self"]:=by ac_rfl
theorem Ug(T:Txt K mg a base):FnOk P w K mg base (d8 P w) 1 a.f_l9 a.d_l9 ["self","a","houses"] (dX (ay a K) Oq (KR (ay a K) .F) Rg):=by
 refine T.F_l9.okX Tn (λ_ _ _ _=>aG) (λ_ _ _ _ _ _ _ _ d h=>?_);have b:=i7 d;refine⟨_,(af (aE (aT (Fj K rfl rfl) rfl T.z_any Gd.SF (aa (gH rfl (bx K rfl (pv 2)) Kk (ix:=[1,0]) rfl (λ_ _ _ _=>fY) (λ_ _ _ _=>(P5 (vp b (cT (aa (pv 1) (aa (pv 0) ac))) (dY K rfl (pv 2) rfl))))) ac)))),?_⟩;refine aZ (Y:=ay a K) (M:=Oq) (more:=UR) (body:=IQ) ?_ rfl rfl (λ_ _ _=>dG) h;exact(a8 (aR (dm TN (fx (oF (m7 (ix:=[1,0]) (ju (rc (fR 2))) (by decide) iA (CL (fx (dI (ar (fF 1) (ar (rS (k:= .X) (ux (fR 0))) a6)))) (rc (qy (c:=0) T.cl_Guild T.n_shuns (rc (fR 2)))))))))))
theorem CO(T:Txt K mg a base):FnOk P w K mg base (d8 P w) 1 a.f_m9 a.d_m9 ["self"] (dX (ay a K) Op (KR (ay a K) .F) EH):=by
 refine T.F_m9.okX Tl (λ_ _ _ _=>aG) (λ_ _ _ _ _ _ _ _ b h=>?_);refine⟨_,(af (aE (dY K rfl (pv 0) rfl))),?_⟩;refine aZ (Y:=ay a K) (M:=Op) (more:=UQ) (body:=IP) ?_ rfl rfl (λ_ _ _=>dG) h;exact(a8 (aR (rS (k:= .X) (ux (qy (c:=0) T.cl_Guild T.n_house_count (rc (fR 0)))))))
theorem lG(T:Txt K mg a base):FnOk P w K mg base (d8 P w) 1 a.f_u9 a.d_u9 ["script","k"] (dX (ay a K) Og (KR (ay a K) .F) m_u9):=by
 refine T.F_u9.okX Tj (λ_ _ _ _=>aG) (λ_ _ _ _ _ _ _ _ b h=>?_)
 refine⟨_,(ae (bC (av qA (pv 1) (aT (aB K rfl) rfl T.z_len Gd.cy (aa (pv 0) ac)) (aQ _)) (af (aE (b8 (aV K rfl) (pv 0) (pv 1) (λ_ _=>rfl)))) aH)
  (af (aE ah))),?_⟩
 refine aZ (Y:=ay a K) (M:=Og) (more:=UI) (body:=IG) ?_ rfl rfl (λ_ _ _=>dG) h
 exact(aq (cN (aR (bU (fx (aC z6 (fx (fF 1)) (fx (dm du (ux (fR 0)))))))) (a8 (aR (rS (k:= .X) (ux (cu (rc (fR 0)) (fx (fF 1))))))) bI)
  (a8 (aR pI)))
theorem T6(T:Txt K mg a base):FnOk P w K mg base (d8 P w) 1 a.f_x9 a.d_x9 ["row","house"] (dX (ay a K) Od (KR (ay a K) .F) m_x9):=by
 refine T.F_x9.okX FX (λ_ _ _ _=>aG) (λ_ _ _ _ _ _ _ _ b h=>?_);have gy:=Mi.gy b
 refine⟨_,(ae (aI (i:=2) FX.nd rfl (Or.inl rfl) (bQ (aa (pv 1) ac)))
  (ae (qt dJ (av m8 (b8 (aV K rfl) (pv 2) (oN jZ ah) (λ_ _=>rfl)) ah (aQ _)) (ae (aI (i:=3) FX.nd rfl (Or.inl rfl) (b8 (aV K rfl) (pv 0) (b8 (aV K rfl) (pv 2) (oN jZ ah) (λ_ _=>rfl)) (λ_ _=>rfl)))
  (ae (bC (PW.pt (iU (av fN (pv 3) cf (aQ _)) (gv (av (jo K rfl gy) (pv 3) (pv 2) (by with_unfolding_all rfl))))) (af (aE cf)) aH)
  (af (bA (im XM XS XT cO (pv 2) (aa (pv 3) ac)))))))
  (af (aE (pv 2))))),?_⟩
 refine aZ (Y:=ay a K) (M:=Od) (more:=UF) (body:=ID) ?_ rfl rfl (λ_ _ _=>dG) h
 exact(aq (c6 (i:=2) (aR (cY (ar (fF 1) a6))) rfl rfl)
  (aq (u0 100000 (aR (bU (fx (aC u4 (fx (cu (fC 2) (fx (vq oK (fx pI))))) (fx pI))))) (aq (bg (i:=3) (aR (cu (rc (fF 0)) (fx (cu (fC 2) (fx (vq oK (fx pI))))))) rfl rfl)
  (aq (cN (aR (iV (bU (fx (aC nZ (fx (fF 3)) (fx pN)))) (bU (fx (aC qm (fx (fF 3)) (cx (fC 2))))))) (a8 (aR pN)) bI)
  (b7 (fi (lu (i:=2) rfl) (fF 3))))))
  (a8 (WX (ly (i:=2) rfl)))))
theorem T5(T:Txt K mg a base):FnOk P w K mg base (d8 P w) 1 a.f_y9 a.d_y9 ["cell","size"] (dX (ay a K) Oc (KO (ay a K) (.ct .fz)) m_y9):=by
 refine T.F_y9.okX B5 (λ_ _ _ _=>aG) (λ_ _ _ _ _ _ _ _ c h=>?_);have b:=i7 c
 refine⟨_,(ae (aI (i:=2) B5.nd rfl (Or.inl rfl) iY)
  (ae (bP dJ rfl (cc rfl T.z_range (aa (aL bZ (pv 0) ah) ac)) (bf (i:=3) B5.nd rfl (Or.inl rfl)) (ae (aI (i:=0) B5.nd rfl (Or.inl rfl) (aL bZ (aL dL (aL n8 (pv 0) ah) ah) ah))
  (af (fZ b (pv 2) (cT (aa (aL bZ (pv 0) (pv 1)) (aa (aL bZ (aL eG (pv 0) ah) (pv 1)) ac))) (aL lW (aL bZ (aL eG (pv 0) ah) ah) ah) rfl))))
  (af (aE (pv 2))))),?_⟩
 refine ce (Y:=ay a K) (M:=Oc) (more:=UE) (body:=IC) ?_ rfl rfl h
 exact(aq (c6 (i:=2) (aR tW) rfl rfl)
  (aq (cR (aR (lB (fx (aC cX (fx (fF 0)) (fx pI))))) (.inl rfl) (sS (i:=3) rfl rfl) (aq (bg (i:=0) (aR (aC cX (fx (aC ge (fx (aC tS (fx (fF 0)) (fx pI))) (fx pI))) (fx pI))) rfl rfl)
  (iz (lu (i:=2) rfl) (fx (dI (ar (aC cX (fx (fF 0)) (fx (fF 1))) (ar (aC cX (fx (aC gu (fx (fF 0)) (fx pI))) (fx (fF 1))) a6)))) (aR (aC qk (fx (aC cX (fx (aC gu (fx (fF 0)) (fx pI))) (fx pI))) (fx pI))))))
  (a8 (ly (i:=2) rfl))))
theorem Hy(T:Txt K mg a base):FnOk P w K mg base (d8 P w) 1 a.f_bb9 a.d_bb9 ["fond","dear","road"] (dX (ay a K) Iv (KR (ay a K) .F) m_bb9):=by
 refine T.F_bb9.okX z5 (λ_ _ _ _=>aG) (λ_ _ _ _ _ _ _ _ c h=>?_);have b:=i7 c
 refine⟨_,(ae (aI (i:=3) z5.nd rfl (Or.inl rfl) (xr b (pv 0) (cT (aa (b8 (aV K rfl) (pv 2) ah (λ_ _=>rfl)) (aa (b8 (aV K rfl) (pv 2) ah (λ_ _=>rfl)) ac))) ah ⟨rfl,rfl,rfl,rfl⟩))
  (ae (bC (Ac (vp b (dZ (dU K rfl) rfl T.z_tuple Gd.kR (aa (pv 2) ac)) (pv 1))) (af (aI (i:=3) z5.nd rfl (Or.inl rfl) (vm b (pv 1) (dZ (dU K rfl) rfl T.z_tuple Gd.kR (aa (pv 2) ac)) (λ_ _=>rfl)))) aH)
  (af (aE (cT (aa (aL lW ah (pv 3)) (aa (aT (aB K rfl) rfl T.z_len Gd.cy (aa (pv 2) ac)) (aa (pv 2) ac)))))))),?_⟩
 refine aZ (Y:=ay a K) (M:=Iv) (more:=Q7) (body:=AQ) ?_ rfl rfl (λ_ _ _=>dG) h
 exact(aq (bg (i:=3) (aR (rS (k:= .X) (ux (CM (rc (fR 0)) (fx (dI (ar (cu (rc (fF 2)) (fx pI)) (ar (cu (rc (fF 2)) (fx pI)) a6)))) (fu pI))))) rfl rfl)
  (aq (cN (aR (lv (fx (CL (fx (m6 (rc (fF 2)))) (rc (fR 1)))))) (bg (i:=3) (aR (rS (k:= .X) (ux (Af (rc (fR 1)) (fx (m6 (rc (fF 2)))))))) rfl rfl) bI)
  (a8 (aR (dI (ar (aC qk (fx pI) (fx (fF 3))) (ar (dm du (fx (fF 2))) (ar (fF 2) a6))))))))
theorem Ai(T:Txt K mg a base):FnOk P w K mg base (d8 P w) 1 a.f_bc9 a.d_bc9 ["table"] (dX (ay a K) Iu (KO (ay a K) (.ct .fz)) m_bc9):=by
 refine T.F_bc9.okX zZ (λ_ _ _ _=>aG) (λ_ _ _ _ _ _ _ _ b h=>?_)
 refine⟨_,(ae (aI (i:=1) zZ.nd rfl (Or.inl rfl) (bQ ac))
  (ae (bP dJ rfl (bx K rfl (xq (wX K rfl) (pv 0) (CF ah) CG)) (bf (i:=2) zZ.nd rfl (Or.inl rfl)) (af (bA (im XM XS XT cO (pv 1) (aa (qw (av fN (pv 2) cf (aQ _)) (oN jZ ah) (b8 (aV K rfl) (pv 2) ah (λ_ _=>rfl))) ac)))))
  (af (aE (pv 1))))),?_⟩
 refine ce (Y:=ay a K) (M:=Iu) (more:=Q6) (body:=AO) ?_ rfl rfl h
 exact(aq (c6 (i:=1) (aR (cY a6)) rfl rfl)
  (aq (cR (aR (iq (Mn (rc (fR 0)) (fx pI)))) (.inr rfl) (Ln (i:=2) rfl rfl) (b7 (fi (lu (i:=1) rfl) (Ho (bU (fx (aC nZ (ux (fR 2)) (fx pN)))) (vq oK (fx pI)) (rS (k:= .X) (ux (cu (rc (fR 2)) (fx pI))))))))
  (a8 (ly (i:=1) rfl))))
theorem Fe:CompSc (ao xi) (Gd.f7 (Gd.lE (Gd.nth (dh xi) 0))) "far" ["house"]:=by ac_rfl
theorem QD(T:Txt K mg a base):FnOk P w K mg base (d8 P w) 1 a.f_bd9 a.d_bd9 ["cell","house","size"] (dX (ay a K) Ir (KO (ay a K) (.ct .fz)) m_bd9):=by
 refine T.F_bd9.okX j6 (λ_ _ _ _=>aG) (λ_ _ _ _ _ _ _ _ b h=>?_)
 refine⟨_,(ae (fM (i:=3) rfl j6.nd rfl (.inl rfl) (gL rfl T.z_range (aa ah (aa (pv 2) ac))) Fe (ix:=[1]) rfl (λ_ _ _ _=>mX (av m8 (pv 0) (pv 1) (aQ _))) (λ_ _ _ _=>(pv 0)))
  (ae (aI (i:=4) j6.nd rfl (Or.inl rfl) (bQ (aa (pv 1) ac)))
  (ae (aI (i:=5) j6.nd rfl (Or.inl rfl) (aL bZ (pv 0) ah))
  (ae (bC (av na (aL bZ (aL eG (pv 0) ah) ah) ah (aQ _)) (af (aI (i:=5) j6.nd rfl (Or.inl rfl) (pv 2))) aH)
  (ae (aI (i:=0) j6.nd rfl (Or.inl rfl) (aL eG (pv 0) ah))
  (ae (qt dJ (PW.pt (lU (av m9 (pv 5) ah (aQ _)) (jn (av m9 (aT (aB K rfl) rfl T.z_len Gd.cy (aa (pv 3) ac)) ah (aQ _))))) (ae (bA (im XM XS XT cO (pv 4) (aa (im XM PySem.F.slot_list_pop PySem.F.type_list_pop HR (pv 3) (aa (aL bZ (pv 0) (aT (aB K rfl) rfl T.z_len Gd.cy (aa (pv 3) ac))) ac)) ac)))
  (ae (aI (i:=0) j6.nd rfl (Or.inl rfl) (aL eG (pv 0) ah))
  (af (aI (i:=5) j6.nd rfl (Or.inl rfl) (aL lW (pv 5) ah))))))
  (af (aE (aL ki (pv 4) (bQ (aa ah ac))))))))))),?_⟩
 refine ce (Y:=ay a K) (M:=Ir) (more:=Q5) (body:=AN) ?_ rfl rfl h
 exact(aq (c6 (i:=3) (aR (gk (ix:=[1]) (EY (fx pI) (fx (fF 2))) (by decide) (bU (fx (aC u4 (fx (fF 0)) (fx (fF 1))))) (fF 0))) rfl rfl)
  (aq (c6 (i:=4) (aR (cY (ar (fF 1) a6))) rfl rfl)
  (aq (bg (i:=5) (aR (aC cX (fx (fF 0)) (fx pI))) rfl rfl)
  (aq (cN (aR (bU (fx (aC u7 (fx (aC cX (fx (aC gu (fx (fF 0)) (fx pI))) (fx pI))) (fx pI))))) (bg (i:=5) (aR (fF 2)) rfl rfl) bI)
  (aq (bg (i:=0) (aR (aC gu (fx (fF 0)) (fx pI))) rfl rfl)
  (aq (u0 100000 (aR (lV (bU (fx (aC u5 (fx (fF 5)) (fx pI)))) (bU (fx (aC u5 (fx (dm du (cx (fC 3)))) (fx pI)))))) (aq (b7 (EI (i:=4) rfl (MC (lu (i:=3) rfl) (fx (aC cX (fx (fF 0)) (fx (dm du (cx (fC 3)))))))))
  (aq (bg (i:=0) (aR (aC gu (fx (fF 0)) (fx pI))) rfl rfl)
  (bg (i:=5) (aR (aC qk (fx (fF 5)) (fx pI))) rfl rfl))))
  (a8 (aR (oP (fC 4) (oc (cY (ar pI a6))))))))))))
theorem QB(T:Txt K mg a base):FnOk P w K mg base (d8 P w) 1 a.f_bi9 a.d_bi9 ["cell","size"] (dX (ay a K) Ik (KO (ay a K) (.ct .fz)) m_bi9):=by
 refine T.F_bi9.okX nX (λ_ _ _ _=>aG) (λ_ _ _ _ _ _ _ _ b h=>?_);have gy:=Mi.gy b
 refine⟨_,(ae (aI (i:=2) nX.nd rfl (Or.inl rfl) (bQ ac))
  (ae (bC (av qA (pv 1) ah (aQ _)) (af (aE (pv 2))) aH)
  (ae (bP dJ rfl (cc rfl T.z_range (aa (aL bZ (pv 0) ah) ac)) (bf (i:=3) nX.nd rfl (Or.inl rfl)) (ae (aI (i:=0) nX.nd rfl (Or.inl rfl) (aL bZ (aL dL (aL n8 (pv 0) ah) ah) ah))
  (ae (aI (i:=4) nX.nd rfl (Or.inl rfl) (aL bZ (pv 0) (pv 1)))
  (ae (aI (i:=5) nX.nd rfl (Or.inl rfl) (aL bZ (aL dL (aL dL (pv 4) ah) (aL bZ (aL eG (pv 0) ah) (aL lW (pv 1) ah))) (pv 1)))
  (af (bC (av (qz K rfl gy) (cT (aa (pv 4) (aa (pv 5) ac))) (pv 2) (by with_unfolding_all rfl)) (af (bA (im PySem.F.plainAttrs_list PySem.F.slot_list_append PySem.F.type_list_append cO (pv 2) (aa (cT (aa (pv 4) (aa (pv 5) ac))) ac)))) aH))))))
  (af (aE (pv 2)))))),?_⟩
 refine ce (Y:=ay a K) (M:=Ik) (more:=Q0) (body:=AG) ?_ rfl rfl h
 exact(aq (c6 (i:=2) (aR (cY a6)) rfl rfl)
  (aq (cN (aR (bU (fx (aC z6 (fx (fF 1)) (fx pI))))) (a8 (ly (i:=2) rfl)) bI)
  (aq (cR (aR (lB (fx (aC cX (fx (fF 0)) (fx pI))))) (.inl rfl) (sS (i:=3) rfl rfl) (aq (bg (i:=0) (aR (aC cX (fx (aC ge (fx (aC tS (fx (fF 0)) (fx pI))) (fx pI))) (fx pI))) rfl rfl)
  (aq (bg (i:=4) (aR (aC cX (fx (fF 0)) (fx (fF 1)))) rfl rfl)
  (aq (bg (i:=5) (aR (aC cX (fx (aC ge (fx (aC ge (fx (fF 4)) (fx pI))) (fx (aC cX (fx (aC gu (fx (fF 0)) (fx pI))) (fx (aC qk (fx (fF 1)) (fx pI))))))) (fx (fF 1)))) rfl rfl)
  (cN (aR (bU (fx (aC F8 (fx (dI (ar (fF 4) (ar (fF 5) a6)))) (cx (fC 2)))))) (b7 (fi (lu (i:=2) rfl) (dI (ar (fF 4) (ar (fF 5) a6))))) bI)))))
  (a8 (ly (i:=2) rfl)))))
theorem Fc:CompSc (ao xg) (Gd.f7 (Gd.lE (Gd.nth (dh xg) 0))) "b" ["ways","a"]:=by ac_rfl
theorem vA(T:Txt K mg a base):FnOk P w K mg base (d8 P w) 1 a.f_bk9 a.d_bk9 ["ways","size","a"] (dX (ay a K) Ii (KO (ay a K) (.ct .fz)) m_bk9):=by
 refine T.F_bk9.okX Pn (λ_ _ _ _=>aG) (λ_ _ _ _ _ _ _ _ b h=>?_);have gy:=Mi.gy b;refine⟨_,(af (aE (gH rfl (cc rfl T.z_range (aa (pv 1) ac)) Fc (ix:=[0,2]) rfl (λ_ _ _ _=>mX (av (jo K rfl gy) (cT (aa (aT (Fg rfl) rfl T.z_min Gd.BJ (aa (pv 2) (aa (pv 0) ac))) (aa (aT (Fh rfl) rfl T.z_max Gd.K7 (aa (pv 2) (aa (pv 0) ac))) ac))) (pv 1) (by with_unfolding_all rfl))) (λ_ _ _ _=>(pv 0))))),?_⟩;refine ce (Y:=ay a K) (M:=Ii) (more:=QY) (body:=AE) ?_ rfl rfl h;exact(a8 (aR (gk (ix:=[0,2]) (lB (fx (fF 1))) (by decide) (bU (fx (aC qm (fx (dI (ar (oO TH (fx (fF 2)) (fx (fF 0))) (ar (oO TK (fx (fF 2)) (fx (fF 0))) a6)))) (ux (fR 1))))) (fF 0))))
theorem Qy(T:Txt K mg a base):FnOk P w K mg base (d8 P w) 1 a.f_bn9 a.d_bn9 ["cell","size"] (dX (ay a K) Ie (KO (ay a K) (.ct .fz)) m_bn9):=by
 refine T.F_bn9.okX lS (λ_ _ _ _=>aG) (λ_ _ _ _ _ _ _ _ b h=>?_)
 refine⟨_,(ae (aI (i:=2) lS.nd rfl (Or.inl rfl) (aL bZ (aL n8 (aL bZ (aL n8 (aL dL (pv 0) ah) ah) ah) ah) ah))
  (ae (aI (i:=3) lS.nd rfl (Or.inl rfl) (bQ ac))
  (ae (aI (i:=4) lS.nd rfl (Or.inl rfl) ah)
  (ae (bP dJ rfl (cc rfl T.z_range (aa (pv 1) ac)) (bf (i:=5) lS.nd rfl (Or.inl rfl)) (af (bP dJ rfl (gL rfl T.z_range (aa (aL dL (pv 5) ah) (aa (pv 1) ac))) (bf (i:=6) lS.nd rfl (Or.inl rfl)) (ae (bC (av na (aL bZ (aL Qj (pv 2) (aL bZ (pv 4) ah)) ah) ah (aQ _)) (af (bA (im XM XS XT cO (pv 3) (aa (cT (aa (pv 5) (aa (pv 6) ac))) ac)))) aH)
  (af (aI (i:=4) lS.nd rfl (Or.inl rfl) (aL dL (pv 4) ah)))))))
  (af (aE (pv 3))))))),?_⟩
 refine ce (Y:=ay a K) (M:=Ie) (more:=QV) (body:=AB) ?_ rfl rfl h
 exact(aq (bg (i:=2) (aR (aC cX (fx (aC tS (fx (aC cX (fx (aC tS (fx (aC ge (fx (fF 0)) (fx pI))) (fx pI))) (fx pI))) (fx pI))) (fx pI))) rfl rfl)
  (aq (c6 (i:=3) (aR (cY a6)) rfl rfl)
  (aq (bg (i:=4) (aR pI) rfl rfl)
  (aq (cR (aR (lB (fx (fF 1)))) (.inl rfl) (sS (i:=5) rfl rfl) (cR (aR (EY (fx (aC ge (fx (fF 5)) (fx pI))) (fx (fF 1)))) (.inl rfl) (sS (i:=6) rfl rfl) (aq (cN (aR (bU (fx (aC u7 (fx (aC cX (fx (aC TF (fx (fF 2)) (fx (aC cX (fx (fF 4)) (fx pI))))) (fx pI))) (fx pI))))) (b7 (fi (lu (i:=3) rfl) (dI (ar (fF 5) (ar (fF 6) a6))))) bI)
  (bg (i:=4) (aR (aC ge (fx (fF 4)) (fx pI))) rfl rfl))))
  (a8 (ly (i:=3) rfl))))))
theorem Qx(T:Txt K mg a base):FnOk P w K mg base (d8 P w) 1 a.f_bo9 a.d_bo9 ["found"] (dX (ay a K) Ic (KR (ay a K) .F) m_bo9):=by
 refine T.F_bo9.okX Pm (λ_ _ _ _=>aG) (λ_ _ _ _ _ _ _ _ b h=>?_);refine⟨_,(af (aE (P6 (aT (gN K rfl) rfl T.z_isinstance Gd.da (aa (pv 0) (aa (kY rfl T.z_int Gd.SE (v:=.ty "int") rfl) ac))) (Hh (Ae (aT (gN K rfl) rfl T.z_isinstance Gd.da (aa (pv 0) (aa (kY rfl T.z_bool Gd.Na (v:=.ty "bool") rfl) ac)))))))),?_⟩;refine aZ (Y:=ay a K) (M:=Ic) (more:=QU) (body:=AA) ?_ rfl rfl (λ_ _ _=>dG) h;exact(a8 (aR (TZ (fx (oO tT (fx (fF 0)) (fx pT))) (Hj (fx (oO tT (fx (fF 0)) (fx pT)))))))
theorem Ue(T:Txt K mg a base):FnOk P w K mg base (d8 P w) 1 a.f_o9 a.d_o9 ["house","standings"] (dX (ay a K) On (KR (ay a K) .F) m_o9):=by
 obtain⟨b,g_SEAT⟩:=T.g_SEAT;refine T.F_o9.okX NP (λ_ _ _ _=>aG) (λ_ _ _ _ _ _ _ _ c h=>?_);have JL:=Mi.JL c
 refine⟨_,(ae (bC (av na (pv 0) (f6 rfl g_SEAT (v:=.int 0) ⟨_,rfl⟩) (aQ _)) (af (aE (bQ (aa (f6 rfl g_SEAT (v:=.int 0) ⟨_,rfl⟩) ac)))) aH)
  (ae (aI (i:=2) NP.nd rfl (Or.inl rfl) (n6 (zu K rfl rfl JL) rfl T.z_min Gd.BJ (aa (pv 1) ac) (vh cf Ad)))
  (ae (bC (av fN (pv 2) cf (aQ _)) (af (aE cf)) aH)
  (af (aE (b8 (vF K rfl) (pv 2) ah (λ_ _=>rfl))))))),?_⟩
 refine aZ (Y:=ay a K) (M:=On) (more:=UO) (body:=IM) ?_ rfl rfl (λ_ _ _=>dG) h
 exact(aq (cN (aR (bU (fx (aC u7 (fx (fF 0)) (fx pI))))) (a8 (aR (oF (cY (ar pI a6))))) bI)
  (aq (bg (i:=2) (aR (P9 (rc (fF 1)) (fx pN))) rfl rfl)
  (aq (cN (aR (bU (fx (aC nZ (fx (fF 2)) (fx pN))))) (a8 (aR pN)) bI)
  (a8 (aR (Hn (rc (fF 2)) (fx pI)))))))
theorem Fb:CompSc (ao xf) (Gd.f7 (Gd.lE (Gd.nth (dh xf) 0))) "road" []:=by ac_rfl
theorem Qv(T:Txt K mg a base):FnOk P w K mg base (d8 P w) 1 a.f_bq9 a.d_bq9 ["table"] (dX (ay a K) Ia (KO (ay a K) (.ct .fz)) m_bq9):=by
 refine T.F_bq9.okX Pk (λ_ _ _ _=>aG) (λ_ _ _ _ _ _ _ _ b h=>?_);refine⟨_,(af (aE (gH rfl (bx K rfl (pv 0)) Fb (ix:=[]) rfl (λ_ _ _ _=>fY) (λ_ _ _ _=>(qw (PW.pt (iU (av fN (pv 0) cf (aQ _)) (gv (av qA (aT (aB K rfl) rfl T.z_len Gd.cy (aa (pv 0) ac)) ah (aQ _))))) cf (b8 (aV K rfl) (pv 0) ah (λ_ _=>rfl))))))),?_⟩;refine ce (Y:=ay a K) (M:=Ia) (more:=QS) (body:=Ay) ?_ rfl rfl h;exact(a8 (aR (m7 (ix:=[]) (ju (rc (fR 0))) (by decide) iA (Ho (iV (bU (fx (aC nZ (ux (fR 0)) (fx pN)))) (bU (fx (aC z6 (fx (dm du (ux (fR 0)))) (fx pI))))) pN (rS (k:= .X) (ux (cu (rc (fR 0)) (fx pI))))))))
theorem Ht(T:Txt K mg a base):FnOk P w K mg base (d8 P w) 1 a.f_bs9 a.d_bs9 ["houses","count"] (dX (ay a K) H8 (KR (ay a K) .F) m_bs9):=by
 obtain⟨b,g_SEAT⟩:=T.g_SEAT;refine T.F_bs9.okX Pj (λ_ _ _ _=>aG) (λ_ _ _ _ _ _ _ _ d h=>?_);refine⟨_,(af (bC (PW.pt (iU (av qA (n6 (BH K rfl rfl) rfl T.z_min Gd.BJ (aa (pv 0) ac) (vh (f6 rfl g_SEAT (v:=.int 0) ⟨_,rfl⟩) Ad)) ah (aQ _)) (gv (av T1 (n6 (BI K rfl rfl) rfl T.z_max Gd.K7 (aa (pv 0) ac) (vh (f6 rfl g_SEAT (v:=.int 0) ⟨_,rfl⟩) Ad)) (pv 1) (aQ _))))) (af (gh iD rfl rfl T.mgC_NoHouse T.ek_NoHouse (aa kg ac))) aH)),?_⟩;refine aZ (Y:=ay a K) (M:=H8) (more:=QQ) (body:=Aw) ?_ rfl rfl (λ_ _ _=>dG) h;exact(cN (aR (iV (bU (fx (aC z6 (fx (Qa (ux (fR 0)) (fx pI))) (fx pI)))) (bU (fx (aC WR (fx (Qb (ux (fR 0)) (fx pI))) (fx (fF 1))))))) (ij (c:=11)) bI)
theorem Qt(T:Txt K mg a base):FnOk P w K mg base (d8 P w) 1 a.f_bt9 a.d_bt9 ["next_houses","house"] (dX (ay a K) HZ (KO (ay a K) .dp) m_bt9):=by
 obtain⟨b,g_SEAT⟩:=T.g_SEAT;refine T.F_bt9.okX zX (λ_ _ _ _=>aG) (λ_ _ _ _ _ _ _ _ c h=>?_);have gy:=Mi.gy c
 refine⟨_,(ae (aI (i:=2) zX.nd rfl (Or.inl rfl) (bQ (aa (pv 1) ac)))
  (ae (qt dJ (av m8 (b8 (aV K rfl) (pv 2) (oN jZ ah) (λ_ _=>rfl)) (f6 rfl g_SEAT (v:=.int 0) ⟨_,rfl⟩) (aQ _)) (ae (aI (i:=3) zX.nd rfl (Or.inl rfl) (b8 (aV K rfl) (pv 0) (b8 (aV K rfl) (pv 2) (oN jZ ah) (λ_ _=>rfl)) (λ_ _=>rfl)))
  (ae (bC (PW.pt (iU (av fN (pv 3) cf (aQ _)) (gv (av (jo K rfl gy) (pv 3) (pv 2) (by with_unfolding_all rfl))))) (af (aE cf)) aH)
  (af (bA (im XM XS XT cO (pv 2) (aa (pv 3) ac)))))))
  (af (aE (pv 2))))),?_⟩
 refine ce (Y:=ay a K) (M:=HZ) (more:=QP) (body:=Av) ?_ rfl rfl h
 exact(aq (c6 (i:=2) (aR (cY (ar (fF 1) a6))) rfl rfl)
  (aq (u0 100000 (aR (bU (fx (aC u4 (fx (cu (fC 2) (fx (vq oK (fx pI))))) (fx pI))))) (aq (bg (i:=3) (aR (cu (rc (fF 0)) (fx (cu (fC 2) (fx (vq oK (fx pI))))))) rfl rfl)
  (aq (cN (aR (iV (bU (fx (aC nZ (fx (fF 3)) (fx pN)))) (bU (fx (aC qm (fx (fF 3)) (cx (fC 2))))))) (a8 (aR pND)) bI)
  (b7 (fi (lu (i:=2) rfl) (fF 3))))))
  (a8 (WY (ly (i:=2) rfl)))))
theorem Fa:CompSc (ao B8) { kind:=.function,names:=[ (".0",.local),("end",.local),("row",.free)],isGenerator:=false,isCoroutine:=false,more:=[]:PySem.Scope } "end" ["row"]:=by ac_rfl
theorem Qr(T:Txt K mg a base):FnOk P w K mg base (d8 P w) 1 a.f_bv9 a.d_bv9 ["rows","ends"] (dX (ay a K) HX (KO (ay a K) (.ct .fz)) m_bv9):=by
 refine T.F_bv9.okX zW (λ_ _ _ _=>aG) (λ_ _ _ _ _ _ _ _ b h=>?_)
 refine⟨_,(ae (aI (i:=2) zW.nd rfl (Or.inl rfl) (bQ ac))
  (ae (bP dJ rfl (bx K rfl (pv 0)) (bf (i:=3) zW.nd rfl (Or.inr rfl)) (af (bA (im XM PySem.F.slot_list_extend PySem.F.type_list_extend EF (pv 2) (aa (gH rfl (bx K rfl (pv 1)) Fa (ix:=[3]) rfl (λ_ _ _ _=>fY) (λ_ _ _ _=>(aL ki (pv 1) (bQ (aa (pv 0) ac))))) ac)))))
  (af (aE (pv 2))))),?_⟩
 refine ce (Y:=ay a K) (M:=HX) (more:=QN) (body:=At) ?_ rfl rfl h
 exact(aq (c6 (i:=2) (aR (cY a6)) rfl rfl)
  (aq (cR (aR (ir (fF 0))) (.inl rfl) (sS (i:=3) rfl rfl) (b7 (Ja (lu (i:=2) rfl) (oF (gk (ix:=[3]) (ju (rc (fF 1))) (by decide) iA (oF (oP (rc (fF 1)) (oc (cY (ar (fF 0) a6))))))))))
  (a8 (ly (i:=2) rfl))))
theorem xx(T:Txt K mg a base):FnOk P w K mg base (d8 P w) 2 a.f_h9 a.d_h9 ["self","houses"] (dX (ay a K) Ov (KR (ay a K) .F) AV):=by
 refine T.F_h9.okX Ts (λ_ _ _ _=>aG) (λ_ _ _ _ _ _ _ _ b h=>?_);refine⟨_,(af (bA (az (Ht T) b.mm rfl T.m_bs9 T.F_bs9.kp T.b_bs9 .nil aN (aa (pv 1) (aa (dY K rfl (pv 0) rfl) ac))))),?_⟩;refine aZ (Y:=ay a K) (M:=Ov) (more:=UV) (body:=IU) ?_ rfl rfl (λ_ _ _=>dG) h;exact(b7 (aR (bD (ag (aU (fR 1)) (ag (aF (rS (k:= .X) (ux (qy (c:=0) T.cl_Guild T.n_house_count (rc (fR 0)))))) aJ)) rfl)))
theorem Kf:CompSc (ao L5) { kind:=.function,names:=[ (".0",.local),("far",.local),("house",.free),("shy",.free)],isGenerator:=false,isCoroutine:=false,more:=[]:PySem.Scope } "far" ["shy","house"]:=by ac_rfl
theorem NZ(T:Txt K mg a base):FnOk P w K mg base (d8 P w) 2 a.f_t9 a.d_t9 ["fond","dear","shy","house","told"] (dX (ay a K) Oh (KR (ay a K) .F) m_t9):=by
 refine T.F_t9.okX w9 (λ_ _ _ _=>aG) (λ_ _ _ _ _ _ _ _ c h=>?_);have gy:=Mi.gy c;have b:=c.u100
 refine⟨_,(ae (bC (av na (pv 3) ah (aQ _)) (af (aE (bQ (aa ah ac)))) aH)
  (ae (aI (i:=5) w9.nd rfl (Or.inl rfl) cf)
  (ae (bP dJ rfl (bx K rfl (pv 4)) (bf (i:=6) w9.nd rfl (Or.inl rfl)) (ae (bC (PW.pt (iU (av fN (pv 6) cf (aQ _)) (gv (av (jo K rfl gy) (pv 3) (pv 6) (by with_unfolding_all rfl))))) (af oM) aH)
  (ae (bC (av m9 (aT (aB K rfl) rfl T.z_len Gd.cy (aa (gH rfl (bx K rfl (pv 6)) Kf (ix:=[2,3]) rfl (λ_ _ _ _=>mX (av (jo K rfl gy) (cT (aa (pv 2) (aa (pv 0) ac))) (pv 1) (by with_unfolding_all rfl))) (λ_ _ _ _=>(pv 0))) ac)) ah (aQ _)) (af oM) aH)
  (ae (aI (i:=7) w9.nd rfl (Or.inl rfl) (aL ki (bQ (aa (pv 3) ac)) (pv 6)))
  (af (bC (PW.pt (iU (av fN (pv 5) cf (aQ _)) (gv (av (Mr K rfl b) (az (Hy T) c.mm rfl T.m_bb9 T.F_bb9.kp T.b_bb9 .nil aN (aa (pv 0) (aa (pv 1) (aa (pv 7) ac)))) (az (Hy T) c.mm rfl T.m_bb9 T.F_bb9.kp T.b_bb9 .nil aN (aa (pv 0) (aa (pv 1) (aa (pv 5) ac)))) (aQ _))))) (af (aI (i:=5) w9.nd rfl (Or.inl rfl) (pv 7))) aH))))))
  (af (aE (pv 5)))))),?_⟩
 refine aZ (Y:=ay a K) (M:=Oh) (more:=UJ) (body:=IH) ?_ rfl rfl (λ_ _ _=>dG) h
 exact(aq (cN (aR (bU (fx (aC u7 (fx (fF 3)) (fx pI))))) (a8 (aR (oF (cY (ar pI a6))))) bI)
  (aq (bg (i:=5) (aR pN) rfl rfl)
  (aq (cR (aR (iq (fR 4))) (.inr rfl) (Ln (i:=6) rfl rfl) (aq (cN (aR (iV (bU (fx (aC nZ (ux (fR 6)) (fx pN)))) (bU (fx (aC qm (fx (fF 3)) (ux (fR 6))))))) Ga bI)
  (aq (cN (aR (bU (fx (aC u5 (fx (dm du (fx (oF (m7 (ix:=[2,3]) (ju (rc (fR 6))) (by decide) (bU (fx (aC qm (fx (dI (ar (fF 2) (ar (rS (k:= .X) (ux (fR 0))) a6)))) (ux (fR 1))))) (rS (k:= .X) (ux (fR 0)))))))) (fx pI))))) Ga bI)
  (aq (bg (i:=7) (aR (oF (oP (oc (cY (ar (fF 3) a6))) (cS (k':= .F) (rc (fR 6)))))) rfl rfl)
  (cN (aR (iV (bU (fx (aC nZ (fx (fF 5)) (fx pN)))) (bU (fx (aC TM (fx (bD (ag (aU (fR 0)) (ag (aU (fR 1)) (ag (aF (fF 7)) aJ))) rfl)) (fx (bD (ag (aU (fR 0)) (ag (aU (fR 1)) (ag (aF (fF 5)) aJ))) rfl))))))) (bg (i:=5) (aR (fF 7)) rfl rfl) bI)))))
  (a8 (aR (fF 5))))))
theorem T8(T:Txt K mg a base):FnOk P w K mg base (d8 P w) 2 a.f_v9 a.d_v9 ["cell","size"] (dX (ay a K) Of (KO (ay a K) (.ct .fz)) m_v9):=by
 refine T.F_v9.okX wZ (λ_ _ _ _=>aG) (λ_ _ _ _ _ _ _ _ b h=>?_);have c:=i7 b
 refine⟨_,(ae (aI (i:=2) wZ.nd rfl (Or.inl rfl) iY)
  (ae (bC (av qA (pv 1) ah (aQ _)) (af (aE (pv 2))) aH)
  (ae (bP dJ rfl (cc rfl T.z_range (aa (aL bZ (pv 0) ah) ac)) (bf (i:=3) wZ.nd rfl (Or.inl rfl)) (ae (aI (i:=0) wZ.nd rfl (Or.inl rfl) (aL bZ (aL dL (aL n8 (pv 0) ah) ah) ah))
  (ae (aI (i:=4) wZ.nd rfl (Or.inl rfl) (az (QD T) b.mm rfl T.m_bd9 T.F_bd9.kp T.b_bd9 .nil aN (aa (aL eG (pv 0) ah) (aa (aL dL ah (aL bZ (pv 0) (aL lW (pv 1) ah))) (aa (pv 1) ac)))))
  (af (fZ c (pv 2) (dZ (dU K rfl) rfl T.z_tuple Gd.kR (aa (pv 4) ac)) (aL lW (aL bZ (aL eG (pv 0) ah) ah) ah) rfl)))))
  (af (aE (pv 2)))))),?_⟩
 refine ce (Y:=ay a K) (M:=Of) (more:=UH) (body:=IF) ?_ rfl rfl h
 exact(aq (c6 (i:=2) (aR tW) rfl rfl)
  (aq (cN (aR (bU (fx (aC z6 (fx (fF 1)) (fx pI))))) (a8 (ly (i:=2) rfl)) bI)
  (aq (cR (aR (lB (fx (aC cX (fx (fF 0)) (fx pI))))) (.inl rfl) (sS (i:=3) rfl rfl) (aq (bg (i:=0) (aR (aC cX (fx (aC ge (fx (aC tS (fx (fF 0)) (fx pI))) (fx pI))) (fx pI))) rfl rfl)
  (aq (bg (i:=4) (aR (oF (cA (ag (aF (aC gu (fx (fF 0)) (fx pI))) (ag (aF (aC ge (fx pI) (fx (aC cX (fx (fF 0)) (fx (aC qk (fx (fF 1)) (fx pI))))))) (ag (aF (fF 1)) aJ))) rfl))) rfl rfl)
  (iz (lu (i:=2) rfl) (fx (m6 (rc (fF 4)))) (aR (aC qk (fx (aC cX (fx (aC gu (fx (fF 0)) (fx pI))) (fx pI))) (fx pI)))))))
  (a8 (ly (i:=2) rfl)))))
theorem QC(T:Txt K mg a base):FnOk P w K mg base (d8 P w) 2 a.f_be9 a.d_be9 ["ways","size"] (dX (ay a K) Iq (KR (ay a K) .F) m_be9):=by
 refine T.F_be9.okX lT (λ_ _ _ _=>aG) (λ_ _ _ _ _ _ _ _ b h=>?_)
 refine⟨_,(ae (aI (i:=2) lT.nd rfl (Or.inl rfl) (bQ (aa (bQ (aa cf ac)) ac)))
  (ae (bP dJ rfl (gL rfl T.z_range (aa ah (aa (pv 1) ac))) (bf (i:=3) lT.nd rfl (Or.inl rfl)) (ae (aI (i:=4) lT.nd rfl (Or.inl rfl) (bQ ac))
  (ae (bP dJ rfl (bx K rfl (pv 2)) (bf (i:=5) lT.nd rfl (Or.inl rfl)) (af (bP dJ rfl (bx K rfl (aL ki (bQ (aa cf ac)) (az (vA T) b.mm rfl T.m_bk9 T.F_bk9.kp T.b_bk9 .nil aN (aa (pv 0) (aa (pv 1) (aa (pv 3) ac)))))) (bf (i:=6) lT.nd rfl (Or.inl rfl)) (af (bA (im XM XS XT cO (pv 4) (aa (aL ki (pv 5) (bQ (aa (pv 6) ac))) ac)))))))
  (af (aI (i:=2) lT.nd rfl (Or.inl rfl) (pv 4))))))
  (af (aE (pv 2))))),?_⟩
 refine aZ (Y:=ay a K) (M:=Iq) (more:=Q4) (body:=AM) ?_ rfl rfl (λ_ _ _=>dG) h
 exact(aq (bg (i:=2) (aR (oF (cY (ar (oF (cY (ar pN a6))) a6)))) rfl rfl)
  (aq (cR (aR (EY (fx pI) (fx (fF 1)))) (.inl rfl) (sS (i:=3) rfl rfl) (aq (c6 (i:=4) (aR (cY a6)) rfl rfl)
  (aq (cR (aR (ir (fF 2))) (.inl rfl) (sS (i:=5) rfl rfl) (cR (aR (ir (oF (oP (oc (cY (ar pN a6))) (oc (cA (ag (aU (fR 0)) (ag (aF (fF 1)) (ag (aF (fF 3)) aJ))) rfl)))))) (.inl rfl) (sS (i:=6) rfl rfl) (b7 (fi (lu (i:=4) rfl) (oF (oP (rc (fF 5)) (oc (cY (ar (fF 6) a6)))))))))
  (bg (i:=2) (WX (ly (i:=4) rfl)) rfl rfl))))
  (a8 (aR (fF 2)))))
theorem Hw(T:Txt K mg a base):FnOk P w K mg base (d8 P w) 2 a.f_bf9 a.d_bf9 ["found","due"] (dX (ay a K) Io (KR (ay a K) .F) m_bf9):=by
 refine T.F_bf9.okX F3 (λ_ _ _ _=>aG) (λ_ _ _ _ _ _ _ _ c h=>?_);have b:=c.units
 refine⟨_,(ae (bC (av fN (pv 1) cf (aQ _)) (af (aE (vn fN (pv 0) cf (aQ _)))) aH)
  (ae (bC (PW.pt (iU (fL (fe (aT (gN K rfl) rfl T.z_isinstance Gd.da (aa (pv 0) (aa (kY rfl T.z_list Gd.jK (v:=.ty "list") rfl) ac))))) (gv (av m8 (aT (aB K rfl) rfl T.z_len Gd.cy (aa (pv 0) ac)) (aT (aB K rfl) rfl T.z_len Gd.cy (aa (pv 1) ac)) (aQ _))))) (af (aE dH)) aH)
  (ae (bP dJ rfl (bx K rfl (pv 0)) (bf (i:=2) F3.nd rfl (Or.inl rfl)) (af (bC (fL (fe (az (Qx T) c.mm rfl T.m_bo9 T.F_bo9.kp T.b_bo9 .nil aN (aa (pv 2) ac)))) (af (aE dH)) aH)))
  (af (aE (vn (vz K rfl b) (pv 0) (pv 1) (aQ _))))))),?_⟩
 refine aZ (Y:=ay a K) (M:=Io) (more:=Q3) (body:=AK) ?_ rfl rfl (λ_ _ _=>dG) h
 exact(aq (cN (aR (bU (fx (aC nZ (ux (fR 1)) (fx pN))))) (a8 (aR (aC nZ (ux (fR 0)) (fx pN)))) bI)
  (aq (cN (aR (iV (eF (lv (fx (oO tT (ux (fR 0)) (fx pT))))) (bU (fx (aC u4 (fx (dm du (ux (fR 0)))) (fx (dm du (ux (fR 1))))))))) (a8 (aR pB)) bI)
  (aq (cR (aR (iq (fR 0))) (.inr rfl) (Ln (i:=2) rfl rfl) (cN (aR (eF (lv (fx (bD (ag (aF (rS (k:= .X) (ux (fR 2)))) aJ) rfl))))) (a8 (aR pB)) bI))
  (a8 (aR (aC qo (ux (fR 0)) (ux (fR 1))))))))
theorem Qw(T:Txt K mg a base):FnOk P w K mg base (d8 P w) 2 a.f_bp9 a.d_bp9 ["guild","house","road"] (dX (ay a K) Ib (KR (ay a K) .F) m_bp9):=by
 obtain⟨b,g_SEAT⟩:=T.g_SEAT;refine T.F_bp9.okX Pl (λ_ _ _ _=>aG) (λ_ _ _ _ _ _ _ _ d h=>?_);have gy:=Mi.gy d
 refine⟨_,(ae (bC (PW.pt (iU (av fN (pv 2) cf (aQ _)) (iU (av na (pv 1) (f6 rfl g_SEAT (v:=.int 0) ⟨_,rfl⟩) (aQ _)) (gv (av (jo K rfl gy) (pv 1) (pv 2) (by with_unfolding_all rfl)))))) (af (aE dH)) aH)
  (af (aE (Ae (cz (pv 0) T.cl_Guild T.me_l9 (Ug T) d.mm T.b_l9 .nil aN (aa (pv 1) (aa (pv 2) ac))))))),?_⟩
 refine aZ (Y:=ay a K) (M:=Ib) (more:=QT) (body:=Az) ?_ rfl rfl (λ_ _ _=>dG) h
 exact(aq (cN (aR (iV (bU (fx (aC nZ (ux (fR 2)) (fx pN)))) (iV (bU (fx (aC u7 (fx (fF 1)) (fx pI)))) (bU (fx (aC qm (fx (fF 1)) (ux (fR 2)))))))) (a8 (aR pB)) bI)
  (a8 (aR (Hj (fx (d9 (c:=0) (aU (fR 0)) (ag (aF (fF 1)) (ag (aU (fR 2)) aJ)) rfl))))))
theorem Qu(T:Txt K mg a base):FnOk P w K mg base (d8 P w) 2 a.f_br9 a.d_br9 ["told","count"] (dX (ay a K) H9 (KR (ay a K) .F) m_br9):=by
 refine T.F_br9.okX F0 (λ_ _ _ _=>aG) (λ_ _ _ _ _ _ _ _ b h=>?_);refine⟨_,(af (bP dJ rfl (bx K rfl (pv 0)) (bf (i:=2) F0.nd rfl (Or.inl rfl)) (af (bC (av vw (pv 2) cf (aQ _)) (af (bA (az (Ht T) b.mm rfl T.m_bs9 T.F_bs9.kp T.b_bs9 .nil aN (aa (pv 2) (aa (pv 1) ac))))) aH)))),?_⟩;refine aZ (Y:=ay a K) (M:=H9) (more:=QR) (body:=Ax) ?_ rfl rfl (λ_ _ _=>dG) h;exact(cR (aR (iq (fR 0))) (.inr rfl) (Ln (i:=2) rfl rfl) (cN (aR (bU (fx (aC F9 (ux (fR 2)) (fx pN))))) (b7 (aR (bD (ag (aU (fR 2)) (ag (aF (fF 1)) aJ)) rfl))) bI))
theorem E9:CompSc (ao xc) (Gd.f7 (Gd.lE (Gd.nth (dh xc) 0))) "house" ["next_houses"]:=by ac_rfl
theorem Qp(T:Txt K mg a base):FnOk P w K mg base (d8 P w) 2 a.f_by9 a.d_by9 ["next_houses"] (dX (ay a K) HU (KO (ay a K) (.ct .dp)) m_by9):=by
 refine T.F_by9.okX Ph (λ_ _ _ _=>aG) (λ_ _ _ _ _ _ _ _ b h=>?_);refine⟨_,(af (aE (gH rfl (cc rfl T.z_range (aa (aT (aB K rfl) rfl T.z_len Gd.cy (aa (pv 0) ac)) ac)) E9 (ix:=[0]) rfl (λ_ _ _ _=>fY) (λ_ _ _ _=>(az (Qt T) b.mm rfl T.m_bt9 T.F_bt9.kp T.b_bt9 .nil xt (aa (pv 1) (aa (pv 0) ac))))))),?_⟩;refine ce (Y:=ay a K) (M:=HU) (more:=QK) (body:=Ao) ?_ rfl rfl h;exact(a8 (aR (Hq (ix:=[0]) (lB (fx (dm du (fx (fF 0))))) (by decide) iA (cA (ag (aF (fF 1)) (ag (aF (fF 0)) aJ)) rfl))))
theorem N7(T:Txt K mg a base):FnOk P w K mg base (d8 P w) 3 a.f_d9 a.d_d9 ["self","a","b","rank"] (dX (ay a K) OA (KR (ay a K) .F) MH):=by
 refine T.F_d9.okX Tv (λ_ _ _ _=>aG) (λ_ _ _ _ _ _ _ _ b h=>?_);have d:=i7 b
 refine⟨_,(ae (bA (cz (pv 0) T.cl_Guild T.me_h9 (xx T) b.mm T.b_h9 .nil aN (aa (bQ (aa (pv 1) (aa (pv 2) ac))) ac)))
  (af (fZ d (dY K rfl (pv 0) rfl) (cT (aa (pv 1) (aa (pv 2) ac))) (pv 3) rfl))),?_⟩
 refine aZ (Y:=ay a K) (M:=OA) (more:=UZ) (body:=IY) ?_ rfl rfl (λ_ _ _=>dG) h
 exact(aq (b7 (aR (d9 (c:=0) (aX (fO 0)) (ag (aF (oF (cY (ar (fF 1) (ar (fF 2) a6))))) aJ) rfl)))
  (iz (Ha (c:=0) (i:=0) T.cl_Guild T.n_likings rfl rfl) (fx (dI (ar (fF 1) (ar (fF 2) a6)))) (aR (fF 3))))
theorem Uj(T:Txt K mg a base):FnOk P w K mg base (d8 P w) 3 a.f_e9 a.d_e9 ["self","a","b"] (dX (ay a K) Oz (KR (ay a K) .F) Rj):=by
 refine T.F_e9.okX Tu (λ_ _ _ _=>aG) (λ_ _ _ _ _ _ _ _ b h=>?_);have d:=i7 b
 refine⟨_,(ae (bA (cz (pv 0) T.cl_Guild T.me_h9 (xx T) b.mm T.b_h9 .nil aN (aa (bQ (aa (pv 1) (aa (pv 2) ac))) ac)))
  (af (aE (xr d (dY K rfl (pv 0) rfl) (cT (aa (pv 1) (aa (pv 2) ac))) ah ⟨rfl,rfl,rfl,rfl⟩)))),?_⟩
 refine aZ (Y:=ay a K) (M:=Oz) (more:=UY) (body:=IX) ?_ rfl rfl (λ_ _ _=>dG) h
 exact(aq (b7 (aR (d9 (c:=0) (aU (fR 0)) (ag (aF (oF (cY (ar (fF 1) (ar (fF 2) a6))))) aJ) rfl)))
  (a8 (aR (rS (k:= .X) (ux (CM (rc (qy (c:=0) T.cl_Guild T.n_likings (rc (fR 0)))) (fx (dI (ar (fF 1) (ar (fF 2) a6)))) (fu pI)))))))
theorem N6(T:Txt K mg a base):FnOk P w K mg base (d8 P w) 3 a.f_f9 a.d_f9 ["self","a"] (dX (ay a K) Oy (KO (ay a K) (.ct .fz)) MG):=by
 refine T.F_f9.okX Tt (λ_ _ _ _=>aG) (λ_ _ _ _ _ _ _ _ b h=>?_)
 refine⟨_,(ae (bA (cz (pv 0) T.cl_Guild T.me_h9 (xx T) b.mm T.b_h9 .nil aN (aa (bQ (aa (pv 1) ac)) ac)))
  (af (aE (cz (pv 0) T.cl_Guild T.me_b9 (Ul T) b.mm T.b_b9 .nil aN (aa (dY K rfl (pv 0) rfl) (aa (pv 1) ac)))))),?_⟩
 refine ce (Y:=ay a K) (M:=Oy) (more:=UX) (body:=IW) ?_ rfl rfl h
 exact(aq (b7 (aR (d9 (c:=0) (aU (fR 0)) (ag (aF (oF (cY (ar (fF 1) a6)))) aJ) rfl)))
  (a8 (aR (vg (c:=0) (aU (fR 0)) (ag (aU (qy (c:=0) T.cl_Guild T.n_ways (rc (fR 0)))) (ag (aF (fF 1)) aJ)) rfl))))
theorem N5(T:Txt K mg a base):FnOk P w K mg base (d8 P w) 3 a.f_i9 a.d_i9 ["self","road"] (dX (ay a K) Ou (KR (ay a K) .F) MF):=by
 obtain⟨b,g_SEAT⟩:=T.g_SEAT;refine T.F_i9.okX Tr (λ_ _ _ _=>aG) (λ_ _ _ _ _ _ _ _ d h=>?_)
 refine⟨_,(ae (bA (cz (pv 0) T.cl_Guild T.me_h9 (xx T) d.mm T.b_h9 .nil aN (aa (pv 1) ac)))
  (ae (bC (av qA (aT (aB K rfl) rfl T.z_len Gd.cy (aa (pv 1) ac)) ah (aQ _)) (af (gh iD rfl rfl T.mgC_NoRoad T.ek_NoRoad (aa kg ac))) aH)
  (ae (bC (av m8 (b8 (aV K rfl) (pv 1) (oN jZ ah) (λ_ _=>rfl)) (f6 rfl g_SEAT (v:=.int 0) ⟨_,rfl⟩) (aQ _)) (af (gh iD rfl rfl T.mgC_NoRoad T.ek_NoRoad (aa kg ac))) aH)
  (af (bC (av m8 (aT Fi rfl T.z_len Gd.cy (aa (dZ (BF K rfl rfl) rfl T.z_set Gd.SD (aa (pv 1) ac)) ac)) (aT (aB K rfl) rfl T.z_len Gd.cy (aa (pv 1) ac)) (aQ _)) (af (gh iD rfl rfl T.mgC_NoRoad T.ek_NoRoad (aa kg ac))) aH))))),?_⟩
 refine aZ (Y:=ay a K) (M:=Ou) (more:=UU) (body:=IT) ?_ rfl rfl (λ_ _ _=>dG) h
 exact(aq (b7 (aR (d9 (c:=0) (aU (fR 0)) (ag (aU (fR 1)) aJ) rfl)))
  (aq (cN (aR (bU (fx (aC z6 (fx (dm du (ux (fR 1)))) (fx pI))))) (ij (c:=14)) bI)
  (aq (cN (aR (bU (fx (aC u4 (ux (cu (rc (fR 1)) (fx (vq oK (fx pI))))) (fx pI))))) (ij (c:=14)) bI)
  (cN (aR (bU (fx (aC u4 (fx (Hl (ux (fR 1)))) (fx (dm du (ux (fR 1)))))))) (ij (c:=14)) bI))))
theorem N0(T:Txt K mg a base):FnOk P w K mg base (d8 P w) 3 a.f_j9 a.d_j9 ["self","a","b"] (dX (ay a K) Ot (KR (ay a K) .F) ME):=by
 refine T.F_j9.okX Tq (λ_ _ _ _=>aG) (λ_ _ _ _ _ _ _ _ b h=>?_)
 refine⟨_,(ae (bA (cz (pv 0) T.cl_Guild T.me_h9 (xx T) b.mm T.b_h9 .nil aN (aa (bQ (aa (pv 1) (aa (pv 2) ac))) ac)))
  (af (bC (av na (pv 1) (pv 2) (aQ _)) (af (gh iD rfl rfl T.mgC_NoHouse T.ek_NoHouse (aa kg ac))) aH))),?_⟩
 refine aZ (Y:=ay a K) (M:=Ot) (more:=UT) (body:=IS) ?_ rfl rfl (λ_ _ _=>dG) h
 exact(aq (b7 (aR (d9 (c:=0) (aU (fR 0)) (ag (aF (oF (cY (ar (fF 1) (ar (fF 2) a6))))) aJ) rfl)))
  (cN (aR (bU (fx (aC u7 (fx (fF 1)) (fx (fF 2)))))) (ij (c:=11)) bI))
theorem Ke:CompSc (ao Ew) { kind:=.function,names:=[(".0",.local),("house",.local)],isGenerator:=false,isCoroutine:=false,more:=[]:PySem.Scope } "house" []:=by ac_rfl
theorem Kb:CompSc (ao Ew) (Gd.f7 (Gd.lE (Gd.nth (Gd.qe (Gd.nth (Gd.qe (Gd.nth (dh Ew) 1)) 1)) 0))) "b" ["table"]:=by ac_rfl
theorem T4(T:Txt K mg a base):FnOk P w K mg base (d8 P w) 3 a.f_z9 a.d_z9 ["ways","said","size"] (dX (ay a K) Oa (KR (ay a K) .F) m_z9):=by
 refine T.F_z9.okX qi (λ_ _ _ _=>aG) (λ_ _ _ _ _ _ _ _ b h=>?_)
 refine⟨_,(ae (aI (i:=3) qi.nd rfl (Or.inr rfl) (aL ki (bQ (aa (bQ (aa ah ac)) ac)) (gH rfl (gL rfl T.z_range (aa ah (aa (pv 2) ac))) Ke (ix:=[]) rfl (λ_ _ _ _=>fY) (λ_ _ _ _=>cf))))
  (ae (bP dJ rfl (cc rfl T.z_range (aa ah ac)) (bf (i:=4) qi.nd rfl (Or.inl rfl)) (ae (aI (i:=5) qi.nd rfl (Or.inl rfl) (bQ ac))
  (ae (bP dJ rfl (cc rfl T.z_range (aa (pv 2) ac)) (bf (i:=6) qi.nd rfl (Or.inl rfl)) (ae (fM (i:=7) rfl qi.nd rfl (.inl rfl) (bx K rfl (az (vA T) b.mm rfl T.m_bk9 T.F_bk9.kp T.b_bk9 .nil aN (aa (pv 0) (aa (pv 2) (aa (pv 6) ac))))) Kb (ix:=[3]) rfl (λ_ _ _ _=>fY) (λ_ _ _ _=>(b8 (aV K rfl) (pv 1) (pv 0) (λ_ _=>rfl))))
  (af (bA (im XM XS XT cO (pv 5) (aa (az (NZ T) b.mm rfl T.m_t9 T.F_t9.kp T.b_t9 .nil aN (aa (b8 (aV K rfl) (pv 1) ah (λ_ _=>rfl)) (aa (b8 (aV K rfl) (pv 1) ah (λ_ _=>rfl)) (aa (b8 (aV K rfl) (pv 1) ah (λ_ _=>rfl)) (aa (pv 6) (aa (pv 7) ac)))))) ac))))))
  (af (aI (i:=3) qi.nd rfl (Or.inr rfl) (pv 5))))))
  (af (aE (pv 3))))),?_⟩
 refine aZ (Y:=ay a K) (M:=Oa) (more:=UD) (body:=IB) ?_ rfl rfl (λ_ _ _=>dG) h
 exact(aq (bg (i:=3) (aR (oF (oP (oc (cY (ar (oF (cY (ar pI a6))) a6))) (oc (gk (ix:=[]) (EY (fx pI) (fx (fF 2))) (by decide) iA pN))))) rfl rfl)
  (aq (cR (aR (lB (fx pI))) (.inl rfl) (sS (i:=4) rfl rfl) (aq (c6 (i:=5) (aR (cY a6)) rfl rfl)
  (aq (cR (aR (lB (fx (fF 2)))) (.inl rfl) (sS (i:=6) rfl rfl) (aq (bg (i:=7) (aR (oF (gk (ix:=[3]) (ju (oc (cA (ag (aU (fR 0)) (ag (aF (fF 2)) (ag (aF (fF 6)) aJ))) rfl))) (by decide) iA (cu (rc (fF 1)) (fx (fF 0)))))) rfl rfl)
  (b7 (fi (lu (i:=5) rfl) (bD (ag (aU (cu (rc (fR 1)) (fx pI))) (ag (aU (cu (rc (fR 1)) (fx pI))) (ag (aU (cu (rc (fR 1)) (fx pI))) (ag (aF (fF 6)) (ag (aF (fF 7)) aJ))))) rfl)))))
  (bg (i:=3) (WX (ly (i:=5) rfl)) rfl rfl))))
  (a8 (aR (fF 3)))))
theorem Hv(T:Txt K mg a base):FnOk P w K mg base (d8 P w) 3 a.f_bg9 a.d_bg9 ["found","due"] (dX (ay a K) Im (KR (ay a K) .F) m_bg9):=by
 refine T.F_bg9.okX F2 (λ_ _ _ _=>aG) (λ_ _ _ _ _ _ _ _ b h=>?_)
 refine⟨_,(ae (bC (PW.pt (iU (fL (fe (aT (gN K rfl) rfl T.z_isinstance Gd.da (aa (pv 0) (aa (kY rfl T.z_list Gd.jK (v:=.ty "list") rfl) ac))))) (gv (av m8 (aT (aB K rfl) rfl T.z_len Gd.cy (aa (pv 0) ac)) (aT (aB K rfl) rfl T.z_len Gd.cy (aa (pv 1) ac)) (aQ _))))) (af (aE dH)) aH)
  (ae (bP dJ rfl (cc rfl T.z_range (aa (aT (aB K rfl) rfl T.z_len Gd.cy (aa (pv 1) ac)) ac)) (bf (i:=2) F2.nd rfl (Or.inl rfl)) (af (bC (fL (fe (az (Hw T) b.mm rfl T.m_bf9 T.F_bf9.kp T.b_bf9 .nil aN (aa (b8 (aV K rfl) (pv 0) (pv 2) (λ_ _=>rfl)) (aa (b8 (aV K rfl) (pv 1) (pv 2) (λ_ _=>rfl)) ac))))) (af (aE dH)) aH)))
  (af (aE dH)))),?_⟩
 refine aZ (Y:=ay a K) (M:=Im) (more:=Q2) (body:=AI) ?_ rfl rfl (λ_ _ _=>dG) h
 exact(aq (cN (aR (iV (eF (lv (fx (oO tT (ux (fR 0)) (fx pT))))) (bU (fx (aC u4 (fx (dm du (ux (fR 0)))) (fx (dm du (ux (fR 1))))))))) (a8 (aR pB)) bI)
  (aq (cR (aR (lB (fx (dm du (ux (fR 1)))))) (.inl rfl) (sS (i:=2) rfl rfl) (cN (aR (eF (lv (fx (bD (ag (aU (cu (rc (fR 0)) (fx (fF 2)))) (ag (aU (cu (rc (fR 1)) (fx (fF 2)))) aJ)) rfl))))) (a8 (aR pB)) bI))
  (a8 (aR pB))))
theorem Fd:CompSc (ao xh) (Gd.f7 (Gd.lE (Gd.nth (Gd.qe (Gd.nth (dh xh) 0)) 0))) "b" ["table"]:=by ac_rfl
theorem Ah(T:Txt K mg a base):FnOk P w K mg base (d8 P w) 3 a.f_bh9 a.d_bh9 ["ways","said","table"] (dX (ay a K) Il (KR (ay a K) .F) m_bh9):=by
 refine T.F_bh9.okX zY (λ_ _ _ _=>aG) (λ_ _ _ _ _ _ _ _ c h=>?_);have b:=c.units
 refine⟨_,(ae (bP dJ rfl (cc rfl T.z_range (aa (aT (aB K rfl) rfl T.z_len Gd.cy (aa (pv 2) ac)) ac)) (bf (i:=3) zY.nd rfl (Or.inl rfl)) (ae (fM (i:=4) rfl zY.nd rfl (.inl rfl) (bx K rfl (az (vA T) c.mm rfl T.m_bk9 T.F_bk9.kp T.b_bk9 .nil aN (aa (pv 0) (aa (aT (aB K rfl) rfl T.z_len Gd.cy (aa (pv 2) ac)) (aa (pv 3) ac))))) Fd (ix:=[2]) rfl (λ_ _ _ _=>fY) (λ_ _ _ _=>(b8 (aV K rfl) (pv 1) (pv 0) (λ_ _=>rfl))))
  (af (bC (av (CN K rfl b) (az (NZ T) c.mm rfl T.m_t9 T.F_t9.kp T.b_t9 .nil aN (aa (b8 (aV K rfl) (pv 1) ah (λ_ _=>rfl)) (aa (b8 (aV K rfl) (pv 1) ah (λ_ _=>rfl)) (aa (b8 (aV K rfl) (pv 1) ah (λ_ _=>rfl)) (aa (pv 3) (aa (pv 4) ac)))))) (b8 (aV K rfl) (pv 2) (pv 3) (λ_ _=>rfl)) (aQ _)) (af (aE dH)) aH))))
  (af (aE dH))),?_⟩
 refine aZ (Y:=ay a K) (M:=Il) (more:=Q1) (body:=AH) ?_ rfl rfl (λ_ _ _=>dG) h
 exact(aq (cR (aR (lB (fx (dm du (ux (fR 2)))))) (.inl rfl) (sS (i:=3) rfl rfl) (aq (F4 (i:=4) (aR (xu (ix:=[2]) (ju (oc (cA (ag (aU (fR 0)) (ag (aF (dm du (ux (fR 2)))) (ag (aF (fF 3)) aJ))) rfl))) (by decide) iA (cu (rc (fR 1)) (fx (fF 0))))) rfl rfl)
  (cN (aR (bU (fx (aC qo (fx (bD (ag (aU (cu (rc (fR 1)) (fx pI))) (ag (aU (cu (rc (fR 1)) (fx pI))) (ag (aU (cu (rc (fR 1)) (fx pI))) (ag (aF (fF 3)) (ag (aU (fR 4)) aJ))))) rfl)) (ux (cu (rc (fR 2)) (fx (fF 3)))))))) (a8 (aR pB)) bI)))
  (a8 (aR pB)))
theorem QA(T:Txt K mg a base):FnOk P w K mg base (d8 P w) 3 a.f_bj9 a.d_bj9 ["table","size"] (dX (ay a K) Ij (KR (ay a K) .F) m_bj9):=by
 refine T.F_bj9.okX F1 (λ_ _ _ _=>aG) (λ_ _ _ _ _ _ _ _ b h=>?_)
 refine⟨_,(ae (bC (PW.pt (iU (fL (fe (aT (gN K rfl) rfl T.z_isinstance Gd.da (aa (pv 0) (aa (kY rfl T.z_list Gd.jK (v:=.ty "list") rfl) ac))))) (gv (av m8 (aT (aB K rfl) rfl T.z_len Gd.cy (aa (pv 0) ac)) (pv 1) (aQ _))))) (af (aE dH)) aH)
  (ae (bP dJ rfl (bx K rfl (pv 0)) (bf (i:=2) F1.nd rfl (Or.inl rfl)) (af (bC (PW.pt (lU (av vw (pv 2) cf (aQ _)) (jn (fL (fe (az (Hw T) b.mm rfl T.m_bf9 T.F_bf9.kp T.b_bf9 .nil aN (aa (pv 2) (aa (pv 2) ac)))))))) (af (aE dH)) aH)))
  (af (aE dH)))),?_⟩
 refine aZ (Y:=ay a K) (M:=Ij) (more:=QZ) (body:=AF) ?_ rfl rfl (λ_ _ _=>dG) h
 exact(aq (cN (aR (iV (eF (lv (fx (oO tT (ux (fR 0)) (fx pT))))) (bU (fx (aC u4 (fx (dm du (ux (fR 0)))) (fx (fF 1))))))) (a8 (aR pB)) bI)
  (aq (cR (aR (iq (fR 0))) (.inr rfl) (Ln (i:=2) rfl rfl) (cN (aR (lV (bU (fx (aC F9 (ux (fR 2)) (fx pN)))) (eF (lv (fx (bD (ag (aU (fR 2)) (ag (aU (fR 2)) aJ)) rfl)))))) (a8 (aR pB)) bI))
  (a8 (aR pB))))
theorem Uk(T:Txt K mg a base):FnOk P w K mg base (d8 P w) 4 a.f_c9 a.d_c9 ["self","a","b"] (dX (ay a K) OB (KR (ay a K) .F) Rk):=by
 refine T.F_c9.okX Tw (λ_ _ _ _=>aG) (λ_ _ _ _ _ _ _ _ d h=>?_);have b:=i7 d
 refine⟨_,(ae (bA (cz (pv 0) T.cl_Guild T.me_j9 (N0 T) d.mm T.b_j9 .nil aN (aa (pv 1) (aa (pv 2) ac))))
  (ae (bC (Ac (vp b (cT (aa (pv 1) (aa (pv 2) ac))) (dY K rfl (pv 0) rfl))) (af (gh iD rfl rfl T.mgC_WayThere T.ek_WayThere (aa kg ac))) aH)
  (ae (fZ b (dY K rfl (pv 0) rfl) (cT (aa (pv 1) (aa (pv 2) ac))) dH rfl)
  (af (fZ b (dY K rfl (pv 0) rfl) (cT (aa (pv 2) (aa (pv 1) ac))) dH rfl))))),?_⟩
 refine aZ (Y:=ay a K) (M:=OB) (more:=U0) (body:=IZ) ?_ rfl rfl (λ_ _ _=>dG) h
 exact(aq (b7 (aR (d9 (c:=0) (aX (fO 0)) (ag (aF (fF 1)) (ag (aF (fF 2)) aJ)) rfl)))
  (aq (cN (aR (lv (fx (CL (fx (dI (ar (fF 1) (ar (fF 2) a6)))) (Qh (c:=0) (i:=0) T.cl_Guild T.n_ways rfl rfl))))) (ij (c:=13)) bI)
  (aq (iz (Ha (c:=0) (i:=0) T.cl_Guild T.n_ways rfl rfl) (fx (dI (ar (fF 1) (ar (fF 2) a6)))) (aR pB))
  (iz (Ha (c:=0) (i:=0) T.cl_Guild T.n_ways rfl rfl) (fx (dI (ar (fF 2) (ar (fF 1) a6)))) (aR pB)))))
theorem Ui(T:Txt K mg a base):FnOk P w K mg base (d8 P w) 4 a.f_g9 a.d_g9 ["self","road"] (dX (ay a K) Ox (KR (ay a K) .F) Ri):=by
 refine T.F_g9.okX NQ (λ_ _ _ _=>aG) (λ_ _ _ _ _ _ _ _ b h=>?_);have d:=i7 b
 refine⟨_,(ae (bA (cz (pv 0) T.cl_Guild T.me_i9 (N5 T) b.mm T.b_i9 .nil aN (aa (pv 1) ac)))
  (ae (aI (i:=2) NQ.nd rfl (Or.inl rfl) (Hi d (dY K rfl (pv 0) rfl) (dZ (dU K rfl) rfl T.z_tuple Gd.kR (aa (pv 1) ac)) ⟨rfl,rfl,rfl,rfl⟩))
  (ae (bC (av fN (pv 2) cf (aQ _)) (af (aE (cz (pv 0) T.cl_Guild T.me_e9 (Uj T) b.mm T.b_e9 .nil aN (aa (b8 (aV K rfl) (pv 1) ah (λ_ _=>rfl)) (aa (b8 (aV K rfl) (pv 1) ah (λ_ _=>rfl)) ac))))) aH)
  (af (aE (pv 2)))))),?_⟩
 refine aZ (Y:=ay a K) (M:=Ox) (more:=UW) (body:=IV) ?_ rfl rfl (λ_ _ _=>dG) h
 exact(aq (b7 (aR (d9 (c:=0) (aU (fR 0)) (ag (aU (fR 1)) aJ) rfl)))
  (aq (bg (i:=2) (aR (rS (k:= .X) (ux (Mp (rc (qy (c:=0) T.cl_Guild T.n_wish_ranks (rc (fR 0)))) (fx (m6 (cS (k':= .F) (rc (fR 1))))))))) rfl rfl)
  (aq (cN (aR (bU (fx (aC nZ (fx (fF 2)) (fx pN))))) (a8 (aR (d9 (c:=0) (aU (fR 0)) (ag (aF (rS (k:= .X) (ux (cu (rc (fR 1)) (fx pI))))) (ag (aF (rS (k:= .X) (ux (cu (rc (fR 1)) (fx pI))))) aJ)) rfl))) bI)
  (a8 (aR (fF 2))))))
theorem Uh(T:Txt K mg a base):FnOk P w K mg base (d8 P w) 4 a.f_k9 a.d_k9 ["self","a","b"] (dX (ay a K) Os (KR (ay a K) .F) Rh):=by
 refine T.F_k9.okX To (λ_ _ _ _=>aG) (λ_ _ _ _ _ _ _ _ b h=>?_);have d:=i7 b
 refine⟨_,(ae (bA (cz (pv 0) T.cl_Guild T.me_j9 (N0 T) b.mm T.b_j9 .nil aN (aa (pv 1) (aa (pv 2) ac))))
  (af (fZ d (dY K rfl (pv 0) rfl) (cT (aa (pv 1) (aa (pv 2) ac))) dH rfl))),?_⟩
 refine aZ (Y:=ay a K) (M:=Os) (more:=US) (body:=IR) ?_ rfl rfl (λ_ _ _=>dG) h
 exact(aq (b7 (aR (d9 (c:=0) (aX (fO 0)) (ag (aF (fF 1)) (ag (aF (fF 2)) aJ)) rfl)))
  (iz (Ha (c:=0) (i:=0) T.cl_Guild T.n_shuns rfl rfl) (fx (dI (ar (fF 1) (ar (fF 2) a6)))) (aR pB)))
theorem Uf(T:Txt K mg a base):FnOk P w K mg base (d8 P w) 4 a.f_n9 a.d_n9 ["self","road","rank"] (dX (ay a K) Oo (KR (ay a K) .F) Re):=by
 refine T.F_n9.okX Tk (λ_ _ _ _=>aG) (λ_ _ _ _ _ _ _ _ b h=>?_);have d:=i7 b
 refine⟨_,(ae (bA (cz (pv 0) T.cl_Guild T.me_i9 (N5 T) b.mm T.b_i9 .nil aN (aa (pv 1) ac)))
  (af (fZ d (dY K rfl (pv 0) rfl) (dZ (dU K rfl) rfl T.z_tuple Gd.kR (aa (pv 1) ac)) (pv 2) rfl))),?_⟩
 refine aZ (Y:=ay a K) (M:=Oo) (more:=UP) (body:=IN) ?_ rfl rfl (λ_ _ _=>dG) h
 exact(aq (b7 (aR (d9 (c:=0) (aX (fO 0)) (ag (aU (fR 1)) aJ) rfl)))
  (iz (Ha (c:=0) (i:=0) T.cl_Guild T.n_wish_ranks rfl rfl) (fx (m6 (cS (k':= .F) (rc (fR 1))))) (aR (fF 2))))
theorem Kh:CompSc (ao Ey) (Gd.f7 (Gd.lE (Gd.nth (Gd.qe (Gd.nth (dh Ey) 1)) 0))) "house" ["row"]:=by ac_rfl
theorem Kg:CompSc (ao Ey) { kind:=.function,names:=[(".0",.local),("step",.local)],isGenerator:=false,isCoroutine:=false,more:=[]:PySem.Scope } "step" []:=by ac_rfl
theorem T9(T:Txt K mg a base):FnOk P w K mg base (d8 P w) 4 a.f_s9 a.d_s9 ["ways","said","size"] (dX (ay a K) Oi (KO (ay a K) (.ct .fz)) m_s9):=by
 refine T.F_s9.okX B6 (λ_ _ _ _=>aG) (λ_ _ _ _ _ _ _ _ c h=>?_);have b:=c.units
 refine⟨_,(ae (aI (i:=3) B6.nd rfl (Or.inl rfl) (bQ ac))
  (ae (bP dJ rfl (bx K rfl (az (QC T) c.mm rfl T.m_be9 T.F_be9.kp T.b_be9 .nil aN (aa (pv 0) (aa (pv 2) ac)))) (bf (i:=4) B6.nd rfl (Or.inr rfl)) (ae (fM (i:=5) rfl B6.nd rfl (.inl rfl) (cc rfl T.z_range (aa (pv 2) ac)) Kh (ix:=[4]) rfl (λ_ _ _ _=>fY) (λ_ _ _ _=>(az (T6 T) c.mm rfl T.m_x9 T.F_x9.kp T.b_x9 .nil xt (aa (pv 1) (aa (pv 0) ac)))))
  (af (bC (PW.pt (lU (fe (az (Ah T) c.mm rfl T.m_bh9 T.F_bh9.kp T.b_bh9 .nil aN (aa (pv 0) (aa (pv 1) (aa (pv 5) ac))))) (jn (av (vz K rfl b) (az (Ai T) c.mm rfl T.m_bc9 T.F_bc9.kp T.b_bc9 .nil aN (aa (pv 5) ac)) (gH rfl (bx K rfl (xq (wX K rfl) (pv 4) (CF ah) CG)) Kg (ix:=[]) rfl (λ_ _ _ _=>fY) (λ_ _ _ _=>(qw (av fN (pv 0) cf (aQ _)) (oN jZ ah) (pv 0)))) (aQ _))))) (af (bA (im XM XS XT cO (pv 3) (aa (pv 5) ac)))) aH))))
  (af (aE (pv 3))))),?_⟩
 refine ce (Y:=ay a K) (M:=Oi) (more:=UK) (body:=II) ?_ rfl rfl h
 exact(aq (c6 (i:=3) (aR (cY a6)) rfl rfl)
  (aq (cR (aR (ir (bD (ag (aU (fR 0)) (ag (aF (fF 2)) aJ)) rfl))) (.inl rfl) (sS (i:=4) rfl rfl) (aq (bg (i:=5) (aR (oF (gk (ix:=[4]) (lB (fx (fF 2))) (by decide) iA (bD (ag (aF (fF 1)) (ag (aF (fF 0)) aJ)) rfl)))) rfl rfl)
  (cN (aR (lV (lv (fx (bD (ag (aU (fR 0)) (ag (aU (fR 1)) (ag (aF (fF 5)) aJ))) rfl))) (bU (fx (aC qo (fx (oF (cA (ag (aF (fF 5)) aJ) rfl))) (fx (oF (gk (ix:=[]) (ju (oc (Qi (rc (fF 4)) (fx pI)))) (by decide) iA (Ho (bU (fx (aC nZ (fx (fF 0)) (fx pN)))) (vq oK (fx pI)) (fF 0)))))))))) (b7 (fi (lu (i:=3) rfl) (fF 5))) bI)))
  (a8 (ly (i:=3) rfl))))
theorem T7(T:Txt K mg a base):FnOk P w K mg base (d8 P w) 4 a.f_w9 a.d_w9 ["found","ways","said"] (dX (ay a K) Oe (KR (ay a K) .F) m_w9):=by
 refine T.F_w9.okX FY (λ_ _ _ _=>aG) (λ_ _ _ _ _ _ _ _ b h=>?_);have gy:=Mi.gy b;have c:=b.u100
 refine⟨_,(ae (bP dJ rfl (cc rfl T.z_range (aa (aT (aB K rfl) rfl T.z_len Gd.cy (aa (pv 0) ac)) ac)) (bf (i:=3) FY.nd rfl (Or.inl rfl)) (ae (bC (PW.pt (iU (fL (fe (az (QA T) b.mm rfl T.m_bj9 T.F_bj9.kp T.b_bj9 .nil aN (aa (b8 (aV K rfl) (pv 0) (pv 3) (λ_ _=>rfl)) (aa ah ac))))) (gv (fL (fe (az (Ah T) b.mm rfl T.m_bh9 T.F_bh9.kp T.b_bh9 .nil aN (aa (pv 1) (aa (pv 2) (aa (b8 (aV K rfl) (pv 0) (pv 3) (λ_ _=>rfl)) ac))))))))) (af (aE dH)) aH)
  (af (bC (PW.pt (lU (av m9 (pv 3) ah (aQ _)) (jn (fL (av (Mq K rfl c) (az (Ai T) b.mm rfl T.m_bc9 T.F_bc9.kp T.b_bc9 .nil aN (aa (b8 (aV K rfl) (pv 0) (aL lW (pv 3) ah) (λ_ _=>rfl)) ac)) (az (Ai T) b.mm rfl T.m_bc9 T.F_bc9.kp T.b_bc9 .nil aN (aa (b8 (aV K rfl) (pv 0) (pv 3) (λ_ _=>rfl)) ac)) (aQ _)))))) (af (aE dH)) aH))))
  (ae (aI (i:=4) FY.nd rfl (Or.inl rfl) (az (T4 T) b.mm rfl T.m_z9 T.F_z9.kp T.b_z9 .nil aN (aa (pv 1) (aa (pv 2) (aa ah ac)))))
  (af (aE (TW (Ae (az (Ah T) b.mm rfl T.m_bh9 T.F_bh9.kp T.b_bh9 .nil aN (aa (pv 1) (aa (pv 2) (aa (pv 4) ac))))) (Hh (vn (jo K rfl gy) (pv 4) (pv 0) (by with_unfolding_all rfl)))))))),?_⟩
 refine aZ (Y:=ay a K) (M:=Oe) (more:=UG) (body:=IE) ?_ rfl rfl (λ_ _ _=>dG) h
 exact(aq (cR (aR (lB (fx (dm du (ux (fR 0)))))) (.inl rfl) (sS (i:=3) rfl rfl) (aq (cN (aR (iV (eF (lv (fx (bD (ag (aU (cu (rc (fR 0)) (fx (fF 3)))) (ag (aF pI) aJ)) rfl)))) (eF (lv (fx (bD (ag (aU (fR 1)) (ag (aU (fR 2)) (ag (aU (cu (rc (fR 0)) (fx (fF 3)))) aJ))) rfl)))))) (a8 (aR pB)) bI)
  (cN (aR (lV (bU (fx (aC u5 (fx (fF 3)) (fx pI)))) (eF (bU (fx (aC TL (fx (oF (cA (ag (aU (cu (rc (fR 0)) (fx (aC qk (fx (fF 3)) (fx pI))))) aJ) rfl))) (fx (oF (cA (ag (aU (cu (rc (fR 0)) (fx (fF 3)))) aJ) rfl))))))))) (a8 (aR pB)) bI)))
  (aq (bg (i:=4) (aR (bD (ag (aU (fR 1)) (ag (aU (fR 2)) (ag (aF pI) aJ))) rfl)) rfl rfl)
  (a8 (aR (WU (fx (Hj (fx (bD (ag (aU (fR 1)) (ag (aU (fR 2)) (ag (aF (fF 4)) aJ))) rfl)))) (aC qm (fx (fF 4)) (ux (fR 0))))))))
theorem Qs(T:Txt K mg a base):FnOk P w K mg base (d8 P w) 4 a.f_bu9 a.d_bu9 ["guild"] (dX (ay a K) HY (KR (ay a K) .F) m_bu9):=by
 refine T.F_bu9.okX uY (λ_ _ _ _=>aG) (λ_ _ _ _ _ _ _ _ b h=>?_)
 refine⟨_,(ae (aI (i:=1) uY.nd rfl (Or.inl rfl) (bQ (aa (bQ (aa cf ac)) ac)))
  (ae (bP dJ rfl (gL rfl T.z_range (aa ah (aa (mZ (pv 0) T.cl_Guild T.me_m9 (CO T) b.mm T.b_m9 .nil aN) ac))) (bf (i:=2) uY.nd rfl (Or.inl rfl)) (af (aI (i:=1) uY.nd rfl (Or.inl rfl) (az (Qr T) b.mm rfl T.m_bv9 T.F_bv9.kp T.b_bv9 .nil aN (aa (pv 1) (aa (aL ki (bQ (aa cf ac)) (cz (pv 0) T.cl_Guild T.me_f9 (N6 T) b.mm T.b_f9 .nil aN (aa (pv 2) ac))) ac))))))
  (af (aE (pv 1))))),?_⟩
 refine aZ (Y:=ay a K) (M:=HY) (more:=QO) (body:=Au) ?_ rfl rfl (λ_ _ _=>dG) h
 exact(aq (bg (i:=1) (aR (oF (cY (ar (oF (cY (ar pN a6))) a6)))) rfl rfl)
  (aq (cR (aR (EY (fx pI) (fx (d9 (c:=0) (aU (fR 0)) aJ rfl)))) (.inl rfl) (sS (i:=2) rfl rfl) (bg (i:=1) (aR (oF (cA (ag (aF (fF 1)) (ag (aF (oF (oP (oc (cY (ar pN a6))) (oc (vg (c:=0) (aU (fR 0)) (ag (aF (fF 2)) aJ) rfl))))) aJ)) rfl))) rfl rfl))
  (a8 (aR (fF 1)))))
theorem QE(T:Txt K mg a base):FnOk P w K mg base (d8 P w) 5 a.f_ba9 a.d_ba9 ["size","ways","fond","dear","shy"] (dX (ay a K) Iw (KO (ay a K) (.ob gc)) m_ba9):=by
 refine T.F_ba9.okX j7 (λ_ _ _ _=>aG) (λ_ _ _ _ _ _ _ _ b h=>?_);have d:=i7 b
 refine⟨_,(ae (aI (i:=5) j7.nd rfl (Or.inl rfl) (CI T.mk_Guild (N8 T) b.mm rfl T.mgC_Guild T.b_a9 .nil aN (aa (pv 0) ac)))
  (ae (bP dJ rfl (bx K rfl (pv 1)) (Hg rfl (mY (bf (i:=6) j7.nd rfl (Or.inl rfl)) (mY (bf (i:=7) j7.nd rfl (Or.inl rfl)) CH))) (af (bA (cz (pv 5) T.cl_Guild T.me_c9 (Uk T) b.mm T.b_c9 .nil aN (aa (pv 6) (aa (pv 7) ac))))))
  (ae (bP dJ rfl (bx K rfl (dZ (sF rfl) rfl T.z_list Gd.jK (aa (pv 2) ac))) (bf (i:=8) j7.nd rfl (Or.inl rfl)) (af (bA (cz (pv 5) T.cl_Guild T.me_d9 (N7 T) b.mm T.b_d9 .nil aN (aa (b8 (vF K rfl) (pv 8) ah (λ_ _=>rfl)) (aa (b8 (vF K rfl) (pv 8) ah (λ_ _=>rfl)) (aa (vm d (pv 2) (pv 8) (λ_ _=>rfl)) ac)))))))
  (ae (bP dJ rfl (bx K rfl (dZ (sF rfl) rfl T.z_list Gd.jK (aa (pv 3) ac))) (bf (i:=9) j7.nd rfl (Or.inl rfl)) (af (bA (cz (pv 5) T.cl_Guild T.me_n9 (Uf T) b.mm T.b_n9 .nil aN (aa (dZ (tF K rfl) rfl T.z_list Gd.jK (aa (pv 9) ac)) (aa (vm d (pv 3) (pv 9) (λ_ _=>rfl)) ac))))))
  (ae (bP dJ rfl (bx K rfl (pv 4)) (Hg rfl (mY (bf (i:=6) j7.nd rfl (Or.inl rfl)) (mY (bf (i:=7) j7.nd rfl (Or.inl rfl)) CH))) (af (bA (cz (pv 5) T.cl_Guild T.me_k9 (Uh T) b.mm T.b_k9 .nil aN (aa (pv 6) (aa (pv 7) ac))))))
  (af (aE (pv 5)))))))),?_⟩
 refine ce (Y:=ay a K) (M:=Iw) (more:=Q8) (body:=AR) ?_ rfl rfl h
 exact(aq (c6 (i:=5) (aR (He (c:=0) (ag (aF (fF 0)) aJ) rfl)) rfl rfl)
  (aq (cR (aR (iq (fR 1))) (.inr rfl) (tg2 (Ln (i:=6) rfl rfl) (Ln (i:=7) rfl rfl)) (b7 (qG (c:=0) (aO (i:=5)) (ag (aF (rS (k:= .X) (ux (fR 6)))) (ag (aF (rS (k:= .X) (ux (fR 7)))) aJ)) ⟨rfl,trivial,trivial,trivial⟩ (by decide) (by decide))))
  (aq (cR (aR (ir (oF (CK (rc (fR 2)))))) (.inl rfl) (S9 (i:=8) rfl rfl) (b7 (qG (c:=0) (aO (i:=5)) (ag (aF (rS (k:= .X) (ux (Hn (rc (fR 8)) (fx pI))))) (ag (aF (rS (k:= .X) (ux (Hn (rc (fR 8)) (fx pI))))) (ag (aF (rS (k:= .X) (ux (Af (rc (fR 2)) (ux (fR 8)))))) aJ))) ⟨rfl,trivial,trivial,trivial,trivial⟩ (by decide) (by decide))))
  (aq (cR (aR (ir (oF (CK (rc (fR 3)))))) (.inl rfl) (S9 (i:=9) rfl rfl) (b7 (qG (c:=0) (aO (i:=5)) (ag (aF (oF (Qf (cS (k':= .F) (rc (fR 9)))))) (ag (aF (rS (k:= .X) (ux (Af (rc (fR 3)) (ux (fR 9)))))) aJ)) ⟨rfl,trivial,trivial,trivial⟩ (by decide) (by decide))))
  (aq (cR (aR (iq (fR 4))) (.inr rfl) (tg2 (Ln (i:=6) rfl rfl) (Ln (i:=7) rfl rfl)) (b7 (qG (c:=0) (aO (i:=5)) (ag (aF (rS (k:= .X) (ux (fR 6)))) (ag (aF (rS (k:= .X) (ux (fR 7)))) aJ)) ⟨rfl,trivial,trivial,trivial⟩ (by decide) (by decide))))
  (a8 (ly (i:=5) rfl)))))))
theorem Qq(T:Txt K mg a base):FnOk P w K mg base (d8 P w) 5 a.f_bx9 a.d_bx9 ["guild","road"] (dX (ay a K) HV (KR (ay a K) .F) m_bx9):=by
 refine T.F_bx9.okX Pi (λ_ _ _ _=>aG) (λ_ _ _ _ _ _ _ _ b h=>?_);refine⟨_,(af (aE (cT (aa (oN jZ (cz (pv 0) T.cl_Guild T.me_g9 (Ui T) b.mm T.b_g9 .nil aN (aa (pv 1) ac))) (aa (aT (aB K rfl) rfl T.z_len Gd.cy (aa (pv 1) ac)) (aa (pv 1) ac)))))),?_⟩;refine aZ (Y:=ay a K) (M:=HV) (more:=QL) (body:=Aq) ?_ rfl rfl (λ_ _ _=>dG) h;exact(a8 (aR (dI (ar (vq oK (fx (d9 (c:=0) (aU (fR 0)) (ag (aF (fF 1)) aJ) rfl))) (ar (dm du (fx (fF 1))) (ar (fF 1) a6))))))
theorem Kj:CompSc (ao F7) (Gd.f7 (Gd.lE (Gd.nth (dh F7) 0))) "road" ["guild","house"]:=by ac_rfl
theorem Ud(T:Txt K mg a base):FnOk P w K mg base (d8 P w) 6 a.f_p9 a.d_p9 ["guild","house","told"] (dX (ay a K) Om (KR (ay a K) .F) m_p9):=by
 refine T.F_p9.okX NO (λ_ _ _ _=>aG) (λ_ _ _ _ _ _ _ _ b h=>?_)
 refine⟨_,(ae (fM (i:=3) rfl NO.nd rfl (.inl rfl) (bx K rfl (pv 2)) Kj (ix:=[0,1]) rfl (λ_ _ _ _=>mX (fe (az (Qw T) b.mm rfl T.m_bp9 T.F_bp9.kp T.b_bp9 .nil xt (aa (pv 1) (aa (pv 2) (aa (pv 0) ac)))))) (λ_ _ _ _=>(az (Qq T) b.mm rfl T.m_bx9 T.F_bx9.kp T.b_bx9 .nil xt (aa (pv 1) (aa (aL ki (bQ (aa (pv 2) ac)) (pv 0)) ac)))))
  (af (aE (az (Ue T) b.mm rfl T.m_o9 T.F_o9.kp T.b_o9 .nil aN (aa (pv 1) (aa (pv 3) ac)))))),?_⟩
 refine aZ (Y:=ay a K) (M:=Om) (more:=UN) (body:=IL) ?_ rfl rfl (λ_ _ _=>dG) h
 exact(aq (bg (i:=3) (aR (oF (m7 (ix:=[0,1]) (ju (rc (fR 2))) (by decide) (lv (fx (bD (ag (aU (fR 1)) (ag (aF (fF 2)) (ag (aU (fR 0)) aJ))) rfl))) (bD (ag (aU (fR 1)) (ag (aF (oF (oP (oc (cY (ar (fF 2) a6))) (cS (k':= .F) (rc (fR 0)))))) aJ)) rfl)))) rfl rfl)
  (a8 (aR (bD (ag (aF (fF 1)) (ag (aF (fF 3)) aJ)) rfl))))
theorem Ki:CompSc (ao F6) (Gd.f7 (Gd.lE (Gd.nth (Gd.qe (Gd.nth (dh F6) 1)) 0))) "neighbour" ["table"]:=by ac_rfl
theorem Ub(T:Txt K mg a base):FnOk P w K mg base (d8 P w) 7 a.f_q9 a.d_q9 ["guild","table"] (dX (ay a K) Ol (KR (ay a K) .F) m_q9):=by
 refine T.F_q9.okX FZ (λ_ _ _ _=>aG) (λ_ _ _ _ _ _ _ _ b h=>?_);have d:=b.units
 refine⟨_,(ae (bA (az (Qu T) b.mm rfl T.m_br9 T.F_br9.kp T.b_br9 .nil aN (aa (pv 1) (aa (mZ (pv 0) T.cl_Guild T.me_m9 (CO T) b.mm T.b_m9 .nil aN) ac))))
  (ae (bP dJ rfl (cc rfl T.z_range (aa (mZ (pv 0) T.cl_Guild T.me_m9 (CO T) b.mm T.b_m9 .nil aN) ac)) (bf (i:=2) FZ.nd rfl (Or.inl rfl)) (ae (fM (i:=3) rfl FZ.nd rfl (.inl rfl) (bx K rfl (cz (pv 0) T.cl_Guild T.me_f9 (N6 T) b.mm T.b_f9 .nil aN (aa (pv 2) ac))) Ki (ix:=[1]) rfl (λ_ _ _ _=>fY) (λ_ _ _ _=>(b8 (aV K rfl) (pv 1) (pv 0) (λ_ _=>rfl))))
  (af (bC (av (CN K rfl d) (az (Ud T) b.mm rfl T.m_p9 T.F_p9.kp T.b_p9 .nil aN (aa (pv 0) (aa (pv 2) (aa (pv 3) ac)))) (b8 (aV K rfl) (pv 1) (pv 2) (λ_ _=>rfl)) (aQ _)) (af (aE (pv 2))) aH))))
  (af (aE cf)))),?_⟩
 refine aZ (Y:=ay a K) (M:=Ol) (more:=UM) (body:=IK) ?_ rfl rfl (λ_ _ _=>dG) h
 exact(aq (b7 (aR (bD (ag (aU (fR 1)) (ag (aF (d9 (c:=0) (aU (fR 0)) aJ rfl)) aJ)) rfl)))
  (aq (cR (aR (lB (fx (d9 (c:=0) (aU (fR 0)) aJ rfl)))) (.inl rfl) (sS (i:=2) rfl rfl) (aq (F4 (i:=3) (aR (xu (ix:=[1]) (ju (oc (vg (c:=0) (aU (fR 0)) (ag (aF (fF 2)) aJ) rfl))) (by decide) iA (cu (rc (fR 1)) (fx (fF 0))))) rfl rfl)
  (cN (aR (bU (fx (aC qo (fx (bD (ag (aU (fR 0)) (ag (aF (fF 2)) (ag (aU (fR 3)) aJ))) rfl)) (ux (cu (rc (fR 1)) (fx (fF 2)))))))) (a8 (aR (fF 2))) bI)))
  (a8 (aR pN))))
theorem Hs(T:Txt K mg a base):FnOk P w K mg base (d8 P w) 8 a.f_bw9 a.d_bw9 ["guild"] (dX (ay a K) HW (KO (ay a K) (.ct (.ct .dp))) m_bw9):=by
 obtain⟨b,g_MOST_FOR_TABLES⟩:=T.g_MOST_FOR_TABLES;refine T.F_bw9.okX uX (λ_ _ _ _=>aG) (λ_ _ _ _ _ _ _ _ d h=>?_);have e:=d.units
 refine⟨_,(ae (bC (av m9 (mZ (pv 0) T.cl_Guild T.me_m9 (CO T) d.mm T.b_m9 .nil aN) (f6 rfl g_MOST_FOR_TABLES (v:=.int 5) ⟨_,rfl⟩) (aQ _)) (af (gh iD rfl rfl T.mgC_TooMany T.ek_TooMany (aa kg ac))) aH)
  (ae (aI (i:=1) uX.nd rfl (Or.inl rfl) (bQ ac))
  (ae (bP dJ rfl (bx K rfl (az (Qs T) d.mm rfl T.m_bu9 T.F_bu9.kp T.b_bu9 .nil aN (aa (pv 0) ac))) (bf (i:=2) uX.nd rfl (Or.inl rfl)) (ae (aI (i:=3) uX.nd rfl (Or.inl rfl) (az (Qp T) d.mm rfl T.m_by9 T.F_by9.kp T.b_by9 .nil aN (aa (pv 2) ac)))
  (af (bC (PW.pt (lU (av (vz K rfl e) (az (Qv T) d.mm rfl T.m_bq9 T.F_bq9.kp T.b_bq9 .nil aN (aa (pv 3) ac)) (pv 2) (aQ _)) (jn (av fN (az (Ub T) d.mm rfl T.m_q9 T.F_q9.kp T.b_q9 .nil aN (aa (pv 0) (aa (pv 3) ac))) cf (aQ _))))) (af (bA (im XM XS XT cO (pv 1) (aa (pv 3) ac)))) aH))))
  (af (aE (pv 1)))))),?_⟩
 refine ce (Y:=ay a K) (M:=HW) (more:=QM) (body:=Ar) ?_ rfl rfl h
 exact(aq (cN (aR (bU (fx (aC u5 (fx (d9 (c:=0) (aU (fR 0)) aJ rfl)) (fx pI))))) (ij (c:=16)) bI)
  (aq (c6 (i:=1) (aR (Qd Mt)) rfl rfl)
  (aq (cR (aR (ir (bD (ag (aU (fR 0)) aJ) rfl))) (.inl rfl) (sS (i:=2) rfl rfl) (aq (c6 (i:=3) (aR (cA (ag (aF (fF 2)) aJ) rfl)) rfl rfl)
  (cN (aR (lV (bU (fx (aC qo (fx (oF (cA (ag (aX (fO 3)) aJ) rfl))) (fx (fF 2))))) (bU (fx (aC nZ (fx (bD (ag (aU (fR 0)) (ag (aX (fO 3)) aJ)) rfl)) (fx pN)))))) (b7 (Rm (i:=1) rfl (ly (i:=3) rfl))) bI)))
  (a8 (ly (i:=1) rfl)))))
theorem Hu(T:Txt K mg a base):FnOk P w K mg base (d8 P w) 9 a.f_bl9 a.d_bl9 ["guild","ways","said","size"] (dX (ay a K) Ih (KR (ay a K) .F) m_bl9):=by
 refine T.F_bl9.okX jk (λ_ _ _ _=>aG) (λ_ _ _ _ _ _ _ _ b h=>?_)
 refine⟨_,(ae (aI (i:=4) jk.nd rfl (Or.inl rfl) (az (Hs T) b.mm rfl T.m_bw9 T.F_bw9.kp T.b_bw9 .nil aN (aa (pv 0) ac)))
  (ae (bC (fL (fe (aT (gN K rfl) rfl T.z_isinstance Gd.da (aa (pv 4) (aa (kY rfl T.z_list Gd.jK (v:=.ty "list") rfl) ac))))) (af (aE dH)) aH)
  (ae (aI (i:=5) jk.nd rfl (Or.inl rfl) ah)
  (ae (bP dJ rfl (gL rfl T.z_range (aa ah (aa (pv 3) ac))) (bf (i:=6) jk.nd rfl (Or.inl rfl)) (af (aI (i:=5) jk.nd rfl (Or.inl rfl) (aL n8 (pv 5) (aL dL ah (aT (aB K rfl) rfl T.z_len Gd.cy (aa (az (vA T) b.mm rfl T.m_bk9 T.F_bk9.kp T.b_bk9 .nil aN (aa (pv 1) (aa (pv 3) (aa (pv 6) ac)))) ac)))))))
  (ae (bC (av m9 (pv 5) ah (aQ _)) (af (aE (az (T7 T) b.mm rfl T.m_w9 T.F_w9.kp T.b_w9 .nil aN (aa (pv 4) (aa (pv 1) (aa (pv 2) ac)))))) aH)
  (ae (aI (i:=7) jk.nd rfl (Or.inl rfl) (az (T9 T) b.mm rfl T.m_s9 T.F_s9.kp T.b_s9 .nil aN (aa (pv 1) (aa (pv 2) (aa (pv 3) ac)))))
  (ae (bC (av m8 (aT (aB K rfl) rfl T.z_len Gd.cy (aa (pv 4) ac)) (aT (aB K rfl) rfl T.z_len Gd.cy (aa (pv 7) ac)) (aQ _)) (af (aE dH)) aH)
  (ae (bP dJ rfl (cc rfl T.z_range (aa (aT (aB K rfl) rfl T.z_len Gd.cy (aa (pv 7) ac)) ac)) (bf (i:=8) jk.nd rfl (Or.inl rfl)) (af (bC (fL (fe (az (Hv T) b.mm rfl T.m_bg9 T.F_bg9.kp T.b_bg9 .nil aN (aa (b8 (aV K rfl) (pv 4) (pv 8) (λ_ _=>rfl)) (aa (b8 (aV K rfl) (pv 7) (pv 8) (λ_ _=>rfl)) ac))))) (af (aE dH)) aH)))
  (ae (bP dJ rfl (cc rfl T.z_range (aa (aT (aB K rfl) rfl T.z_len Gd.cy (aa (pv 7) ac)) ac)) (bf (i:=8) jk.nd rfl (Or.inl rfl)) (ae (bP dJ rfl (bx K rfl (b8 (aV K rfl) (pv 4) (pv 8) (λ_ _=>rfl))) (bf (i:=9) jk.nd rfl (Or.inl rfl)) (af (bC (av vw (pv 9) cf (aQ _)) (af (bA (im XM XS XT cO (pv 9) (aa ah ac)))) aH)))
  (af (bC (PW.pt (lU (av m9 (aT (aB K rfl) rfl T.z_len Gd.cy (aa (pv 7) ac)) (aL dL (pv 8) ah) (aQ _)) (jn (fL (fe (az (Hv T) b.mm rfl T.m_bg9 T.F_bg9.kp T.b_bg9 .nil aN (aa (b8 (aV K rfl) (pv 4) (aL dL (pv 8) ah) (λ_ _=>rfl)) (aa (b8 (aV K rfl) (pv 7) (aL dL (pv 8) ah) (λ_ _=>rfl)) ac)))))))) (af (aE dH)) aH))))
  (af (aE dH))))))))))),?_⟩
 refine aZ (Y:=ay a K) (M:=Ih) (more:=QX) (body:=AD) ?_ rfl rfl (λ_ _ _=>dG) h
 exact(aq (c6 (i:=4) (aR (cA (ag (aU (fR 0)) aJ) rfl)) rfl rfl)
  (aq (cN (aR (eF (lv (fx (oO tT (fO 4) (fx pT)))))) (a8 (aR pB)) bI)
  (aq (bg (i:=5) (aR pI) rfl rfl)
  (aq (cR (aR (EY (fx pI) (fx (fF 3)))) (.inl rfl) (sS (i:=6) rfl rfl) (bg (i:=5) (aR (aC tS (fx (fF 5)) (fx (aC ge (fx pI) (fx (dm du (fx (oF (cA (ag (aU (fR 1)) (ag (aF (fF 3)) (ag (aF (fF 6)) aJ))) rfl))))))))) rfl rfl))
  (aq (cN (aR (bU (fx (aC u5 (fx (fF 5)) (fx pI))))) (a8 (aR (bD (ag (aX (fO 4)) (ag (aU (fR 1)) (ag (aU (fR 2)) aJ))) rfl))) bI)
  (aq (bg (i:=7) (aR (oF (cA (ag (aU (fR 1)) (ag (aU (fR 2)) (ag (aF (fF 3)) aJ))) rfl))) rfl rfl)
  (aq (cN (aR (bU (fx (aC u4 (fx (dm du (fO 4))) (fx (dm du (fx (fF 7)))))))) (a8 (aR pB)) bI)
  (aq (cR (aR (lB (fx (dm du (fx (fF 7)))))) (.inl rfl) (sS (i:=8) rfl rfl) (cN (aR (eF (lv (fx (bD (ag (aX (cu (rc (fO 4)) (fx (fF 8)))) (ag (aF (cu (rc (fF 7)) (fx (fF 8)))) aJ)) rfl))))) (a8 (aR pB)) bI))
  (aq (cR (aR (lB (fx (dm du (fx (fF 7)))))) (.inl rfl) (sS (i:=8) rfl rfl) (aq (WS (i:=4) (k:=8) (j:=9) (c:=99) rfl rfl (by decide) rfl)
  (cN (aR (lV (bU (fx (aC u5 (fx (dm du (fx (fF 7)))) (fx (aC ge (fx (fF 8)) (fx pI)))))) (eF (lv (fx (bD (ag (aX (cu (rc (fO 4)) (fx (aC ge (fx (fF 8)) (fx pI))))) (ag (aF (cu (rc (fF 7)) (fx (aC ge (fx (fF 8)) (fx pI))))) aJ)) rfl)))))) (a8 (aR pB)) bI)))
  (a8 (aR pB)))))))))))
theorem Qz(T:Txt K mg a base):FnOk P w K mg base (d8 P w) 9 a.f_bm9 a.d_bm9 ["size"] (dX (ay a K) Ig (KR (ay a K) .F) m_bm9):=by
 refine T.F_bm9.okX uZ (λ_ _ _ _=>aG) (λ_ _ _ _ _ _ _ _ b h=>?_)
 refine⟨_,(ae (aI (i:=1) uZ.nd rfl (Or.inl rfl) dH)
  (ae (Hb (j:=2) (ok:=okL K [.ref a.C_GuildError]) rfl rfl (Ly (Lz (Hs T) b.mm rfl T.m_bw9 T.F_bw9.kp T.b_bw9 .nil (aa (CI T.mk_Guild (N8 T) b.mm rfl T.mgC_Guild T.b_a9 .nil xt (aa (pv 0) ac)) ac) )) rfl T.mgC_TooMany T.ek_TooMany uZ.nd rfl rfl (Or.inl rfl) (λk f C e d=>(af (aI (i:=1) uZ.nd rfl (Or.inl rfl) (aT (K5 (g:=.ref a.C_GuildError) (c:=.ref a.C_GuildError) e (λ_ h=>h) d.1 (d.kit 0 rfl)) rfl T.z_isinstance Gd.da (aa (pv 2) (aa (f6 rfl T.mgC_GuildError (v:=.ref a.C_GuildError) rfl) ac)))))))
  (af (aE (pv 1))))),?_⟩
 refine aZ (Y:=ay a K) (M:=Ig) (more:=QW) (body:=AC) ?_ rfl rfl (λ_ _ _=>dG) h
 exact(aq (bg (i:=1) (aR pB) rfl rfl)
  (aq (LZ (g:=16) (l:=[16]) (RA λE=>(aR (cA (ag (aF (oF (TY (He (c:=0) (ag (aF (fF 0)) aJ) rfl)))) aJ) rfl))) rfl (Rx _ T.ek_TooMany T.sb_TooMany_TooMany ⟨T.xa_TooMany,(MS T.kt_TooMany_GuildError Rq).1⟩ (bg (i:=1) (aR pB) rfl rfl) (Vi T.kt_TooMany_GuildError) Vh))
  (a8 (aR (fF 1)))))
theorem Ua(T:Txt K mg a base):FnOk P w K mg base (d8 P w) 10 a.f_r9 a.d_r9 ["script"] (dX (ay a K) Oj (KR (ay a K) .F) m_r9):=by
 refine T.F_r9.okX iS (λ_ _ _ _=>aG) (λ_ _ _ _ _ _ _ _ b h=>?_);have e:=i7 b;have gy:=Mi.gy b
 refine⟨_,(ae (aI (i:=1) iS.nd rfl (Or.inl rfl) (az (lG T) b.mm rfl T.m_u9 T.F_u9.kp T.b_u9 .nil aN (aa (pv 0) (aa ah ac))))
  (ae (bC (av na (aL bZ (aL eG (pv 1) ah) ah) ah (aQ _)) (af (aE (az (Qz T) b.mm rfl T.m_bm9 T.F_bm9.kp T.b_bm9 .nil aN (aa (aL dL ah (aL bZ (aL eG (pv 1) ah) ah)) ac)))) aH)
  (ae (aI (i:=2) iS.nd rfl (Or.inl rfl) (aL dL ah (aL bZ (pv 1) ah)))
  (ae (bC (av na (aL bZ (aL eG (pv 1) ah) ah) ah (aQ _)) (af (aI (i:=2) iS.nd rfl (Or.inl rfl) ah)) aH)
  (ae (aI (i:=3) iS.nd rfl (Or.inl rfl) (az (Qy T) b.mm rfl T.m_bn9 T.F_bn9.kp T.b_bn9 .nil aN (aa (az (lG T) b.mm rfl T.m_u9 T.F_u9.kp T.b_u9 .nil aN (aa (pv 0) (aa ah ac))) (aa (pv 2) ac))))
  (ae (aI (i:=4) iS.nd rfl (Or.inl rfl) (az (T5 T) b.mm rfl T.m_y9 T.F_y9.kp T.b_y9 .nil aN (aa (az (lG T) b.mm rfl T.m_u9 T.F_u9.kp T.b_u9 .nil aN (aa (pv 0) (aa ah ac))) (aa (pv 2) ac))))
  (ae (aI (i:=5) iS.nd rfl (Or.inl rfl) (az (T8 T) b.mm rfl T.m_v9 T.F_v9.kp T.b_v9 .nil aN (aa (az (lG T) b.mm rfl T.m_u9 T.F_u9.kp T.b_u9 .nil aN (aa (pv 0) (aa ah ac))) (aa (pv 2) ac))))
  (ae (aI (i:=6) iS.nd rfl (Or.inl rfl) (az (QB T) b.mm rfl T.m_bi9 T.F_bi9.kp T.b_bi9 .nil aN (aa (az (lG T) b.mm rfl T.m_u9 T.F_u9.kp T.b_u9 .nil aN (aa (pv 0) (aa ah ac))) (aa (pv 2) ac))))
  (ae (bC (PW.pt (lU (av na (aL bZ (aL eG (az (lG T) b.mm rfl T.m_u9 T.F_u9.kp T.b_u9 .nil aN (aa (pv 0) (aa ah ac))) ah) ah) ah (aQ _)) (jn (av m9 (pv 2) ah (aQ _))))) (ae (bP dJ rfl (bx K rfl (bQ (aa (cT (aa ah (aa ah ac))) (aa (cT (aa ah (aa ah ac))) (aa (cT (aa ah (aa ah ac))) ac))))) (bf (i:=7) iS.nd rfl (Or.inl rfl)) (af (bC (av (qz K rfl gy) (pv 7) (pv 3) (by with_unfolding_all rfl)) (af (bA (im PySem.F.plainAttrs_list PySem.F.slot_list_append PySem.F.type_list_append cO (pv 3) (aa (pv 7) ac)))) aH)))
  (ae (fZ e (pv 5) (cT (aa ah (aa ah (aa ah ac)))) ah rfl)
  (af (fZ e (pv 5) (cT (aa ah (aa ah (aa ah ac)))) ah rfl)))) aH)
  (ae (aI (i:=8) iS.nd rfl (Or.inl rfl) (bQ (aa (pv 4) (aa (pv 5) (aa (pv 6) ac)))))
  (ae (aI (i:=9) iS.nd rfl (Or.inl rfl) (az (QE T) b.mm rfl T.m_ba9 T.F_ba9.kp T.b_ba9 .nil aN (aa (pv 2) (aa (pv 3) (aa (pv 4) (aa (pv 5) (aa (pv 6) ac)))))))
  (ae (bC (fL (fe (az (Hu T) b.mm rfl T.m_bl9 T.F_bl9.kp T.b_bl9 .nil aN (aa (pv 9) (aa (pv 3) (aa (pv 8) (aa (pv 2) ac))))))) (af (aE dH)) aH)
  (ae (aI (i:=10) iS.nd rfl (Or.inl rfl) (aL bZ (az (lG T) b.mm rfl T.m_u9 T.F_u9.kp T.b_u9 .nil aN (aa (pv 0) (aa ah ac))) (pv 2)))
  (ae (aI (i:=11) iS.nd rfl (Or.inl rfl) (aL bZ (az (lG T) b.mm rfl T.m_u9 T.F_u9.kp T.b_u9 .nil aN (aa (pv 0) (aa ah ac))) (pv 2)))
  (ae (bA (cz (pv 9) T.cl_Guild T.me_d9 (N7 T) b.mm T.b_d9 .nil aN (aa (pv 10) (aa (pv 11) (aa (aL dL ah (aL bZ (az (lG T) b.mm rfl T.m_u9 T.F_u9.kp T.b_u9 .nil aN (aa (pv 0) (aa ah ac))) ah)) ac)))))
  (ae (fZ e (pv 4) (cT (aa (pv 10) (aa (pv 11) ac))) (aL dL ah (aL bZ (az (lG T) b.mm rfl T.m_u9 T.F_u9.kp T.b_u9 .nil aN (aa (pv 0) (aa ah ac))) ah)) rfl)
  (af (aE (az (Hu T) b.mm rfl T.m_bl9 T.F_bl9.kp T.b_bl9 .nil aN (aa (pv 9) (aa (pv 3) (aa (pv 8) (aa (pv 2) ac))))))))))))))))))))))),?_⟩
 refine aZ (Y:=ay a K) (M:=Oj) (more:=UL) (body:=IJ) ?_ rfl rfl (λ_ _ _=>dG) h
 exact(aq (bg (i:=1) (aR (bD (ag (aU (fR 0)) (ag (aF pI) aJ)) rfl)) rfl rfl)
  (aq (cN (aR (bU (fx (aC u7 (fx (aC cX (fx (aC gu (fx (fF 1)) (fx pI))) (fx pI))) (fx pI))))) (a8 (aR (bD (ag (aF (aC ge (fx pI) (fx (aC cX (fx (aC gu (fx (fF 1)) (fx pI))) (fx pI))))) aJ) rfl))) bI)
  (aq (bg (i:=2) (aR (aC ge (fx pI) (fx (aC cX (fx (fF 1)) (fx pI))))) rfl rfl)
  (aq (cN (aR (bU (fx (aC u7 (fx (aC cX (fx (aC gu (fx (fF 1)) (fx pI))) (fx pI))) (fx pI))))) (bg (i:=2) (aR pI) rfl rfl) bI)
  (aq (c6 (i:=3) (aR (cA (ag (aF (bD (ag (aU (fR 0)) (ag (aF pI) aJ)) rfl)) (ag (aF (fF 2)) aJ)) rfl)) rfl rfl)
  (aq (c6 (i:=4) (aR (cA (ag (aF (bD (ag (aU (fR 0)) (ag (aF pI) aJ)) rfl)) (ag (aF (fF 2)) aJ)) rfl)) rfl rfl)
  (aq (c6 (i:=5) (aR (cA (ag (aF (bD (ag (aU (fR 0)) (ag (aF pI) aJ)) rfl)) (ag (aF (fF 2)) aJ)) rfl)) rfl rfl)
  (aq (c6 (i:=6) (aR (cA (ag (aF (bD (ag (aU (fR 0)) (ag (aF pI) aJ)) rfl)) (ag (aF (fF 2)) aJ)) rfl)) rfl rfl)
  (aq (cN (aR (lV (bU (fx (aC u7 (fx (aC cX (fx (aC gu (fx (bD (ag (aU (fR 0)) (ag (aF pI) aJ)) rfl)) (fx pI))) (fx pI))) (fx pI)))) (bU (fx (aC u5 (fx (fF 2)) (fx pI)))))) (aq (cR (aR (ir (oF (cY (ar (dI (ar pI (ar pI a6))) (ar (dI (ar pI (ar pI a6))) (ar (dI (ar pI (ar pI a6))) a6))))))) (.inl rfl) (sS (i:=7) rfl rfl) (cN (aR (bU (fx (aC F8 (fx (fF 7)) (cx (fC 3)))))) (b7 (fi (lu (i:=3) rfl) (fF 7))) bI))
  (aq (iz (lu (i:=5) rfl) (fx (dI (ar pI (ar pI (ar pI a6))))) (aR pI))
  (iz (lu (i:=5) rfl) (fx (dI (ar pI (ar pI (ar pI a6))))) (aR pI)))) bI)
  (Pv (i:=8) (f:=4) (d:=5) (s:=6) (by decide) (by decide) (by decide) rfl λ_ _ _ _=>(qj (c6 (i:=9) (aR (cA (ag (aF (fF 2)) (ag (aX (cx (fC 3))) (ag (aX (cx (fC 4))) (ag (aX (cx (fC 5))) (ag (aX (cx (fC 6))) aJ))))) rfl)) rfl rfl) (TD (P8 (CJ (g:=9) (w:=3) (z:=2) rfl rfl)) (a8 (aR pB)) (qj (bg (i:=10) (aR (aC cX (fx (bD (ag (aU (fR 0)) (ag (aF pI) aJ)) rfl)) (fx (fF 2)))) rfl rfl) (qj (bg (i:=11) (aR (aC cX (fx (bD (ag (aU (fR 0)) (ag (aF pI) aJ)) rfl)) (fx (fF 2)))) rfl rfl) (qj (b7 (qG (c:=0) (aO (i:=9)) (ag (aF (fF 10)) (ag (aF (fF 11)) (ag (aF (aC ge (fx pI) (fx (aC cX (fx (bD (ag (aU (fR 0)) (ag (aF pI) aJ)) rfl)) (fx pI))))) aJ))) ⟨rfl,trivial,trivial,trivial,trivial⟩ (by decide) (by decide))) (qj (iz (lu (i:=4) rfl) (fx (dI (ar (fF 10) (ar (fF 11) a6)))) (aR (aC ge (fx pI) (fx (aC cX (fx (bD (ag (aU (fR 0)) (ag (aF pI) aJ)) rfl)) (fx pI)))))) (Pp (CJ (g:=9) (w:=3) (z:=2) rfl rfl)))))) (λ_ _ h=>by cases h)))))))))))))
end K22
namespace K22
open PySem L2 Mi Cl
noncomputable section
structure GΩ where
 hω:Int
 U:(DI Bool)
 lω:(DI Int)
 sω:(DI Bool)
 wω:(DI Int)
def a9:GΩ->D:=λg=>.obj 0 ["house_count","ways","likings","shuns","wish_ranks"] [D.int g.hω,(bM D.bl) g.U,(bM D.int) g.lω,(bM D.bl) g.sω,(bM D.int) g.wω]
theorem dM(g:GΩ):SimR D.int (ie 0 "house_count" (a9 g)) (.ok g.hω):=rfl
theorem lH(g:GΩ):SimR (bM D.bl) (ie 0 "ways" (a9 g)) (.ok g.U):=rfl
theorem n9(g:GΩ):SimR (bM D.int) (ie 0 "likings" (a9 g)) (.ok g.lω):=rfl
theorem qB(g:GΩ):SimR (bM D.bl) (ie 0 "shuns" (a9 g)) (.ok g.sω):=rfl
theorem xy(g:GΩ):SimR (bM D.int) (ie 0 "wish_ranks" (a9 g)) (.ok g.wω):=rfl
def mk_Guild(size:Int):Res GΩ:=if 1<=size/\size<=60 then .ok ⟨size,[],[],[],[]⟩ else .exc 11
theorem lK(size:Int):SimR a9 (lI 0 xP [.int size]) (mk_Guild size):=by
 unfold mk_Guild;by_cases h:1<=size/\size<=60
 · rw[Xl h];have a:¬ size<1:=by omega
   have b:¬ 60<size:=by omega
   show lI 0 xP [.int size]=_;unfold lI xP Mi.run;rw[xN];simp[ax,fG,aK,vv,cP,bn,aP,rg,wP,a,b,bo,nj,CD,fq,nP,bL];rfl
 · rw[if_neg h];show lI 0 xP [.int size]=.exc 11;unfold lI xP Mi.run;rw[xN];by_cases a:size<1
   ·simp[ax,fG,aK,vv,cP,bn,aP,rg,wP,a,fK]
   · have b:60<size:=by omega
     simp[ax,fG,aK,vv,cP,bn,aP,rg,wP,a,b,fK]
structure S_b9 where
 vAq:GΩ
 vqq:(DI Bool)
 v0q:Int
def G0:S_b9->T0:=λs=>[some (a9 s.vAq),some ((bM D.bl) s.vqq),some (D.int s.v0q)]
abbrev Wn:=S_b9->FlC S_b9 (List Int)
def DU:Wn:=bw (aW (cq (ba (dy 0) (ba (λg=>.ok g.hω) (pC (·.vAq)))) (aY (Be false) (ba io (iW (pC λp=>p.2.v0q) (pC λp=>p.1))) (pC λp=>p.2.vqq)) (pC λp=>p.1)))
def K3:Wn:=DU
def NG(b:GΩ)(a:DI Bool)(c:Int):OutC S_b9 (List Int):=cr none (K3 ⟨b,a,c⟩)
theorem VX:Cl.TJ G0 (eL D.int) I0 K3:=aD (ai (dq (dg (bp dM xp)) (aw (ak (CP false) (bT fB (cM xp xp)) xp)) xp))
theorem Wg(b:GΩ)(a:DI Bool)(c:Int):SimO G0 (eL D.int) (Rl [a9 b,(bM D.bl) a,D.int c]) (NG b a c):=eB VX rfl
structure S_l9 where
 vAq:GΩ
 v0q:Int
 vgq:(List Int)
def GQ:S_l9->T0:=λs=>[some (a9 s.vAq),some (D.int s.v0q),some ((eL D.int) s.vgq)]
abbrev Wl:=S_l9->FlC S_l9 Bool
def Dz:Wl:=bw (aW (ba Wi (cq (pC (·.vgq)) (λ_=>.ok true) (aY (Be false) (ba io (iW (pC λp=>p.2.v0q) (pC λp=>p.1))) (ba (λg=>.ok g.sω) (pC λp=>p.2.vAq))))))
def KP:Wl:=Dz
def NB(b:GΩ)(c:Int)(a:List Int):OutC S_l9 Bool:=cr none (KP ⟨b,c,a⟩)
theorem VN:Cl.TJ GQ D.bl IQ KP:=aD (ai (bp Ux (dq (bX xp) iG (ak (CP false) (bT fB (cM xp (cV (λ_=>rfl) xp))) (bp qB xp)))))
theorem Wa(b:GΩ)(c:Int)(a:List Int):SimO GQ D.bl (Rg [a9 b,D.int c,(eL D.int) a]) (NB b c a):=di VN rfl
structure S_m9 where
 vAq:GΩ
def GP:S_m9->T0:=λs=>[some (a9 s.vAq)]
abbrev Wk:=S_m9->FlC S_m9 Int
def Dy:Wk:=bw (aW (ba (λg=>.ok g.hω) (pC (·.vAq))))
def KN:Wk:=Dy
def BP(a:GΩ):OutC S_m9 Int:=cr none (KN ⟨a⟩)
theorem VM:Cl.TJ GP D.int IP KN:=aD (ai (cV (λ_=>rfl) (bp dM xp)))
theorem DW(a:GΩ):SimO GP D.int (EH [a9 a]) (BP a):=di VM rfl
structure S_u9 where
 vyq:(List Int)
 vhq:Int
def GI:S_u9->T0:=λs=>[some (eS s.vyq),some (D.int s.vhq)]
abbrev Nn:=S_u9->FlC S_u9 Int
def o8:Nn:=bw (aW (aY iR (pC (·.vyq)) (pC (·.vhq))))
def Dl:Nn:=gt (aW (aY MI (pC (·.vhq)) (ba ez (pC (·.vyq)))))
 o8
 bB
def Dk:Nn:=bw (aW (kC (0:Int)))
def KA:Nn:=au Dl
 Dk
def nO(a:List Int)(b:Int):OutC S_u9 Int:=cr none (KA ⟨a,b⟩)
theorem VD:Cl.TJ GI D.int IG KA:=aj (bH (ai (aw (ak EE xp (bp QI xp))))
 (aD (ai (cV (λ_=>rfl) (ak Ut xp xp))))
 aM)
 (aD (ai xk))
theorem lN(a:List Int)(b:Int):SimO GI D.int (m_u9 [eS a,D.int b]) (nO a b):=di VD rfl
structure S_x9 where
 vvq:(List (Option Int))
 vfq:Int
 vuq:Option (List Int)
 vEq:Option (Option Int)
def z9:S_x9->T0:=λs=>[some ((eL (eO D.int)) s.vvq),some (D.int s.vfq),s.vuq.map (eL D.int),s.vEq.map (eO D.int)]
abbrev wK:=S_x9->FlC S_x9 (Option (List Int))
def vP:wK:=bv (λa s=>{s with vuq:=some a}) (aW (jV (cD (pC (·.vfq)) (dC:_->Res (List Int)))))
def oy:wK:=bv (λa s=>{s with vEq:=some a}) (aW (aY iR (pC (·.vvq)) (aY iR (vC (·.vuq)) (ba og (kC (1:Int))))))
def iL:wK:=bw (λs=>wF ((aW (kC ())) s) λa s=>bndO ((nc:Unit->Res (Option (List Int))) a) s λb=>.ok b s)
def lh:wK:=gt (aW (xw (ba (i6 false iZ) (vC (·.vEq))) (aY (EX false) (ba fg (vC (·.vEq))) (vC (·.vuq)))))
 iL
 bB
def uv:wK:=cH (CU (λs=>s.vuq) (λs y=>{s with vuq:=some y}) jf (ba fg (vC (·.vEq))))
def gJ:wK:=au oy
 (au lh
 uv)
def Dh:wK:=sW (aW (aY (nQ true) (aY iR (vC (·.vuq)) (ba og (kC (1:Int)))) (kC (0:Int))))
 gJ 100000
def pX:wK:=bw (λs=>wF ((wN (λs=>s.vuq) (λs=>{s with vuq:=none})) s) λa s=>bndO (ig a) s λb=>.ok b s)
def Ky:wK:=au vP
 (au Dh
 pX)
def Fs(b:List (Option Int))(a:Int):OutC S_x9 (Option (List Int)):=cr (some none) (Ky ⟨b,a,none,none⟩)
theorem VA:Cl.TJ z9 (eO (eL D.int)) ID Ky:=aj (xs (ai (bW (bJ xp bV))))
 (aj (wQ (Y:=z9) (ai (aw (ak (fJ true) (ak db xv (bp oQ xk)) xk)))
 (aj (xs (ai (ak db xp (ak db xv (bp oQ xk)))))
 (aj (bH (ai (gA (aw (eU (gZ (λ_=>rfl)) xv)) (aw (ak (qD ft (by decide)) (bT cF xv) xv))))
 (aD (gX lq (ai xk)))
 aM)
 (bz (kl (λ_=>rfl) (λ_ _=>rfl) lL (bT cF xv))))) 100000)
 (aD (gX jN (gD (λ_=>rfl) (λ_=>rfl)))))
theorem V1(b:List (Option Int))(a:Int):SimO z9 (eO (eL D.int)) (m_x9 [(eL (eO D.int)) b,D.int a]) (Fs b a):=iu (d:=none) rfl VA rfl
structure S_y9 where
 v4q:Int
 vCq:Int
 vbq:Option (DI Int)
 vhq:Option Int
def GF:S_y9->T0:=λs=>[some (D.int s.v4q),some (D.int s.vCq),s.vbq.map (bM D.int),s.vhq.map D.int]
abbrev BM:=S_y9->FlC S_y9 (DI Int)
def Dg:BM:=bv (λa s=>{s with vbq:=some a}) (aW (kC ([]:DI Int)))
def uu:BM:=bv (λa s=>{s with v4q:=a}) (aW (aY eI (aY jO (aY tu (pC (·.v4q)) (kC (48271:Int))) (kC (11:Int))) (kC (2147483647:Int))))
def ut:BM:=kB (λs=>s.vbq) (λs y=>{s with vbq:=some y}) (ba io (iW (aY eI (pC (·.v4q)) (pC (·.vCq))) (aY eI (aY i9 (pC (·.v4q)) (kC (7:Int))) (pC (·.vCq))))) (aW (aY wU (aY eI (aY i9 (pC (·.v4q)) (kC (49:Int))) (kC (7:Int))) (kC (3:Int))))
def wu:BM:=au uu
 ut
def Df:BM:=cw (ba (dy 0) (aY eI (pC (·.v4q)) (kC (5:Int)))) (λa s=>{s with vhq:=some a})
 wu
def De:BM:=bw (wN (λs=>s.vbq) (λs=>{s with vbq:=none}))
def Kx:BM:=au Dg
 (au Df
 De)
def Nu(b:Int)(a:Int):OutC S_y9 (DI Int):=cr none (Kx ⟨b,a,none,none⟩)
theorem Vz:Cl.TJ GF (bM D.int) IC Kx:=aj (xs (ai (vK rfl)))
 (aj (br (dg (ak cZ xp xk)) (λ_ _=>rfl)
 (aj (xs (ai (ak cZ (ak gm (ak tX xp xk) xk) xk)))
 (fV (λ_=>rfl) (λ_ _=>rfl) (bT fB (cM (ak cZ xp xp) (ak cZ (ak gw xp xk) xp))) (ai (ak qC (ak cZ (ak gw xp xk) xk) xk)))))
 (aD (gD (λ_=>rfl) (λ_=>rfl))))
theorem V0(b:Int)(a:Int):SimO GF (bM D.int) (m_y9 [D.int b,D.int a]) (Nu b a):=eB Vz rfl
structure S_bb9 where
 vbq:(DI Int)
 v6q:(DI Int)
 vuq:(List Int)
 vrq:Option Int
def Cz:S_bb9->T0:=λs=>[some ((bM D.int) s.vbq),some ((bM D.int) s.v6q),some ((eL D.int) s.vuq),s.vrq.map D.int]
abbrev zG:=S_bb9->FlC S_bb9 (Int×Int×(List Int))
def ss:zG:=bv (λa s=>{s with vrq:=some a}) (aW (JQ (pC (·.vbq)) (ba io (iW (aY iR (pC (·.vuq)) (kC (0:Int))) (aY iR (pC (·.vuq)) (kC (1:Int))))) (kC (0:Int))))
def jF:zG:=bv (λa s=>{s with vrq:=some a}) (aW (aY Vw (pC (·.v6q)) (ba OJ (pC (·.vuq)))))
def sr:zG:=gt (aW (aY (Be false) (ba OJ (pC (·.vuq))) (pC (·.v6q))))
 jF
 bB
def sm:zG:=bw (aW (iW (aY wU (kC (0:Int)) (vC (·.vrq))) (iW (ba ez (pC (·.vuq))) (pC (·.vuq)))))
def BD:zG:=au ss
 (au sr
 sm)
def zN(b:DI Int)(c:DI Int)(a:List Int):OutC S_bb9 (Int×Int×(List Int)):=cr none (BD ⟨b,c,a,none⟩)
theorem Sd:Cl.TJ Cz (Fu D.int D.int (eL D.int)) AQ BD:=aj (xs (ai (cV (λ_=>rfl) (C5 xp (bT fB (cM (ak db xp xk) (ak db xp xk))) xk))))
 (aj (bH (ai (aw (ak (CP false) (bp xz xp) xp)))
 (xs (ai (cV (λ_=>rfl) (ak Aj xp (bp xz xp)))))
 aM)
 (aD (ai (pW (ak qC xk xv) (bp cK xp) xp))))
theorem Kv(b:DI Int)(c:DI Int)(a:List Int):SimO Cz (Fu D.int D.int (eL D.int)) (m_bb9 [(bM D.int) b,(bM D.int) c,(eL D.int) a]) (zN b c a):=di Sd rfl
structure S_bc9 where
 vFq:(List (Option (List Int)))
 voq:Option (List Int)
 vuq:Option (Option (List Int))
def Cy:S_bc9->T0:=λs=>[some ((eL (eO (eL D.int))) s.vFq),s.voq.map (eL D.int),s.vuq.map (eO (eL D.int))]
abbrev zF:=S_bc9->FlC S_bc9 (List Int)
def ze:zF:=bv (λa s=>{s with voq:=some a}) (aW (jV (dC:_->Res (List Int))))
def jE:zF:=cH (CU (λs=>s.voq) (λs y=>{s with voq:=some y}) jf (xZ (ba (i6 false iZ) (vC (·.vuq))) (ba og (kC (1:Int))) (aY iR (ba fg (vC (·.vuq))) (kC (1:Int)))))
def zd:zF:=cw (aY ye (pC (·.vFq)) (kC (1:Int))) (λa s=>{s with vuq:=some a})
 jE
def zc:zF:=bw (wN (λs=>s.voq) (λs=>{s with voq:=none}))
def BC:zF:=au ze
 (au zd
 zc)
def uL(a:List (Option (List Int))):OutC S_bc9 (List Int):=cr none (BC ⟨a,none,none⟩)
theorem Sc:Cl.TJ Cy (eL D.int) AO BC:=aj (xs (ai (bW bV)))
 (aj (br (bX (ak HF xp xk)) (λ_ _=>rfl)
 (bz (kl (λ_=>rfl) (λ_ _=>rfl) lL (Bb (aw (eU (gZ (λ_=>rfl)) xv)) (bp oQ xk) (cV (λ_=>rfl) (ak db (bT cF xv) xk))))))
 (aD (gD (λ_=>rfl) (λ_=>rfl))))
theorem Bh(a:List (Option (List Int))):SimO Cy (eL D.int) (m_bc9 [(eL (eO (eL D.int))) a]) (uL a):=eB Sc rfl
structure S_bd9 where
 v4q:Int
 vfq:Int
 vCq:Int
 vtq:Option (List Int)
 vuq:Option (List Int)
 vkq:Option Int
def vc:S_bd9->T0:=λs=>[some (D.int s.v4q),some (D.int s.vfq),some (D.int s.vCq),s.vtq.map (eL D.int),s.vuq.map (eL D.int),s.vkq.map D.int]
abbrev jh:=S_bd9->FlC S_bd9 (List Int)
def sk:jh:=bv (λa s=>{s with vtq:=some a}) (aW (cq (aY dy (kC (1:Int)) (pC (·.vCq))) (aY (nQ true) (pC λp=>p.1) (pC λp=>p.2.vfq)) (pC λp=>p.1)))
def sj:jh:=bv (λa s=>{s with vuq:=some a}) (aW (jV (cD (pC (·.vfq)) (dC:_->Res (List Int)))))
def si:jh:=bv (λa s=>{s with vkq:=some a}) (aW (aY eI (pC (·.v4q)) (kC (4:Int))))
def nF:jh:=bv (λa s=>{s with vkq:=some a}) (aW (pC (·.vCq)))
def sg:jh:=gt (aW (aY (nQ false) (aY eI (aY i9 (pC (·.v4q)) (kC (4:Int))) (kC (8:Int))) (kC (3:Int))))
 nF
 bB
def sf:jh:=bv (λa s=>{s with v4q:=a}) (aW (aY i9 (pC (·.v4q)) (kC (4:Int))))
def r9:jh:=cH (Nj (λs=>s.vuq) (λs y=>{s with vuq:=some y}) (CU (λs=>s.vtq) (λs y=>{s with vtq:=some y}) Hd (aY eI (pC (·.v4q)) (ba ez (vC (·.vtq))))))
def r8:jh:=bv (λa s=>{s with v4q:=a}) (aW (aY i9 (pC (·.v4q)) (kC (5:Int))))
def r6:jh:=bv (λa s=>{s with vkq:=some a}) (aW (aY wU (vC (·.vkq)) (kC (1:Int))))
def sC:jh:=au r9
 (au r8
 r6)
def zb:jh:=sW (aW (oI (aY Ft (vC (·.vkq)) (kC (0:Int))) (aY Ft (ba ez (vC (·.vtq))) (kC (0:Int)))))
 sC 100000
def za:jh:=bw (aW (aY h8 (vC (·.vuq)) (jV (cD (kC (0:Int)) (dC:_->Res (List Int))))))
def BA:jh:=au sk
 (au sj
 (au si
 (au sg
 (au sf
 (au zb
 za)))))
def Ef(c:Int)(a:Int)(b:Int):OutC S_bd9 (List Int):=cr none (BA ⟨c,a,b,none,none,none⟩)
theorem Sb:Cl.TJ vc (eL D.int) AN BA:=aj (xs (ai (dq (l4 xk xp) (aw (ak (fJ true) xp xp)) xp)))
 (aj (xs (ai (bW (bJ xp bV))))
 (aj (xs (ai (ak cZ xp xk)))
 (aj (bH (ai (aw (ak (fJ false) (ak cZ (ak gw xp xk) xk) xk)))
 (xs (ai xp))
 aM)
 (aj (xs (ai (ak gw xp xk)))
 (aj (wQ (Y:=vc) (ai (jx (aw (ak xA xv xk)) (aw (ak xA (bp cK xv) xk))))
 (aj (bz (HN (λ_=>rfl) (λ_ _=>rfl) (kl (λ_=>rfl) (λ_ _=>rfl) Vp (ak cZ xp (bp cK xv)))))
 (aj (xs (ai (ak gw xp xk)))
 (xs (ai (ak qC xv xk))))) 100000)
 (aD (ai (ak oR xv (bW (bJ xk bV))))))))))
theorem Sy(c:Int)(a:Int)(b:Int):SimO vc (eL D.int) (m_bd9 [D.int c,D.int a,D.int b]) (Ef c a b):=eB Sb rfl
structure S_bi9 where
 v4q:Int
 vCq:Int
 vBq:Option P1
 vhq:Option Int
 v0q:Option Int
 v2q:Option Int
def Cr:S_bi9->T0:=λs=>[some (D.int s.v4q),some (D.int s.vCq),s.vBq.map (eL (iK D.int D.int)),s.vhq.map D.int,s.v0q.map D.int,s.v2q.map D.int]
abbrev jT:=S_bi9->FlC S_bi9 P1
def rV:jT:=bv (λa s=>{s with vBq:=some a}) (aW (jV (dC:_->Res P1)))
def nD:jT:=bw (wN (λs=>s.vBq) (λs=>{s with vBq:=none}))
def rT:jT:=gt (aW (aY MI (pC (·.vCq)) (kC (2:Int))))
 nD
 bB
def mB:jT:=bv (λa s=>{s with v4q:=a}) (aW (aY eI (aY jO (aY tu (pC (·.v4q)) (kC (48271:Int))) (kC (23:Int))) (kC (2147483647:Int))))
def mz:jT:=bv (λa s=>{s with v0q:=some a}) (aW (aY eI (pC (·.v4q)) (pC (·.vCq))))
def my:jT:=bv (λa s=>{s with v2q:=some a}) (aW (aY eI (aY jO (aY jO (vC (·.v0q)) (kC (1:Int))) (aY eI (aY i9 (pC (·.v4q)) (kC (7:Int))) (aY wU (pC (·.vCq)) (kC (1:Int))))) (pC (·.vCq))))
def kO:jT:=cH (CU (λs=>s.vBq) (λs y=>{s with vBq:=some y}) jf (iW (vC (·.v0q)) (vC (·.v2q))))
def mw:jT:=gt (aW (aY (EX true) (iW (vC (·.v0q)) (vC (·.v2q))) (vC (·.vBq))))
 kO
 bB
def nI:jT:=au mB
 (au mz
 (au my
 mw))
def yT:jT:=cw (ba (dy 0) (aY eI (pC (·.v4q)) (kC (3:Int)))) (λa s=>{s with vhq:=some a})
 nI
def yS:jT:=bw (wN (λs=>s.vBq) (λs=>{s with vBq:=none}))
def wA:jT:=au rV
 (au rT
 (au yT
 yS))
def zM(b:Int)(a:Int):OutC S_bi9 P1:=cr none (wA ⟨b,a,none,none,none,none⟩)
theorem R6:Cl.TJ Cr (eL (iK D.int D.int)) AG wA:=aj (xs (ai (bW bV)))
 (aj (bH (ai (aw (ak EE xp xk)))
 (aD (gD (λ_=>rfl) (λ_=>rfl)))
 aM)
 (aj (br (dg (ak cZ xp xk)) (λ_ _=>rfl)
 (aj (xs (ai (ak cZ (ak gm (ak tX xp xk) xk) xk)))
 (aj (xs (ai (ak cZ xp xp)))
 (aj (xs (ai (ak cZ (ak gm (ak gm xv xk) (ak cZ (ak gw xp xk) (ak qC xp xk))) xp)))
 (bH (ai (aw (ak (HA (vN ft ft) (by decide)) (cM xv xv) xv)))
 (bz (kl (λ_=>rfl) (λ_ _=>rfl) lL (cM xv xv)))
 aM)))))
 (aD (gD (λ_=>rfl) (λ_=>rfl)))))
theorem Sw(b:Int)(a:Int):SimO Cr (eL (iK D.int D.int)) (m_bi9 [D.int b,D.int a]) (zM b a):=eB R6 rfl
structure S_bk9 where
 vIq:P1
 vCq:Int
 v0q:Int
def Cp:S_bk9->T0:=λs=>[some ((eL (iK D.int D.int)) s.vIq),some (D.int s.vCq),some (D.int s.v0q)]
abbrev O0:=S_bk9->FlC S_bk9 (List Int)
def yO:O0:=bw (aW (cq (ba (dy 0) (pC (·.vCq))) (aY (EX false) (iW (aY Q9 (pC λp=>p.2.v0q) (pC λp=>p.1)) (aY Rb (pC λp=>p.2.v0q) (pC λp=>p.1))) (pC λp=>p.2.vIq)) (pC λp=>p.1)))
def Bv:O0:=yO
def pG(a:P1)(b:Int)(c:Int):OutC S_bk9 (List Int):=cr none (Bv ⟨a,b,c⟩)
theorem RY:Cl.TJ Cp (eL D.int) AE Bv:=aD (ai (dq (dg xp) (aw (ak (qD (vN ft ft) (by decide)) (cM (ak Up xp xp) (ak Uq xp xp)) xp)) xp))
theorem wy(a:P1)(b:Int)(c:Int):SimO Cp (eL D.int) (m_bk9 [(eL (iK D.int D.int)) a,D.int b,D.int c]) (pG a b c):=eB RY rfl
structure S_bn9 where
 v4q:Int
 vCq:Int
 vzq:Option Int
 vIq:Option P1
 vhq:Option Int
 v0q:Option Int
 v2q:Option Int
def Co:S_bn9->T0:=λs=>[some (D.int s.v4q),some (D.int s.vCq),s.vzq.map D.int,s.vIq.map (eL (iK D.int D.int)),s.vhq.map D.int,s.v0q.map D.int,s.v2q.map D.int]
abbrev kT:=S_bn9->FlC S_bn9 P1
def yM:kT:=bv (λa s=>{s with vzq:=some a}) (aW (aY eI (aY tu (aY eI (aY tu (aY jO (pC (·.v4q)) (kC (1:Int))) (kC (48271:Int))) (kC (2147483647:Int))) (kC (16807:Int))) (kC (2147483647:Int))))
def yL:kT:=bv (λa s=>{s with vIq:=some a}) (aW (jV (dC:_->Res P1)))
def yK:kT:=bv (λa s=>{s with vhq:=some a}) (aW (kC (0:Int)))
def jd:kT:=cH (CU (λs=>s.vIq) (λs y=>{s with vIq:=some y}) jf (iW (vC (·.v0q)) (vC (·.v2q))))
def jC:kT:=gt (aW (aY (nQ false) (aY eI (aY Ti (vC (·.vzq)) (aY eI (vC (·.vhq)) (kC (29:Int)))) (kC (2:Int))) (kC (1:Int))))
 jd
 bB
def jB:kT:=bv (λa s=>{s with vhq:=some a}) (aW (aY jO (vC (·.vhq)) (kC (1:Int))))
def jJ:kT:=au jC
 jB
def l9:kT:=cw (aY dy (aY jO (vC (·.v0q)) (kC (1:Int))) (pC (·.vCq))) (λa s=>{s with v2q:=some a})
 jJ
def yJ:kT:=cw (ba (dy 0) (pC (·.vCq))) (λa s=>{s with v0q:=some a})
 l9
def yI:kT:=bw (wN (λs=>s.vIq) (λs=>{s with vIq:=none}))
def Bt:kT:=au yM
 (au yL
 (au yK
 (au yJ
 yI)))
def Eb(b:Int)(a:Int):OutC S_bn9 P1:=cr none (Bt ⟨b,a,none,none,none,none,none⟩)
theorem RV:Cl.TJ Co (eL (iK D.int D.int)) AB Bt:=aj (xs (ai (ak cZ (ak tX (ak cZ (ak tX (ak gm xp xk) xk) xk) xk) xk)))
 (aj (xs (ai (bW bV)))
 (aj (xs (ai xk))
 (aj (br (dg xp) (λ_ _=>rfl)
 (br (l4 (ak gm xv xk) xp) (λ_ _=>rfl)
 (aj (bH (ai (aw (ak (fJ false) (ak cZ (ak Uo xv (ak cZ xv xk)) xk) xk)))
 (bz (kl (λ_=>rfl) (λ_ _=>rfl) lL (cM xv xv)))
 aM)
 (xs (ai (ak gm xv xk))))))
 (aD (gD (λ_=>rfl) (λ_=>rfl))))))
theorem Ss(b:Int)(a:Int):SimO Co (eL (iK D.int D.int)) (m_bn9 [D.int b,D.int a]) (Eb b a):=eB RV rfl
structure S_bo9 where
 vcq:Int
def Ck:S_bo9->T0:=λs=>[some (D.int s.vcq)]
abbrev OZ:=S_bo9->FlC S_bo9 Bool
def yH:OZ:=bw (aW (oI (ba (S0 true) (pC (·.vcq))) (ba jU (ba (S0 false) (pC (·.vcq))))))
def Bs:OZ:=yH
def Ea(a:Int):OutC S_bo9 Bool:=cr none (Bs ⟨a⟩)
theorem RU:Cl.TJ Ck D.bl AA Bs:=aD (ai (RE (qY (e:=D.int) (n := "int") (b:=true) (λ_=>rfl) xp) (bp Hz (qY (e:=D.int) (n := "bool") (b:=false) (λ_=>rfl) xp))))
theorem Sr(a:Int):SimO Ck D.bl (m_bo9 [D.int a]) (Ea a):=di RU rfl
structure S_o9 where
 vfq:Int
 vDq:(List (Int×Int×(List Int)))
 v3q:Option (Option (Int×Int×(List Int)))
def GN:S_o9->T0:=λs=>[some (D.int s.vfq),some ((eL (Fu D.int D.int (eL D.int))) s.vDq),s.v3q.map (eO (Fu D.int D.int (eL D.int)))]
abbrev BN:=S_o9->FlC S_o9 (Option (List Int))
def pz:BN:=bw (λs=>wF ((aW (jV (cD (kC (0:Int)) (dC:_->Res (List Int))))) s) λa s=>bndO (ig a) s λb=>.ok b s)
def p6:BN:=gt (aW (aY (nQ false) (pC (·.vfq)) (kC (0:Int))))
 pz
 bB
def wc:BN:=bv (λa s=>{s with v3q:=some a}) (aW (ba OG (pC (·.vDq))))
def kJ:BN:=bw (λs=>wF ((aW (kC ())) s) λa s=>bndO ((nc:Unit->Res (Option (List Int))) a) s λb=>.ok b s)
def wa:BN:=gt (aW (ba (i6 false iZ) (vC (·.v3q))))
 kJ
 bB
def Dv:BN:=bw (λs=>wF ((aW (ba FC (ba fg (vC (·.v3q))))) s) λa s=>bndO (ig a) s λb=>.ok b s)
def KJ:BN:=au p6
 (au wc
 (au wa
 Dv))
def Nz(b:Int)(a:List (Int×Int×(List Int))):OutC S_o9 (Option (List Int)):=cr (some none) (KJ ⟨b,a,none⟩)
theorem VJ:Cl.TJ GN (eO (eL D.int)) IM KJ:=aj (bH (ai (aw (ak (fJ false) xp xk)))
 (aD (gX jN (ai (bW (bJ xk bV)))))
 aM)
 (aj (xs (ai (nn QH xp)))
 (aj (bH (ai (aw (eU (gZ (λ_=>rfl)) xv)))
 (aD (gX lq (ai xk)))
 aM)
 (aD (gX jN (ai (nn WV (bT cF xv)))))))
theorem V8(b:Int)(a:List (Int×Int×(List Int))):SimO GN (eO (eL D.int)) (m_o9 [D.int b,(eL (Fu D.int D.int (eL D.int))) a]) (Nz b a):=iu (d:=none) rfl VJ rfl
structure S_bq9 where
 vFq:(List (Option (List Int)))
def Ci:S_bq9->T0:=λs=>[some ((eL (eO (eL D.int))) s.vFq)]
abbrev OY:=S_bq9->FlC S_bq9 (List (Option Int))
def yF:OY:=bw (aW (cq (pC (·.vFq)) (λ_=>.ok true) (xZ (xw (ba (i6 false iZ) (pC λp=>p.1)) (aY MI (ba ez (ba fg (pC λp=>p.1))) (kC (2:Int)))) (ba (nc:Unit->Res (Option Int)) (kC ())) (ba ig (aY iR (ba fg (pC λp=>p.1)) (kC (1:Int)))))))
def Bq:OY:=yF
def D9(a:List (Option (List Int))):OutC S_bq9 (List (Option Int)):=cr none (Bq ⟨a⟩)
theorem RS:Cl.TJ Ci (eL (eO D.int)) Ay Bq:=aD (ai (dq (bX xp) iG (Bb (gA (aw (eU (gZ (λ_=>rfl)) xp)) (aw (ak EE (bp cK (bT cF xp)) xk))) (bT lq xk) (bT jN (cV (λ_=>rfl) (ak db (bT cF xp) xk))))))
theorem Sn(a:List (Option (List Int))):SimO Ci (eL (eO D.int)) (m_bq9 [(eL (eO (eL D.int))) a]) (D9 a):=eB RS rfl
structure S_bs9 where
 vgq:(List Int)
 v5q:Int
def Cg:S_bs9->T0:=λs=>[some ((eL D.int) s.vgq),some (D.int s.v5q)]
abbrev Lc:=S_bs9->FlC S_bs9 Unit
def wj:Lc:=jm 11
def yD:Lc:=gt (aW (xw (aY MI (aY Jh (pC (·.vgq)) (kC (0:Int))) (kC (0:Int))) (aY geC (aY OE (pC (·.vgq)) (kC (0:Int))) (pC (·.v5q)))))
 wj
 bB
def Bn:Lc:=yD
def zK(a:List Int)(b:Int):OutC S_bs9 Unit:=cr (some ()) (Bn ⟨a,b⟩)
theorem RP:Cl.TJ Cg eN Aw Bn:=bH (ai (gA (aw (ak EE (ak Mv xp xk) xk)) (aw (ak WW (ak QG xp xk) xp))))
 gO
 aM
theorem Ko(a:List Int)(b:Int):SimO Cg eN (m_bs9 [(eL D.int) a,D.int b]) (zK a b):=iu (d:=()) rfl RP rfl
structure S_bt9 where
 vnq:(List (Option Int))
 vfq:Int
 vuq:Option (List Int)
 vmq:Option (Option Int)
def u8:S_bt9->T0:=λs=>[some ((eL (eO D.int)) s.vnq),some (D.int s.vfq),s.vuq.map (eL D.int),s.vmq.map (eO D.int)]
abbrev nL:=S_bt9->FlC S_bt9 (Option (List Int))
def rD:nL:=bv (λa s=>{s with vuq:=some a}) (aW (jV (cD (pC (·.vfq)) (dC:_->Res (List Int)))))
def l8:nL:=bv (λa s=>{s with vmq:=some a}) (aW (aY iR (pC (·.vnq)) (aY iR (vC (·.vuq)) (ba og (kC (1:Int))))))
def g7:nL:=bw (λs=>wF ((aW (kC ())) s) λa s=>bndO ((nc:Unit->Res (Option (List Int))) a) s λb=>.ok b s)
def jz:nL:=gt (aW (xw (ba (i6 false iZ) (vC (·.vmq))) (aY (EX false) (ba fg (vC (·.vmq))) (vC (·.vuq)))))
 g7
 bB
def rB:nL:=cH (CU (λs=>s.vuq) (λs y=>{s with vuq:=some y}) jf (ba fg (vC (·.vmq))))
def fA:nL:=au l8
 (au jz
 rB)
def yC:nL:=sW (aW (aY (nQ true) (aY iR (vC (·.vuq)) (ba og (kC (1:Int)))) (kC (0:Int))))
 fA 100000
def nA:nL:=bw (λs=>wF ((wN (λs=>s.vuq) (λs=>{s with vuq:=none})) s) λa s=>bndO (ig a) s λb=>.ok b s)
def Bm:nL:=au rD
 (au yC
 nA)
def uG(a:List (Option Int))(b:Int):OutC S_bt9 (Option (List Int)):=cr none (Bm ⟨a,b,none,none⟩)
theorem RO:Cl.TJ u8 (eO (eL D.int)) Av Bm:=aj (xs (ai (bW (bJ xp bV))))
 (aj (wQ (Y:=u8) (ai (aw (ak (fJ true) (ak db xv (bp oQ xk)) xk)))
 (aj (xs (ai (ak db xp (ak db xv (bp oQ xk)))))
 (aj (bH (ai (gA (aw (eU (gZ (λ_=>rfl)) xv)) (aw (ak (qD ft (by decide)) (bT cF xv) xv))))
 (aD (gX lq (ai xk)))
 aM)
 (bz (kl (λ_=>rfl) (λ_ _=>rfl) lL (bT cF xv))))) 100000)
 (aD (gX jN (Mx (λ_=>rfl) (gD (λ_=>rfl) (λ_=>rfl))))))
theorem Sl(a:List (Option Int))(b:Int):SimO u8 (eO (eL D.int)) (m_bt9 [(eL (eO D.int)) a,D.int b]) (uG a b):=eB RO rfl
structure S_bv9 where
 vwq:(List (List (Option Int)))
 v9q:(List (Option Int))
 vjq:Option (List (List (Option Int)))
 vvq:Option (List (Option Int))
def Ce:S_bv9->T0:=λs=>[some ((eL (eL (eO D.int))) s.vwq),some ((eL (eO D.int)) s.v9q),s.vjq.map (eL (eL (eO D.int))),s.vvq.map (eL (eO D.int))]
abbrev zD:=S_bv9->FlC S_bv9 (List (List (Option Int)))
def yy:zD:=bv (λa s=>{s with vjq:=some a}) (aW (jV (dC:_->Res (List (List (Option Int))))))
def l6:zD:=cH (CU (λs=>s.vjq) (λs y=>{s with vjq:=some y}) JS (cq (pC (·.v9q)) (λ_=>.ok true) (aY h8 (vC λp=>p.2.vvq) (jV (cD (pC λp=>p.1) (dC:_->Res (List (Option Int))))))))
def yx:zD:=cw (pC (·.vwq)) (λa s=>{s with vvq:=some a})
 l6
def yw:zD:=bw (wN (λs=>s.vjq) (λs=>{s with vjq:=none}))
def Bk:zD:=au yy
 (au yx
 yw)
def D6(a:List (List (Option Int)))(b:List (Option Int)):OutC S_bv9 (List (List (Option Int))):=cr none (Bk ⟨a,b,none,none⟩)
theorem RM:Cl.TJ Ce (eL (eL (eO D.int))) At Bk:=aj (xs (ai (bW bV)))
 (aj (br (bX xp) (λ_ _=>rfl)
 (bz (kl (λ_=>rfl) (λ_ _=>rfl) Vq (dq (bX xp) iG (ak oR xv (bW (bJ xp bV)))))))
 (aD (gD (λ_=>rfl) (λ_=>rfl))))
theorem Sj(a:List (List (Option Int)))(b:List (Option Int)):SimO Ce (eL (eL (eO D.int))) (m_bv9 [(eL (eL (eO D.int))) a,(eL (eO D.int)) b]) (D6 a b):=eB RM rfl
structure S_h9 where
 vAq:GΩ
 vgq:(List Int)
def GU:S_h9->T0:=λs=>[some (a9 s.vAq),some ((eL D.int) s.vgq)]
abbrev Wm:=S_h9->FlC S_h9 Unit
def DJ:Wm:=cH (aW (cJ zK (pC (·.vgq)) (ba (λg=>.ok g.hω) (pC (·.vAq)))))
def KW:Wm:=DJ
def zI(b:GΩ)(a:List Int):OutC S_h9 Unit:=cr (some ()) (KW ⟨b,a⟩)
theorem VR:Cl.TJ GU eN IU KW:=bz (ai (b9 (λb a=>Ko b a) xp (cV (λ_=>rfl) (bp dM xp))))
theorem zo(b:GΩ)(a:List Int):SimO GU eN (AV [a9 b,(eL D.int) a]) (zI b a):=iu (d:=()) rfl VR rfl
structure S_t9 where
 vbq:(DI Int)
 v6q:(DI Int)
 vBq:P1
 vfq:Int
 vHq:(List (Option (List Int)))
 v3q:Option (Option (List Int))
 vuq:Option (Option (List Int))
 vlq:Option (List Int)
def GJ:S_t9->T0:=λs=>[some ((bM D.int) s.vbq),some ((bM D.int) s.v6q),some ((eL (iK D.int D.int)) s.vBq),some (D.int s.vfq),some ((eL (eO (eL D.int))) s.vHq),s.v3q.map (eO (eL D.int)),s.vuq.map (eO (eL D.int)),s.vlq.map (eL D.int)]
abbrev pK:=S_t9->FlC S_t9 (Option (List Int))
def o9:pK:=bw (λs=>wF ((aW (jV (cD (kC (0:Int)) (dC:_->Res (List Int))))) s) λa s=>bndO (ig a) s λb=>.ok b s)
def vU:pK:=gt (aW (aY (nQ false) (pC (·.vfq)) (kC (0:Int))))
 o9
 bB
def Dp:pK:=bv (λa s=>{s with v3q:=some a}) (λs=>wF ((aW (kC ())) s) λa s=>bndO ((nc:Unit->Res (Option (List Int))) a) s λb=>.ok b s)
def fT:pK:=gt (aW (xw (ba (i6 false iZ) (vC (·.vuq))) (aY (EX false) (pC (·.vfq)) (ba fg (vC (·.vuq))))))
 M9
 bB
def ja:pK:=gt (aW (aY Ft (ba ez (cq (ba fg (vC (·.vuq))) (aY (EX false) (iW (pC λp=>p.2.vfq) (pC λp=>p.1)) (pC λp=>p.2.vBq)) (pC λp=>p.1))) (kC (0:Int))))
 M9
 bB
def lj:pK:=bv (λa s=>{s with vlq:=some a}) (aW (aY h8 (jV (cD (pC (·.vfq)) (dC:_->Res (List Int)))) (ba fg (vC (·.vuq)))))
def iM:pK:=bv (λa s=>{s with v3q:=some a}) (λs=>wF ((aW (vC (·.vlq))) s) λa s=>bndO (ig a) s λb=>.ok b s)
def li:pK:=gt (aW (xw (ba (i6 false iZ) (vC (·.v3q))) (aY Va (gI zN (pC (·.vbq)) (pC (·.v6q)) (vC (·.vlq))) (gI zN (pC (·.vbq)) (pC (·.v6q)) (ba fg (vC (·.v3q)))))))
 iM
 bB
def nG:pK:=au fT
 (au ja
 (au lj
 li))
def Do:pK:=cw (pC (·.vHq)) (λa s=>{s with vuq:=some a})
 nG
def Dm:pK:=bw (aW (vC (·.v3q)))
def KD:pK:=au vU
 (au Dp
 (au Do
 Dm))
def Lh(c:DI Int)(d:DI Int)(e:P1)(a:Int)(b:List (Option (List Int))):OutC S_t9 (Option (List Int)):=cr (some none) (KD ⟨c,d,e,a,b,none,none,none⟩)
theorem VE:Cl.TJ GJ (eO (eL D.int)) IH KD:=aj (bH (ai (aw (ak (fJ false) xp xk)))
 (aD (gX jN (ai (bW (bJ xk bV)))))
 aM)
 (aj (xs (gX lq (ai xk)))
 (aj (br (bX xp) (λ_ _=>rfl)
 (aj (bH (ai (gA (aw (eU (gZ (λ_=>rfl)) xv)) (aw (ak (qD ft (by decide)) xp (bT cF xv)))))
 FA
 aM)
 (aj (bH (ai (aw (ak xA (bp cK (dq (bX (bT cF xv)) (aw (ak (qD (vN ft ft) (by decide)) (cM xp (cV (λ_=>rfl) xp)) xp)) (cV (λ_=>rfl) xp))) xk)))
 FA
 aM)
 (aj (xs (ai (ak oR (bW (bJ xp bV)) (bT cF (qZ (FW (uW (λ_=>rfl))) xv)))))
 (bH (ai (gA (aw (eU (gZ (λ_=>rfl)) xv)) (aw (ak Us (eT (λc b a=>Kv c b a) xp xp xv) (eT (λc b a=>Kv c b a) xp xp (bT cF xv))))))
 (xs (gX jN (ai xv)))
 aM)))))
 (aD (ai xv))))
theorem OP(c:DI Int)(e:DI Int)(f:P1)(a:Int)(b:List (Option (List Int))):SimO GJ (eO (eL D.int)) (m_t9 [(bM D.int) c,(bM D.int) e,(eL (iK D.int D.int)) f,D.int a,(eL (eO (eL D.int))) b]) (Lh c e f a b):=iu (d:=none) rfl VE rfl
structure S_v9 where
 v4q:Int
 vCq:Int
 v6q:Option (DI Int)
 vhq:Option Int
 vuq:Option (List Int)
def GH:S_v9->T0:=λs=>[some (D.int s.v4q),some (D.int s.vCq),s.v6q.map (bM D.int),s.vhq.map D.int,s.vuq.map (eL D.int)]
abbrev tG:=S_v9->FlC S_v9 (DI Int)
def vT:tG:=bv (λa s=>{s with v6q:=some a}) (aW (kC ([]:DI Int)))
def o7:tG:=bw (wN (λs=>s.v6q) (λs=>{s with v6q:=none}))
def vS:tG:=gt (aW (aY MI (pC (·.vCq)) (kC (2:Int))))
 o7
 bB
def uz:tG:=bv (λa s=>{s with v4q:=a}) (aW (aY eI (aY jO (aY tu (pC (·.v4q)) (kC (48271:Int))) (kC (17:Int))) (kC (2147483647:Int))))
def uy:tG:=bv (λa s=>{s with vuq:=some a}) (aW (gI Ef (aY i9 (pC (·.v4q)) (kC (9:Int))) (aY jO (kC (1:Int)) (aY eI (pC (·.v4q)) (aY wU (pC (·.vCq)) (kC (1:Int))))) (pC (·.vCq))))
def uw:tG:=kB (λs=>s.v6q) (λs y=>{s with v6q:=some y}) (ba OJ (vC (·.vuq))) (aW (aY wU (aY eI (aY i9 (pC (·.v4q)) (kC (5:Int))) (kC (9:Int))) (kC (4:Int))))
def wx:tG:=au uz
 (au uy
 uw)
def Dj:tG:=cw (ba (dy 0) (aY eI (pC (·.v4q)) (kC (4:Int)))) (λa s=>{s with vhq:=some a})
 wx
def Di:tG:=bw (wN (λs=>s.v6q) (λs=>{s with v6q:=none}))
def DX:tG:=au vT
 (au vS
 (au Dj
 Di))
def Lg(b:Int)(a:Int):OutC S_v9 (DI Int):=cr none (DX ⟨b,a,none,none,none⟩)
theorem VC:Cl.TJ GH (bM D.int) IF DX:=aj (xs (ai (vK rfl)))
 (aj (bH (ai (aw (ak EE xp xk)))
 (aD (gD (λ_=>rfl) (λ_=>rfl)))
 aM)
 (aj (br (dg (ak cZ xp xk)) (λ_ _=>rfl)
 (aj (xs (ai (ak cZ (ak gm (ak tX xp xk) xk) xk)))
 (aj (xs (ai (eT (λc b a=>Sy c b a) (ak gw xp xk) (ak gm xk (ak cZ xp (ak qC xp xk))) xp)))
 (fV (λ_=>rfl) (λ_ _=>rfl) (bp xz xv) (ai (ak qC (ak cZ (ak gw xp xk) xk) xk))))))
 (aD (gD (λ_=>rfl) (λ_=>rfl)))))
theorem V3(b:Int)(a:Int):SimO GH (bM D.int) (m_v9 [D.int b,D.int a]) (Lg b a):=eB VC rfl
structure S_be9 where
 vIq:P1
 vCq:Int
 vwq:Option (List (List (Option Int)))
 vfq:Option Int
 vjq:Option (List (List (Option Int)))
 vvq:Option (List (Option Int))
 vEq:Option (Option Int)
def Cw:S_be9->T0:=λs=>[some ((eL (iK D.int D.int)) s.vIq),some (D.int s.vCq),s.vwq.map (eL (eL (eO D.int))),s.vfq.map D.int,s.vjq.map (eL (eL (eO D.int))),s.vvq.map (eL (eO D.int)),s.vEq.map (eO D.int)]
abbrev lP:=S_be9->FlC S_be9 (List (List (Option Int)))
def y9:lP:=bv (λa s=>{s with vwq:=some a}) (λs=>wF ((aW (jV (cD (jV (cD (kC ()) (dC:_->Res (List Unit)))) (dC:_->Res (List (List Unit)))))) s) λa s=>bndO ((BO:List (List Unit)->Res (List (List (Option Int)))) a) s λb=>.ok b s)
def mH:lP:=bv (λa s=>{s with vjq:=some a}) (aW (jV (dC:_->Res (List (List (Option Int))))))
def hZ:lP:=cH (CU (λs=>s.vjq) (λs y=>{s with vjq:=some y}) jf (aY h8 (vC (·.vvq)) (jV (cD (vC (·.vEq)) (dC:_->Res (List (Option Int)))))))
def jD:lP:=cw (aY h8 (ba (D4:List Unit->Res (List (Option Int))) (jV (cD (kC ()) (dC:_->Res (List Unit))))) (ba zH (gI pG (pC (·.vIq)) (pC (·.vCq)) (vC (·.vfq))))) (λa s=>{s with vEq:=some a})
 hZ
def mF:lP:=cw (vC (·.vwq)) (λa s=>{s with vvq:=some a})
 jD
def r0:lP:=bv (λa s=>{s with vwq:=some a}) (wN (λs=>s.vjq) (λs=>{s with vjq:=none}))
def sy:lP:=au mH
 (au mF
 r0)
def y8:lP:=cw (aY dy (kC (1:Int)) (pC (·.vCq))) (λa s=>{s with vfq:=some a})
 sy
def y7:lP:=bw (aW (vC (·.vwq)))
def Bz:lP:=au y9
 (au y8
 y7)
def Ee(a:P1)(b:Int):OutC S_be9 (List (List (Option Int))):=cr none (Bz ⟨a,b,none,none,none,none,none⟩)
theorem Sa:Cl.TJ Cw (eL (eL (eO D.int))) AM Bz:=aj (xs (gX zx (ai (bW (bJ (bW (bJ xk bV)) bV)))))
 (aj (br (l4 xk xp) (λ_ _=>rfl)
 (aj (xs (ai (bW bV)))
 (aj (br (bX xv) (λ_ _=>rfl)
 (br (bX (ak oR (bT wG (bW (bJ xk bV))) (bT p8 (eT (λc b a=>wy c b a) xp xp xv)))) (λ_ _=>rfl)
 (bz (kl (λ_=>rfl) (λ_ _=>rfl) lL (ak oR xv (bW (bJ xv bV)))))))
 (xs (gD (λ_=>rfl) (λ_=>rfl))))))
 (aD (ai xv)))
theorem Sx(a:P1)(b:Int):SimO Cw (eL (eL (eO D.int))) (m_be9 [(eL (iK D.int D.int)) a,D.int b]) (Ee a b):=di Sa rfl
structure S_bf9 where
 vcq:(Option (List Int))
 v7q:(Option (List Int))
 vfq:Option Int
def Cu:S_bf9->T0:=λs=>[some ((eO (eL D.int)) s.vcq),some ((eO (eL D.int)) s.v7q),s.vfq.map D.int]
abbrev nM:=S_bf9->FlC S_bf9 Bool
def nE:nM:=bw (aW (ba (i6 false iZ) (pC (·.vcq))))
def rZ:nM:=gt (aW (ba (i6 false iZ) (pC (·.v7q))))
 nE
 bB
def wp:nM:=bw (aW (kC false))
def y0:nM:=gt (aW (xw (ba jU (ba (Um false true) (pC (·.vcq)))) (aY (nQ true) (ba ez (ba fg (pC (·.vcq)))) (ba ez (ba fg (pC (·.v7q)))))))
 wp
 bB
def rY:nM:=bw (aW (kC false))
def mE:nM:=gt (aW (ba jU (kh Ea (vC (·.vfq)))))
 rY
 bB
def yZ:nM:=cw (ba fg (pC (·.vcq))) (λa s=>{s with vfq:=some a})
 mE
def yY:nM:=bw (aW (aY (nQ false) (pC (·.vcq)) (pC (·.v7q))))
def wB:nM:=au rZ
 (au y0
 (au yZ
 yY))
def uK(a:Option (List Int))(b:Option (List Int)):OutC S_bf9 Bool:=cr none (wB ⟨a,b,none⟩)
theorem R9:Cl.TJ Cu D.bl AK wB:=aj (bH (ai (aw (eU (gZ (λ_=>rfl)) xp)))
 (aD (ai (eU (gZ (λ_=>rfl)) xp)))
 aM)
 (aj (bH (ai (gA (d7 (aw (nn (QF (e:=(eL D.int)) rfl (λ_=>rfl)) xp))) (aw (ak (fJ true) (bp cK (bT cF xp)) (bp cK (bT cF xp))))))
 (aD (ai xk))
 aM)
 (aj (br (bX (bT cF xp)) (λ_ _=>rfl)
 (bH (ai (d7 (aw (iJ (λa=>Sr a) (cV (λ_=>rfl) xv)))))
 (aD (ai xk))
 aM))
 (aD (ai (ak (xB (uq (o3 ft) (nu _)) (by decide) false) xp xp)))))
theorem Ku(a:Option (List Int))(b:Option (List Int)):SimO Cu D.bl (m_bf9 [(eO (eL D.int)) a,(eO (eL D.int)) b]) (uK a b):=di R9 rfl
structure S_bp9 where
 veq:GΩ
 vfq:Int
 vuq:(Option (List Int))
def Cj:S_bp9->T0:=λs=>[some (a9 s.veq),some (D.int s.vfq),some ((eO (eL D.int)) s.vuq)]
abbrev D1:=S_bp9->FlC S_bp9 Bool
def fw:D1:=bw (aW (kC false))
def kN:D1:=gt (aW (xw (ba (i6 false iZ) (pC (·.vuq))) (xw (aY (nQ false) (pC (·.vfq)) (kC (0:Int))) (aY (EX false) (pC (·.vfq)) (ba fg (pC (·.vuq)))))))
 fw
 bB
def yG:D1:=bw (aW (ba jU (gI NB (pC (·.veq)) (pC (·.vfq)) (ba fg (pC (·.vuq))))))
def Br:D1:=au kN
 yG
def zL(b:GΩ)(a:Int)(c:Option (List Int)):OutC S_bp9 Bool:=cr none (Br ⟨b,a,c⟩)
theorem RT:Cl.TJ Cj D.bl Az Br:=aj (bH (ai (gA (aw (eU (gZ (λ_=>rfl)) xp)) (gA (aw (ak (fJ false) xp xk)) (aw (ak (qD ft (by decide)) xp (bT cF xp))))))
 (aD (ai xk))
 aM)
 (aD (ai (bp Hz (qX (λ_=>rfl) (λc b a=>Wa c b a) xp xp (bT cF xp)))))
theorem Sq(b:GΩ)(a:Int)(c:Option (List Int)):SimO Cj D.bl (m_bp9 [a9 b,D.int a,(eO (eL D.int)) c]) (zL b a c):=di RT rfl
structure S_br9 where
 vHq:(List (Option (List Int)))
 v5q:Int
 vuq:Option (Option (List Int))
def Ch:S_br9->T0:=λs=>[some ((eL (eO (eL D.int))) s.vHq),some (D.int s.v5q),s.vuq.map (eO (eL D.int))]
abbrev D0:=S_br9->FlC S_br9 Unit
def kM:D0:=cH (aW (cJ zK (ba fg (vC (·.vuq))) (pC (·.v5q))))
def jA:D0:=gt (aW (ba (i6 true iZ) (vC (·.vuq))))
 kM
 bB
def yE:D0:=cw (pC (·.vHq)) (λa s=>{s with vuq:=some a})
 jA
def Bp:D0:=yE
def D8(b:List (Option (List Int)))(a:Int):OutC S_br9 Unit:=cr (some ()) (Bp ⟨b,a,none⟩)
theorem RQ:Cl.TJ Ch eN Ax Bp:=br (bX xp) (λ_ _=>rfl)
 (bH (ai (aw (eU (gZ (λ_=>rfl)) xv)))
 (bz (ai (b9 (λb a=>Ko b a) (bT cF xv) xp)))
 aM)
theorem Sm(b:List (Option (List Int)))(a:Int):SimO Ch eN (m_br9 [(eL (eO (eL D.int))) b,D.int a]) (D8 b a):=iu (d:=()) rfl RQ rfl
structure S_by9 where
 vnq:(List (Option Int))
def Cb:S_by9->T0:=λs=>[some ((eL (eO D.int)) s.vnq)]
abbrev OW:=S_by9->FlC S_by9 (List (Option (List Int)))
def yr:OW:=bw (aW (cq (ba (dy 0) (ba ez (pC (·.vnq)))) (λ_=>.ok true) (cJ uG (pC λp=>p.2.vnq) (pC λp=>p.1))))
def Bi:OW:=yr
def D5(a:List (Option Int)):OutC S_by9 (List (Option (List Int))):=cr none (Bi ⟨a⟩)
theorem RJ:Cl.TJ Cb (eL (eO (eL D.int))) Ao Bi:=aD (ai (dq (dg (bp cK xp)) iG (b9 (λb a=>Sl b a) xp xp)))
theorem Sg(a:List (Option Int)):SimO Cb (eL (eO (eL D.int))) (m_by9 [(eL (eO D.int)) a]) (D5 a):=eB RJ rfl
structure S_d9 where
 vAq:GΩ
 v0q:Int
 v2q:Int
 vrq:Int
def GY:S_d9->T0:=λs=>[some (a9 s.vAq),some (D.int s.v0q),some (D.int s.v2q),some (D.int s.vrq)]
abbrev SS:=S_d9->FlC S_d9 Unit
def DP:SS:=cH (aW (cJ zI (pC (·.vAq)) (jV (cD (pC (·.v0q)) (cD (pC (·.v2q)) (dC:_->Res (List Int)))))))
def DO:SS:=kB (λs=>some s.vAq.lω) (λs y=>{s with vAq:={s.vAq with lω:=y}}) (ba io (iW (pC (·.v0q)) (pC (·.v2q)))) (aW (pC (·.vrq)))
def K1:SS:=au DP
 DO
def Lm(a:GΩ)(d:Int)(c:Int)(b:Int):OutC S_d9 Unit:=cr (some ()) (K1 ⟨a,d,c,b⟩)
theorem VV:Cl.TJ GY eN IY K1:=aj (bz (ai (iH (λ_=>rfl) (λb a=>zo b a) xp (bW (bJ xp (bJ xp bV))))))
 (fV (λ_=>rfl) (λ_ _=>rfl) (bT fB (cM xp xp)) (ai xp))
theorem OT(a:GΩ)(e:Int)(c:Int)(b:Int):SimO GY eN (MH [a9 a,D.int e,D.int c,D.int b]) (Lm a e c b):=iu (d:=()) rfl VV rfl
structure S_e9 where
 vAq:GΩ
 v0q:Int
 v2q:Int
def GX:S_e9->T0:=λs=>[some (a9 s.vAq),some (D.int s.v0q),some (D.int s.v2q)]
abbrev SR:=S_e9->FlC S_e9 Int
def DN:SR:=cH (aW (cJ zI (pC (·.vAq)) (jV (cD (pC (·.v0q)) (cD (pC (·.v2q)) (dC:_->Res (List Int)))))))
def DM:SR:=bw (aW (JQ (ba (λg=>.ok g.lω) (pC (·.vAq))) (ba io (iW (pC (·.v0q)) (pC (·.v2q)))) (kC (0:Int))))
def K0:SR:=au DN
 DM
def NE(a:GΩ)(c:Int)(b:Int):OutC S_e9 Int:=cr none (K0 ⟨a,c,b⟩)
theorem VU:Cl.TJ GX D.int IX K0:=aj (bz (ai (iH (λ_=>rfl) (λb a=>zo b a) xp (bW (bJ xp (bJ xp bV))))))
 (aD (ai (cV (λ_=>rfl) (C5 (bp n9 xp) (bT fB (cM xp xp)) xk))))
theorem Wd(a:GΩ)(c:Int)(b:Int):SimO GX D.int (Rj [a9 a,D.int c,D.int b]) (NE a c b):=di VU rfl
structure S_f9 where
 vAq:GΩ
 v0q:Int
def GW:S_f9->T0:=λs=>[some (a9 s.vAq),some (D.int s.v0q)]
abbrev SQ:=S_f9->FlC S_f9 (List Int)
def DL:SQ:=cH (aW (cJ zI (pC (·.vAq)) (jV (cD (pC (·.v0q)) (dC:_->Res (List Int))))))
def DK:SQ:=bw (aW (gI NG (pC (·.vAq)) (ba (λg=>.ok g.U) (pC (·.vAq))) (pC (·.v0q))))
def KZ:SQ:=au DL
 DK
def Ll(a:GΩ)(b:Int):OutC S_f9 (List Int):=cr none (KZ ⟨a,b⟩)
theorem VT:Cl.TJ GW (eL D.int) IW KZ:=aj (bz (ai (iH (λ_=>rfl) (λb a=>zo b a) xp (bW (bJ xp bV)))))
 (aD (ai (qX (λ_=>rfl) (λb a c=>Wg b a c) xp (bp lH xp) xp)))
theorem OS(a:GΩ)(b:Int):SimO GW (eL D.int) (MG [a9 a,D.int b]) (Ll a b):=eB VT rfl
structure S_i9 where
 vAq:GΩ
 vuq:(List Int)
def GT:S_i9->T0:=λs=>[some (a9 s.vAq),some ((eL D.int) s.vuq)]
abbrev zC:=S_i9->FlC S_i9 Unit
def DH:zC:=cH (aW (cJ zI (pC (·.vAq)) (pC (·.vuq))))
def yp:zC:=jm 14
def DG:zC:=gt (aW (aY MI (ba ez (pC (·.vuq))) (kC (2:Int))))
 yp
 bB
def yo:zC:=jm 14
def DF:zC:=gt (aW (aY (nQ true) (aY iR (pC (·.vuq)) (ba og (kC (1:Int)))) (kC (0:Int))))
 yo
 bB
def yn:zC:=jm 14
def DE:zC:=gt (aW (aY (nQ true) (ba vD (pC (·.vuq))) (ba ez (pC (·.vuq)))))
 yn
 bB
def KU:zC:=au DH
 (au DG
 (au DF
 DE))
def Lk(a:GΩ)(b:List Int):OutC S_i9 Unit:=cr (some ()) (KU ⟨a,b⟩)
theorem VQ:Cl.TJ GT eN IT KU:=aj (bz (ai (iH (λ_=>rfl) (λb a=>zo b a) xp xp)))
 (aj (bH (ai (aw (ak EE (bp cK xp) xk)))
 gO
 aM)
 (aj (bH (ai (aw (ak (fJ true) (ak db xp (bp oQ xk)) xk)))
 gO
 aM)
 (bH (ai (aw (ak (fJ true) (bp HB xp) (bp cK xp))))
 gO
 aM)))
theorem OR(a:GΩ)(b:List Int):SimO GT eN (MF [a9 a,(eL D.int) b]) (Lk a b):=iu (d:=()) rfl VQ rfl
structure S_j9 where
 vAq:GΩ
 v0q:Int
 v2q:Int
def GS:S_j9->T0:=λs=>[some (a9 s.vAq),some (D.int s.v0q),some (D.int s.v2q)]
abbrev No:=S_j9->FlC S_j9 Unit
def DD:No:=cH (aW (cJ zI (pC (·.vAq)) (jV (cD (pC (·.v0q)) (cD (pC (·.v2q)) (dC:_->Res (List Int)))))))
def ym:No:=jm 11
def DC:No:=gt (aW (aY (nQ false) (pC (·.v0q)) (pC (·.v2q))))
 ym
 bB
def KS:No:=au DD
 DC
def Lj(a:GΩ)(c:Int)(b:Int):OutC S_j9 Unit:=cr (some ()) (KS ⟨a,c,b⟩)
theorem VP:Cl.TJ GS eN IS KS:=aj (bz (ai (iH (λ_=>rfl) (λb a=>zo b a) xp (bW (bJ xp (bJ xp bV))))))
 (bH (ai (aw (ak (fJ false) xp xp)))
 gO
 aM)
theorem OQ(a:GΩ)(c:Int)(b:Int):SimO GS eN (ME [a9 a,D.int c,D.int b]) (Lj a c b):=iu (d:=()) rfl VP rfl
structure S_z9 where
 vIq:P1
 vxq:((DI Int)×(DI Int)×P1)
 vCq:Int
 vFq:Option (List (Option (List Int)))
 vhq:Option Int
 v1q:Option (List (Option (List Int)))
 vfq:Option Int
 vHq:Option (List (Option (List Int)))
def GE:S_z9->T0:=λs=>[some ((eL (iK D.int D.int)) s.vIq),some ((Bd (bM D.int) (bM D.int) (eL (iK D.int D.int))) s.vxq),some (D.int s.vCq),s.vFq.map (eL (eO (eL D.int))),s.vhq.map D.int,s.v1q.map (eL (eO (eL D.int))),s.vfq.map D.int,s.vHq.map (eL (eO (eL D.int)))]
abbrev sN:=S_z9->FlC S_z9 (List (Option (List Int)))
def vO:sN:=bv (λa s=>{s with vFq:=some a}) (aW (aY h8 (ba zH (jV (cD (jV (cD (kC (0:Int)) (dC:_->Res (List Int)))) (dC:_->Res (List (List Int)))))) (ba (D4:List Unit->Res (List (Option (List Int)))) (cq (aY dy (kC (1:Int)) (pC (·.vCq))) (λ_=>.ok true) (kC ())))))
def ou:sN:=bv (λa s=>{s with v1q:=some a}) (aW (jV (dC:_->Res (List (Option (List Int))))))
def kH:sN:=bv (λa s=>{s with vHq:=some a}) (aW (cq (gI pG (pC (·.vIq)) (pC (·.vCq)) (vC (·.vfq))) (λ_=>.ok true) (aY iR (vC λp=>p.2.vFq) (pC λp=>p.1))))
def o4:sN:=cH (CU (λs=>s.v1q) (λs y=>{s with v1q:=some y}) jf (Mm Lh (ba Rz (pC (·.vxq))) (ba IA (pC (·.vxq))) (ba FC (pC (·.vxq))) (vC (·.vfq)) (vC (·.vHq))))
def oG:sN:=au kH
 o4
def ot:sN:=cw (ba (dy 0) (pC (·.vCq))) (λa s=>{s with vfq:=some a})
 oG
def ur:sN:=bv (λa s=>{s with vFq:=some a}) (wN (λs=>s.v1q) (λs=>{s with v1q:=none}))
def wt:sN:=au ou
 (au ot
 ur)
def Dc:sN:=cw (ba (dy 0) (kC (6:Int))) (λa s=>{s with vhq:=some a})
 wt
def Db:sN:=bw (aW (vC (·.vFq)))
def Kw:sN:=au vO
 (au Dc
 Db)
def Nt(a:P1)(c:(DI Int)×(DI Int)×P1)(b:Int):OutC S_z9 (List (Option (List Int))):=cr none (Kw ⟨a,c,b,none,none,none,none,none⟩)
theorem Vy:Cl.TJ GE (eL (eO (eL D.int))) IB Kw:=aj (xs (ai (ak oR (bT p8 (bW (bJ (bW (bJ xk bV)) bV))) (bT wG (dq (l4 xk xp) iG xk)))))
 (aj (br (dg xk) (λ_ _=>rfl)
 (aj (xs (ai (bW bV)))
 (aj (br (dg xp) (λ_ _=>rfl)
 (aj (xs (ai (dq (bX (eT (λc b a=>wy c b a) xp xp xv)) iG (ak db xv xp))))
 (bz (kl (λ_=>rfl) (λ_ _=>rfl) lL (Ba (λc b a e d=>OP c b a e d) (nn Uw xp) (nn Uv xp) (nn Uu xp) xv xv)))))
 (xs (gD (λ_=>rfl) (λ_=>rfl))))))
 (aD (ai xv)))
theorem VZ(a:P1)(c:(DI Int)×(DI Int)×P1)(b:Int):SimO GE (eL (eO (eL D.int))) (m_z9 [(eL (iK D.int D.int)) a,(Bd (bM D.int) (bM D.int) (eL (iK D.int D.int))) c,D.int b]) (Nt a c b):=di Vy rfl
structure S_bg9 where
 vcq:(List (Option (List Int)))
 v7q:(List (Option (List Int)))
 vhq:Option Int
def Ct:S_bg9->T0:=λs=>[some ((eL (eO (eL D.int))) s.vcq),some ((eL (eO (eL D.int))) s.v7q),s.vhq.map D.int]
abbrev sQ:=S_bg9->FlC S_bg9 Bool
def wo:sQ:=bw (aW (kC false))
def yX:sQ:=gt (aW (xw (ba jU (ba (S0 true) (pC (·.vcq)))) (aY (nQ true) (ba ez (pC (·.vcq))) (ba ez (pC (·.v7q))))))
 wo
 bB
def rX:sQ:=bw (aW (kC false))
def mD:sQ:=gt (aW (ba jU (cJ uK (aY iR (pC (·.vcq)) (vC (·.vhq))) (aY iR (pC (·.v7q)) (vC (·.vhq))))))
 rX
 bB
def yW:sQ:=cw (ba (dy 0) (ba ez (pC (·.v7q)))) (λa s=>{s with vhq:=some a})
 mD
def yV:sQ:=bw (aW (kC true))
def By:sQ:=au yX
 (au yW
 yV)
def uJ(a:List (Option (List Int)))(b:List (Option (List Int))):OutC S_bg9 Bool:=cr none (By ⟨a,b,none⟩)
theorem R8:Cl.TJ Ct D.bl AI By:=aj (bH (ai (gA (d7 (aw (qY (e:=(eL (eO (eL D.int)))) (n := "list") (b:=true) (λ_=>rfl) xp))) (aw (ak (fJ true) (bp cK xp) (bp cK xp)))))
 (aD (ai xk))
 aM)
 (aj (br (dg (bp cK xp)) (λ_ _=>rfl)
 (bH (ai (d7 (aw (b9 (λc a=>Ku c a) (ak db xp xv) (ak db xp xv)))))
 (aD (ai xk))
 aM))
 (aD (ai xk)))
theorem Ks(a:List (Option (List Int)))(b:List (Option (List Int))):SimO Ct D.bl (m_bg9 [(eL (eO (eL D.int))) a,(eL (eO (eL D.int))) b]) (uJ a b):=di R8 rfl
structure S_bh9 where
 vIq:P1
 vxq:((DI Int)×(DI Int)×P1)
 vFq:(List (Option (List Int)))
 vfq:Option Int
 vHq:Option (List (Option (List Int)))
def Cs:S_bh9->T0:=λs=>[some ((eL (iK D.int D.int)) s.vIq),some ((Bd (bM D.int) (bM D.int) (eL (iK D.int D.int))) s.vxq),some ((eL (eO (eL D.int))) s.vFq),s.vfq.map D.int,s.vHq.map (eL (eO (eL D.int)))]
abbrev sP:=S_bh9->FlC S_bh9 Bool
def hE:sP:=bv (λa s=>{s with vHq:=some a}) (aW (cq (gI pG (pC (·.vIq)) (ba ez (pC (·.vFq))) (vC (·.vfq))) (λ_=>.ok true) (aY iR (pC λp=>p.2.vFq) (pC λp=>p.1))))
def g8:sP:=bw (aW (kC false))
def g9:sP:=gt (aW (aY (nQ true) (Mm Lh (ba Rz (pC (·.vxq))) (ba IA (pC (·.vxq))) (ba FC (pC (·.vxq))) (vC (·.vfq)) (vC (·.vHq))) (aY iR (pC (·.vFq)) (vC (·.vfq)))))
 g8
 bB
def zn:sP:=au hE
 g9
def rW:sP:=cw (ba (dy 0) (ba ez (pC (·.vFq)))) (λa s=>{s with vfq:=some a})
 zn
def yU:sP:=bw (aW (kC true))
def Bx:sP:=au rW
 yU
def uI(b:P1)(c:(DI Int)×(DI Int)×P1)(a:List (Option (List Int))):OutC S_bh9 Bool:=cr none (Bx ⟨b,c,a,none,none⟩)
theorem R7:Cl.TJ Cs D.bl AH Bx:=aj (br (dg (bp cK xp)) (λ_ _=>rfl)
 (aj (xs (ai (dq (bX (eT (λc b a=>wy c b a) xp (bp cK xp) xv)) iG (ak db xp xp))))
 (bH (ai (aw (ak (xB (uq (o3 ft) (nu _)) (by decide) true) (Ba (λc b a e d=>OP c b a e d) (nn Uw xp) (nn Uv xp) (nn Uu xp) xv xv) (ak db xp xv))))
 (aD (ai xk))
 aM)))
 (aD (ai xk))
theorem Bg(b:P1)(c:(DI Int)×(DI Int)×P1)(a:List (Option (List Int))):SimO Cs D.bl (m_bh9 [(eL (iK D.int D.int)) b,(Bd (bM D.int) (bM D.int) (eL (iK D.int D.int))) c,(eL (eO (eL D.int))) a]) (uI b c a):=di R7 rfl
structure S_bj9 where
 vFq:(List (Option (List Int)))
 vCq:Int
 vuq:Option (Option (List Int))
def Cq:S_bj9->T0:=λs=>[some ((eL (eO (eL D.int))) s.vFq),some (D.int s.vCq),s.vuq.map (eO (eL D.int))]
abbrev sO:=S_bj9->FlC S_bj9 Bool
def wn:sO:=bw (aW (kC false))
def yR:sO:=gt (aW (xw (ba jU (ba (S0 true) (pC (·.vFq)))) (aY (nQ true) (ba ez (pC (·.vFq))) (pC (·.vCq)))))
 wn
 bB
def rR:sO:=bw (aW (kC false))
def mq:sO:=gt (aW (oI (ba (i6 true iZ) (vC (·.vuq))) (ba jU (cJ uK (vC (·.vuq)) (vC (·.vuq))))))
 rR
 bB
def yQ:sO:=cw (pC (·.vFq)) (λa s=>{s with vuq:=some a})
 mq
def yP:sO:=bw (aW (kC true))
def Bw:sO:=au yR
 (au yQ
 yP)
def Ed(a:List (Option (List Int)))(b:Int):OutC S_bj9 Bool:=cr none (Bw ⟨a,b,none⟩)
theorem RZ:Cl.TJ Cq D.bl AF Bw:=aj (bH (ai (gA (d7 (aw (qY (e:=(eL (eO (eL D.int)))) (n := "list") (b:=true) (λ_=>rfl) xp))) (aw (ak (fJ true) (bp cK xp) xp))))
 (aD (ai xk))
 aM)
 (aj (br (bX xp) (λ_ _=>rfl)
 (bH (ai (jx (aw (eU (gZ (λ_=>rfl)) xv)) (d7 (aw (b9 (λc a=>Ku c a) xv xv)))))
 (aD (ai xk))
 aM))
 (aD (ai xk)))
theorem Sv(a:List (Option (List Int)))(b:Int):SimO Cq D.bl (m_bj9 [(eL (eO (eL D.int))) a,D.int b]) (Ed a b):=di RZ rfl
structure S_c9 where
 vAq:GΩ
 v0q:Int
 v2q:Int
def GZ:S_c9->T0:=λs=>[some (a9 s.vAq),some (D.int s.v0q),some (D.int s.v2q)]
abbrev Fq:=S_c9->FlC S_c9 Unit
def DT:Fq:=cH (aW (gI Lj (pC (·.vAq)) (pC (·.v0q)) (pC (·.v2q))))
def yq:Fq:=jm 13
def DS:Fq:=gt (aW (aY (Be false) (ba io (iW (pC (·.v0q)) (pC (·.v2q)))) (ba (λg=>.ok g.U) (pC (·.vAq)))))
 yq
 bB
def DR:Fq:=kB (λs=>some s.vAq.U) (λs y=>{s with vAq:={s.vAq with U:=y}}) (ba io (iW (pC (·.v0q)) (pC (·.v2q)))) (aW (kC true))
def DQ:Fq:=kB (λs=>some s.vAq.U) (λs y=>{s with vAq:={s.vAq with U:=y}}) (ba io (iW (pC (·.v2q)) (pC (·.v0q)))) (aW (kC true))
def K2:Fq:=au DT
 (au DS
 (au DR
 DQ))
def NF(a:GΩ)(c:Int)(b:Int):OutC S_c9 Unit:=cr (some ()) (K2 ⟨a,c,b⟩)
theorem VW:Cl.TJ GZ eN IZ K2:=aj (bz (ai (qX (λ_=>rfl) (λc b a=>OQ c b a) xp xp xp)))
 (aj (bH (ai (aw (ak (CP false) (bT fB (cM xp xp)) (bp lH xp))))
 gO
 aM)
 (aj (fV (λ_=>rfl) (λ_ _=>rfl) (bT fB (cM xp xp)) (ai xk))
 (fV (λ_=>rfl) (λ_ _=>rfl) (bT fB (cM xp xp)) (ai xk))))
theorem We(a:GΩ)(c:Int)(b:Int):SimO GZ eN (Rk [a9 a,D.int c,D.int b]) (NF a c b):=iu (d:=()) rfl VW rfl
structure S_g9 where
 vAq:GΩ
 vuq:(List Int)
 vJq:Option (Option Int)
def GV:S_g9->T0:=λs=>[some (a9 s.vAq),some ((eL D.int) s.vuq),s.vJq.map (eO D.int)]
abbrev Fp:=S_g9->FlC S_g9 Int
def wg:Fp:=cH (aW (cJ Lk (pC (·.vAq)) (pC (·.vuq))))
def wf:Fp:=bv (λa s=>{s with vJq:=some a}) (aW (aY Vx (ba (λg=>.ok g.wω) (pC (·.vAq))) (ba OJ (pC (·.vuq)))))
def kK:Fp:=bw (aW (gI NE (pC (·.vAq)) (aY iR (pC (·.vuq)) (kC (0:Int))) (aY iR (pC (·.vuq)) (kC (1:Int)))))
def we:Fp:=gt (aW (ba (i6 false iZ) (vC (·.vJq))))
 kK
 bB
def wd:Fp:=bw (λs=>wF ((aW (vC (·.vJq))) s) λa s=>bndO (fg a) s λb=>.ok b s)
def KY:Fp:=au wg
 (au wf
 (au we
 wd))
def ND(a:GΩ)(b:List Int):OutC S_g9 Int:=cr none (KY ⟨a,b,none⟩)
theorem VS:Cl.TJ GV D.int IV KY:=aj (bz (ai (iH (λ_=>rfl) (λb a=>OR b a) xp xp)))
 (aj (xs (ai (cV (JI (λ_=>rfl)) (M0 (bp xy xp) (bp xz (qZ (uW (λ_=>rfl)) xp))))))
 (aj (bH (ai (aw (eU (gZ (λ_=>rfl)) xv)))
 (aD (ai (qX (λ_=>rfl) (λb a c=>Wd b a c) xp (cV (λ_=>rfl) (ak db xp xk)) (cV (λ_=>rfl) (ak db xp xk)))))
 aM)
 (aD (gX cF (ai xv)))))
theorem Wc(a:GΩ)(b:List Int):SimO GV D.int (Ri [a9 a,(eL D.int) b]) (ND a b):=di VS rfl
structure S_k9 where
 vAq:GΩ
 v0q:Int
 v2q:Int
def GR:S_k9->T0:=λs=>[some (a9 s.vAq),some (D.int s.v0q),some (D.int s.v2q)]
abbrev SN:=S_k9->FlC S_k9 Unit
def DB:SN:=cH (aW (gI Lj (pC (·.vAq)) (pC (·.v0q)) (pC (·.v2q))))
def DA:SN:=kB (λs=>some s.vAq.sω) (λs y=>{s with vAq:={s.vAq with sω:=y}}) (ba io (iW (pC (·.v0q)) (pC (·.v2q)))) (aW (kC true))
def KQ:SN:=au DB
 DA
def NC(a:GΩ)(c:Int)(b:Int):OutC S_k9 Unit:=cr (some ()) (KQ ⟨a,c,b⟩)
theorem VO:Cl.TJ GR eN IR KQ:=aj (bz (ai (qX (λ_=>rfl) (λc b a=>OQ c b a) xp xp xp)))
 (fV (λ_=>rfl) (λ_ _=>rfl) (bT fB (cM xp xp)) (ai xk))
theorem Wb(a:GΩ)(c:Int)(b:Int):SimO GR eN (Rh [a9 a,D.int c,D.int b]) (NC a c b):=iu (d:=()) rfl VO rfl
structure S_n9 where
 vAq:GΩ
 vuq:(List Int)
 vrq:Int
def GO:S_n9->T0:=λs=>[some (a9 s.vAq),some ((eL D.int) s.vuq),some (D.int s.vrq)]
abbrev SM:=S_n9->FlC S_n9 Unit
def Dx:SM:=cH (aW (cJ Lk (pC (·.vAq)) (pC (·.vuq))))
def Dw:SM:=kB (λs=>some s.vAq.wω) (λs y=>{s with vAq:={s.vAq with wω:=y}}) (ba OJ (pC (·.vuq))) (aW (pC (·.vrq)))
def KM:SM:=au Dx
 Dw
def NA(a:GΩ)(b:List Int)(c:Int):OutC S_n9 Unit:=cr (some ()) (KM ⟨a,b,c⟩)
theorem VL:Cl.TJ GO eN IN KM:=aj (bz (ai (iH (λ_=>rfl) (λb a=>OR b a) xp xp)))
 (fV (λ_=>rfl) (λ_ _=>rfl) (bp xz (qZ (uW (λ_=>rfl)) xp)) (ai xp))
theorem V9(a:GΩ)(b:List Int)(c:Int):SimO GO eN (Re [a9 a,(eL D.int) b,D.int c]) (NA a b c):=iu (d:=()) rfl VL rfl
structure S_s9 where
 vIq:P1
 vxq:((DI Int)×(DI Int)×P1)
 vCq:Int
 voq:Option (List (List (Option (List Int))))
 vvq:Option (List (Option Int))
 vFq:Option (List (Option (List Int)))
def GK:S_s9->T0:=λs=>[some ((eL (iK D.int D.int)) s.vIq),some ((Bd (bM D.int) (bM D.int) (eL (iK D.int D.int))) s.vxq),some (D.int s.vCq),s.voq.map (eL (eL (eO (eL D.int)))),s.vvq.map (eL (eO D.int)),s.vFq.map (eL (eO (eL D.int)))]
abbrev zA:=S_s9->FlC S_s9 (List (List (Option (List Int))))
def Ds:zA:=bv (λa s=>{s with voq:=some a}) (aW (jV (dC:_->Res (List (List (Option (List Int)))))))
def oE:zA:=bv (λa s=>{s with vFq:=some a}) (aW (cq (ba (dy 0) (pC (·.vCq))) (λ_=>.ok true) (cJ Fs (vC λp=>p.2.vvq) (pC λp=>p.1))))
def lM:zA:=cH (CU (λs=>s.voq) (λs y=>{s with voq:=some y}) jf (vC (·.vFq)))
def oB:zA:=gt (aW (oI (gI uI (pC (·.vIq)) (pC (·.vxq)) (vC (·.vFq))) (aY (nQ false) (ba zH (kh uL (vC (·.vFq)))) (cq (aY ye (vC (·.vvq)) (kC (1:Int))) (λ_=>.ok true) (xZ (ba (i6 false iZ) (pC λp=>p.1)) (ba ig (ba og (kC (1:Int)))) (pC λp=>p.1))))))
 lM
 bB
def p7:zA:=au oE
 oB
def Dr:zA:=cw (cJ Ee (pC (·.vIq)) (pC (·.vCq))) (λa s=>{s with vvq:=some a})
 p7
def Dq:zA:=bw (wN (λs=>s.voq) (λs=>{s with voq:=none}))
def KE:zA:=au Ds
 (au Dr
 Dq)
def Nw(a:P1)(c:(DI Int)×(DI Int)×P1)(b:Int):OutC S_s9 (List (List (Option (List Int)))):=cr none (KE ⟨a,c,b,none,none,none⟩)
theorem VF:Cl.TJ GK (eL (eL (eO (eL D.int)))) II KE:=aj (xs (ai (bW bV)))
 (aj (br (bX (b9 (λa b=>Sx a b) xp xp)) (λ_ _=>rfl)
 (aj (xs (ai (dq (dg xp) iG (b9 (λa b=>V1 a b) xv xp))))
 (bH (ai (jx (aw (eT (λa b c=>Bg a b c) xp xp xv)) (aw (ak (xB (o3 (uq ft yj)) (by decide) false) (bT p8 (iJ (λa=>Bh a) xv)) (dq (bX (ak HF xv xk)) iG (Bb (aw (eU (gZ (λ_=>rfl)) xp)) (bT jN (bp oQ xk)) xp))))))
 (bz (kl (λ_=>rfl) (λ_ _=>rfl) lL xv))
 aM)))
 (aD (gD (λ_=>rfl) (λ_=>rfl))))
theorem V4(a:P1)(c:(DI Int)×(DI Int)×P1)(b:Int):SimO GK (eL (eL (eO (eL D.int)))) (m_s9 [(eL (iK D.int D.int)) a,(Bd (bM D.int) (bM D.int) (eL (iK D.int D.int))) c,D.int b]) (Nw a c b):=eB VF rfl
structure S_w9 where
 vcq:(List (List (Option (List Int))))
 vIq:P1
 vxq:((DI Int)×(DI Int)×P1)
 vhq:Option Int
 vdq:Option (List (Option (List Int)))
def GG:S_w9->T0:=λs=>[some ((eL (eL (eO (eL D.int)))) s.vcq),some ((eL (iK D.int D.int)) s.vIq),some ((Bd (bM D.int) (bM D.int) (eL (iK D.int D.int))) s.vxq),s.vhq.map D.int,s.vdq.map (eL (eO (eL D.int)))]
abbrev wL:=S_w9->FlC S_w9 Bool
def tz:wL:=bw (aW (kC false))
def oA:wL:=gt (aW (xw (ba jU (cJ Ed (aY iR (pC (·.vcq)) (vC (·.vhq))) (kC (5:Int)))) (ba jU (gI uI (pC (·.vIq)) (pC (·.vxq)) (aY iR (pC (·.vcq)) (vC (·.vhq)))))))
 tz
 bB
def tw:wL:=bw (aW (kC false))
def oz:wL:=gt (aW (oI (aY Ft (vC (·.vhq)) (kC (0:Int))) (ba jU (aY U9 (kh uL (aY iR (pC (·.vcq)) (aY wU (vC (·.vhq)) (kC (1:Int))))) (kh uL (aY iR (pC (·.vcq)) (vC (·.vhq))))))))
 tw
 bB
def wv:wL:=au oA
 oz
def vR:wL:=cw (ba (dy 0) (ba ez (pC (·.vcq)))) (λa s=>{s with vhq:=some a})
 wv
def vQ:wL:=bv (λa s=>{s with vdq:=some a}) (aW (gI Nt (pC (·.vIq)) (pC (·.vxq)) (kC (5:Int))))
def pY:wL:=bw (aW (xw (ba jU (gI uI (pC (·.vIq)) (pC (·.vxq)) (vC (·.vdq)))) (aY (EX false) (vC (·.vdq)) (pC (·.vcq)))))
def Kz:wL:=au vR
 (au vQ
 pY)
def Nv(a:List (List (Option (List Int))))(b:P1)(c:(DI Int)×(DI Int)×P1):OutC S_w9 Bool:=cr none (Kz ⟨a,b,c,none,none⟩)
theorem VB:Cl.TJ GG D.bl IE Kz:=aj (br (dg (bp cK xp)) (λ_ _=>rfl)
 (aj (bH (ai (gA (d7 (aw (b9 (λa b=>Sv a b) (ak db xp xv) xk))) (d7 (aw (eT (λa b c=>Bg a b c) xp xp (ak db xp xv))))))
 (aD (ai xk))
 aM)
 (bH (ai (jx (aw (ak xA xv xk)) (d7 (aw (ak Ur (iJ (λa=>Bh a) (ak db xp (ak qC xv xk))) (iJ (λa=>Bh a) (ak db xp xv)))))))
 (aD (ai xk))
 aM)))
 (aj (xs (ai (eT (λa b c=>VZ a b c) xp xp xk)))
 (aD (ai (Vs (bp Hz (eT (λa b c=>Bg a b c) xp xp xv)) (ak (qD (o3 (uq (o3 ft) (nu _))) (by decide)) xv xp)))))
theorem V2(a:List (List (Option (List Int))))(b:P1)(c:(DI Int)×(DI Int)×P1):SimO GG D.bl (m_w9 [(eL (eL (eO (eL D.int)))) a,(eL (iK D.int D.int)) b,(Bd (bM D.int) (bM D.int) (eL (iK D.int D.int))) c]) (Nv a b c):=di VB rfl
structure S_bu9 where
 veq:GΩ
 vwq:Option (List (List (Option Int)))
 vfq:Option Int
def Cf:S_bu9->T0:=λs=>[some (a9 s.veq),s.vwq.map (eL (eL (eO D.int))),s.vfq.map D.int]
abbrev zE:=S_bu9->FlC S_bu9 (List (List (Option Int)))
def yB:zE:=bv (λa s=>{s with vwq:=some a}) (λs=>wF ((aW (jV (cD (jV (cD (kC ()) (dC:_->Res (List Unit)))) (dC:_->Res (List (List Unit)))))) s) λa s=>bndO ((BO:List (List Unit)->Res (List (List (Option Int)))) a) s λb=>.ok b s)
def l7:zE:=bv (λa s=>{s with vwq:=some a}) (aW (cJ D6 (vC (·.vwq)) (aY h8 (ba (D4:List Unit->Res (List (Option Int))) (jV (cD (kC ()) (dC:_->Res (List Unit))))) (ba zH (cJ Ll (pC (·.veq)) (vC (·.vfq)))))))
def yA:zE:=cw (aY dy (kC (1:Int)) (kh BP (pC (·.veq)))) (λa s=>{s with vfq:=some a})
 l7
def yz:zE:=bw (aW (vC (·.vwq)))
def Bl:zE:=au yB
 (au yA
 yz)
def D7(a:GΩ):OutC S_bu9 (List (List (Option Int))):=cr none (Bl ⟨a,none,none⟩)
theorem RN:Cl.TJ Cf (eL (eL (eO D.int))) Au Bl:=aj (xs (gX zx (ai (bW (bJ (bW (bJ xk bV)) bV)))))
 (aj (br (l4 xk (vJ (λ_=>rfl) (λa=>DW a) xp)) (λ_ _=>rfl)
 (xs (ai (b9 (λa b=>Sj a b) xv (ak oR (bT wG (bW (bJ xk bV))) (bT p8 (iH (λ_=>rfl) (λa b=>OS a b) xp xv)))))))
 (aD (ai xv)))
theorem Sk(a:GΩ):SimO Cf (eL (eL (eO D.int))) (m_bu9 [a9 a]) (D7 a):=di RN rfl
structure S_ba9 where
 vCq:Int
 vIq:P1
 vbq:(DI Int)
 v6q:(DI Int)
 vBq:P1
 veq:Option GΩ
 v0q:Option Int
 v2q:Option Int
 vpq:Option (List Int)
 viq:Option (List Int)
def CA:S_ba9->T0:=λs=>[some (D.int s.vCq),some ((eL (iK D.int D.int)) s.vIq),some ((bM D.int) s.vbq),some ((bM D.int) s.v6q),some ((eL (iK D.int D.int)) s.vBq),s.veq.map a9,s.v0q.map D.int,s.v2q.map D.int,s.vpq.map (Bc D.int),s.viq.map (Bc D.int)]
abbrev kU:=S_ba9->FlC S_ba9 GΩ
def sv:kU:=bv (λa s=>{s with veq:=some a}) (aW (Mj mk_Guild (pC (·.vCq))))
def mL:kU:=cH (Mz NF (λs' s=>{s with veq:=some s'.vAq}) (vC (·.veq)) (vC (·.v0q)) (vC (·.v2q)))
def zj:kU:=cw (pC (·.vIq)) (λa s=>{s with v0q:=some a.1,v2q:=some a.2})
 mL
def mK:kU:=cH (Ra Lm (λs' s=>{s with veq:=some s'.vAq}) (vC (·.veq)) (aY iR (vC (·.vpq)) (kC (0:Int))) (aY iR (vC (·.vpq)) (kC (1:Int))) (aY Vw (pC (·.vbq)) (vC (·.vpq))))
def zi:kU:=cw (ba JF (pC (·.vbq))) (λa s=>{s with vpq:=some a})
 mK
def mJ:kU:=cH (Mz NA (λs' s=>{s with veq:=some s'.vAq}) (vC (·.veq)) (ba OJ (vC (·.viq))) (aY Vw (pC (·.v6q)) (vC (·.viq))))
def zh:kU:=cw (ba JF (pC (·.v6q))) (λa s=>{s with viq:=some a})
 mJ
def mI:kU:=cH (Mz NC (λs' s=>{s with veq:=some s'.vAq}) (vC (·.veq)) (vC (·.v0q)) (vC (·.v2q)))
def zg:kU:=cw (pC (·.vBq)) (λa s=>{s with v0q:=some a.1,v2q:=some a.2})
 mI
def zf:kU:=bw (wN (λs=>s.veq) (λs=>{s with veq:=none}))
def BE:kU:=au sv
 (au zj
 (au zi
 (au zh
 (au zg
 zf))))
def Eg(b:Int)(a:P1)(c:DI Int)(d:DI Int)(e:P1):OutC S_ba9 GΩ:=cr none (BE ⟨b,a,c,d,e,none,none,none,none,none⟩)
theorem Se:Cl.TJ CA a9 AR BE:=aj (xs (ai (JV lK xp)))
 (aj (br (bX xp) (λ_ _=>rfl)
 (bz (Am (λ_=>rfl) (λ_ _=>rfl) (λc b a=>We c b a) xv (cV (λ_=>rfl) xv) (cV (λ_=>rfl) xv))))
 (aj (br (bX (bp HC xp)) (λ_ _=>rfl)
 (bz (HM (λ_=>rfl) (λ_ _=>rfl) (λc b a d=>OT c b a d) xv (cV (λ_=>rfl) (ak HE xv xk)) (cV (λ_=>rfl) (ak HE xv xk)) (cV (λ_=>rfl) (ak Aj xp xv)))))
 (aj (br (bX (bp HC xp)) (λ_ _=>rfl)
 (bz (Am (λ_=>rfl) (λ_ _=>rfl) (λc b a=>V9 c b a) xv (bp Mu (qZ (LY (λ_=>rfl)) xv)) (cV (λ_=>rfl) (ak Aj xp xv)))))
 (aj (br (bX xp) (λ_ _=>rfl)
 (bz (Am (λ_=>rfl) (λ_ _=>rfl) (λc b a=>Wb c b a) xv (cV (λ_=>rfl) xv) (cV (λ_=>rfl) xv))))
 (aD (gD (λ_=>rfl) (λ_=>rfl)))))))
theorem Sz(b:Int)(a:P1)(c:DI Int)(d:DI Int)(e:P1):SimO CA a9 (m_ba9 [D.int b,(eL (iK D.int D.int)) a,(bM D.int) c,(bM D.int) d,(eL (iK D.int D.int)) e]) (Eg b a c d e):=eB Se rfl
structure S_bx9 where
 veq:GΩ
 vuq:(List Int)
def Cc:S_bx9->T0:=λs=>[some (a9 s.veq),some ((eL D.int) s.vuq)]
abbrev OX:=S_bx9->FlC S_bx9 (Int×Int×(List Int))
def yt:OX:=bw (aW (iW (ba og (cJ ND (pC (·.veq)) (pC (·.vuq)))) (iW (ba ez (pC (·.vuq))) (pC (·.vuq)))))
def Bj:OX:=yt
def zJ(a:GΩ)(b:List Int):OutC S_bx9 (Int×Int×(List Int)):=cr none (Bj ⟨a,b⟩)
theorem RK:Cl.TJ Cc (Fu D.int D.int (eL D.int)) Aq Bj:=aD (ai (pW (bp oQ (iH (λ_=>rfl) (λb a=>Wc b a) xp xp)) (bp cK xp) xp))
theorem Si(a:GΩ)(b:List Int):SimO Cc (Fu D.int D.int (eL D.int)) (m_bx9 [a9 a,(eL D.int) b]) (zJ a b):=di RK rfl
structure S_p9 where
 veq:GΩ
 vfq:Int
 vHq:(List (Option (List Int)))
 vDq:Option (List (Int×Int×(List Int)))
def GM:S_p9->T0:=λs=>[some (a9 s.veq),some (D.int s.vfq),some ((eL (eO (eL D.int))) s.vHq),s.vDq.map (eL (Fu D.int D.int (eL D.int)))]
abbrev SL:=S_p9->FlC S_p9 (Option (List Int))
def Du:SL:=bv (λa s=>{s with vDq:=some a}) (aW (cq (pC (·.vHq)) (gI zL (pC λp=>p.2.veq) (pC λp=>p.2.vfq) (pC λp=>p.1)) (cJ zJ (pC λp=>p.2.veq) (aY h8 (jV (cD (pC λp=>p.2.vfq) (dC:_->Res (List Int)))) (ba fg (pC λp=>p.1))))))
def v9:SL:=bw (aW (cJ Nz (pC (·.vfq)) (vC (·.vDq))))
def KH:SL:=au Du
 v9
def Ny(b:GΩ)(a:Int)(c:List (Option (List Int))):OutC S_p9 (Option (List Int)):=cr (some none) (KH ⟨b,a,c,none⟩)
theorem VI:Cl.TJ GM (eO (eL D.int)) IL KH:=aj (xs (ai (dq (bX xp) (aw (eT (λb a c=>Sq b a c) xp xp xp)) (b9 (λb a=>Si b a) xp (ak oR (bW (bJ xp bV)) (bT cF (qZ (FW (uW (λ_=>rfl))) xp)))))))
 (aD (ai (b9 (λb a=>V8 b a) xp xv)))
theorem V7(b:GΩ)(a:Int)(c:List (Option (List Int))):SimO GM (eO (eL D.int)) (m_p9 [a9 b,D.int a,(eL (eO (eL D.int))) c]) (Ny b a c):=iu (d:=none) rfl VI rfl
structure S_q9 where
 veq:GΩ
 vFq:(List (Option (List Int)))
 vfq:Option Int
 vHq:Option (List (Option (List Int)))
def GL:S_q9->T0:=λs=>[some (a9 s.veq),some ((eL (eO (eL D.int))) s.vFq),s.vfq.map D.int,s.vHq.map (eL (eO (eL D.int)))]
abbrev zB:=S_q9->FlC S_q9 (Option Int)
def v8:zB:=cH (aW (cJ D8 (pC (·.vFq)) (kh BP (pC (·.veq)))))
def jc:zB:=bv (λa s=>{s with vHq:=some a}) (aW (cq (cJ Ll (pC (·.veq)) (vC (·.vfq))) (λ_=>.ok true) (aY iR (pC λp=>p.2.vFq) (pC λp=>p.1))))
def iN:zB:=bw (λs=>wF ((aW (vC (·.vfq))) s) λa s=>bndO (ig a) s λb=>.ok b s)
def jb:zB:=gt (aW (aY (nQ true) (gI Ny (pC (·.veq)) (vC (·.vfq)) (vC (·.vHq))) (aY iR (pC (·.vFq)) (vC (·.vfq)))))
 iN
 bB
def DV:zB:=au jc
 jb
def v7:zB:=cw (ba (dy 0) (kh BP (pC (·.veq)))) (λa s=>{s with vfq:=some a})
 DV
def Dt:zB:=bw (λs=>wF ((aW (kC ())) s) λa s=>bndO ((nc:Unit->Res (Option Int)) a) s λb=>.ok b s)
def KG:zB:=au v8
 (au v7
 Dt)
def Li(b:GΩ)(a:List (Option (List Int))):OutC S_q9 (Option Int):=cr (some none) (KG ⟨b,a,none,none⟩)
theorem VH:Cl.TJ GL (eO D.int) IK KG:=aj (bz (ai (b9 (λa b=>Sm a b) xp (vJ (λ_=>rfl) (λa=>DW a) xp))))
 (aj (br (dg (vJ (λ_=>rfl) (λa=>DW a) xp)) (λ_ _=>rfl)
 (aj (xs (ai (dq (bX (iH (λ_=>rfl) (λa b=>OS a b) xp xv)) iG (ak db xp xp))))
 (bH (ai (aw (ak (xB (uq (o3 ft) (nu _)) (by decide) true) (eT (λa b c=>V7 a b c) xp xv xv) (ak db xp xv))))
 (aD (gX jN (ai xv)))
 aM)))
 (aD (gX lq (ai xk))))
theorem V6(b:GΩ)(a:List (Option (List Int))):SimO GL (eO D.int) (m_q9 [a9 b,(eL (eO (eL D.int))) a]) (Li b a):=iu (d:=none) rfl VH rfl
structure S_bw9 where
 veq:GΩ
 vGq:Option (List (List (Option (List Int))))
 vnq:Option (List (Option Int))
 vFq:Option (List (Option (List Int)))
def Cd:S_bw9->T0:=λs=>[some (a9 s.veq),s.vGq.map (eL (eL (eO (eL D.int)))),s.vnq.map (eL (eO D.int)),s.vFq.map (eL (eO (eL D.int)))]
abbrev lO:=S_bw9->FlC S_bw9 (List (List (Option (List Int))))
def ny:lO:=jm 16
def nz:lO:=gt (aW (aY Ft (kh BP (pC (·.veq))) (kC (5:Int))))
 ny
 bB
def rA:lO:=bv (λa s=>{s with vGq:=some a}) (aW (jV (dC:_->Res (List (List (Option (List Int)))))))
def l5:lO:=bv (λa s=>{s with vFq:=some a}) (aW (kh D5 (vC (·.vnq))))
def kL:lO:=cH (Nj (λs=>s.vGq) (λs y=>{s with vGq:=some y}) (wN (λs=>s.vFq) (λs=>{s with vFq:=none})))
def jy:lO:=gt (aW (oI (aY (nQ false) (kh D9 (vC (·.vFq))) (vC (·.vnq))) (ba (i6 false iZ) (cJ Li (pC (·.veq)) (vC (·.vFq))))))
 kL
 bB
def nH:lO:=au l5
 jy
def rq:lO:=cw (kh D7 (pC (·.veq))) (λa s=>{s with vnq:=some a})
 nH
def yu:lO:=bw (wN (λs=>s.vGq) (λs=>{s with vGq:=none}))
def wz:lO:=au nz
 (au rA
 (au rq
 yu))
def pF(a:GΩ):OutC S_bw9 (List (List (Option (List Int)))):=cr none (wz ⟨a,none,none,none⟩)
theorem RL:Cl.TJ Cd (eL (eL (eO (eL D.int)))) Ar wz:=aj (bH (ai (aw (ak xA (vJ (λ_=>rfl) (λa=>DW a) xp) xk)))
 gO
 aM)
 (aj (xs (ai (bW bV)))
 (aj (br (bX (iJ (λa=>Sk a) xp)) (λ_ _=>rfl)
 (aj (xs (ai (iJ (λa=>Sg a) xv)))
 (bH (ai (jx (aw (ak (xB (o3 (uq ft yj)) (by decide) false) (iJ (λa=>Sn a) xv) xv)) (aw (eU (gZ (λ_=>rfl)) (b9 (λa b=>V6 a b) xp xv)))))
 (bz (HN (λ_=>rfl) (λ_ _=>rfl) (gD (λ_=>rfl) (λ_=>rfl))))
 aM)))
 (aD (gD (λ_=>rfl) (λ_=>rfl)))))
theorem Kn(a:GΩ):SimO Cd (eL (eL (eO (eL D.int)))) (m_bw9 [a9 a]) (pF a):=eB RL rfl
structure S_bl9 where
 veq:GΩ
 vIq:P1
 vxq:((DI Int)×(DI Int)×P1)
 vCq:Int
 vcq:Option (List (List (Option (List Int))))
 vwq:Option Int
 vfq:Option Int
 v7q:Option (List (List (Option (List Int))))
 vhq:Option Int
 vuq:Option (Option (List Int))
def va:S_bl9->T0:=λs=>[some (a9 s.veq),some ((eL (iK D.int D.int)) s.vIq),some ((Bd (bM D.int) (bM D.int) (eL (iK D.int D.int))) s.vxq),some (D.int s.vCq),s.vcq.map (eL (eL (eO (eL D.int)))),s.vwq.map D.int,s.vfq.map D.int,s.v7q.map (eL (eL (eO (eL D.int)))),s.vhq.map D.int,s.vuq.map (eO (eL D.int))]
abbrev eE:=S_bl9->FlC S_bl9 Bool
def rQ:eE:=bv (λa s=>{s with vcq:=some a}) (aW (kh pF (pC (·.veq))))
def wm:eE:=bw (aW (kC false))
def rP:eE:=gt (aW (ba jU (ba (S0 true) (vC (·.vcq)))))
 wm
 bB
def rO:eE:=bv (λa s=>{s with vwq:=some a}) (aW (kC (1:Int)))
def mo:eE:=bv (λa s=>{s with vwq:=some a}) (aW (aY tu (vC (·.vwq)) (aY jO (kC (1:Int)) (ba ez (gI pG (pC (·.vIq)) (pC (·.vCq)) (vC (·.vfq)))))))
def rN:eE:=cw (aY dy (kC (1:Int)) (pC (·.vCq))) (λa s=>{s with vfq:=some a})
 mo
def nB:eE:=bw (aW (gI Nv (vC (·.vcq)) (pC (·.vIq)) (pC (·.vxq))))
def nC:eE:=gt (aW (aY Ft (vC (·.vwq)) (kC (81:Int))))
 nB
 bB
def rM:eE:=bv (λa s=>{s with v7q:=some a}) (aW (gI Nw (pC (·.vIq)) (pC (·.vxq)) (pC (·.vCq))))
def wl:eE:=bw (aW (kC false))
def rL:eE:=gt (aW (aY (nQ true) (ba ez (vC (·.vcq))) (ba ez (vC (·.v7q)))))
 wl
 bB
def rJ:eE:=bw (aW (kC false))
def ml:eE:=gt (aW (ba jU (cJ uJ (aY iR (vC (·.vcq)) (vC (·.vhq))) (aY iR (vC (·.v7q)) (vC (·.vhq))))))
 rJ
 bB
def rK:eE:=cw (ba (dy 0) (ba ez (vC (·.v7q)))) (λa s=>{s with vhq:=some a})
 ml
def mj:eE:=WI (λs=>s.vcq) (λs y=>{s with vcq:=some y}) (λs=>s.vhq) (λs=>dR (va s) (some 9)) 99
def rG:eE:=bw (aW (kC false))
def mf:eE:=gt (aW (oI (aY Ft (ba ez (vC (·.v7q))) (aY jO (vC (·.vhq)) (kC (1:Int)))) (ba jU (cJ uJ (aY iR (vC (·.vcq)) (aY jO (vC (·.vhq)) (kC (1:Int)))) (aY iR (vC (·.v7q)) (aY jO (vC (·.vhq)) (kC (1:Int))))))))
 rG
 bB
def sx:eE:=au mj
 mf
def rH:eE:=cw (ba (dy 0) (ba ez (vC (·.v7q)))) (λa s=>{s with vhq:=some a})
 sx
def uA:eE:=bw (aW (kC true))
def sD:eE:=au rQ
 (au rP
 (au rO
 (au rN
 (au nC
 (au rM
 (au rL
 (au rK
 (au rH
 uA))))))))
def uH(a:GΩ)(b:P1)(d:(DI Int)×(DI Int)×P1)(c:Int):OutC S_bl9 Bool:=cr none (sD ⟨a,b,d,c,none,none,none,none,none,none⟩)
theorem RX:Cl.TJ va D.bl AD sD:=aj (xs (ai (iJ (λa=>Kn a) xp)))
 (aj (bH (ai (d7 (aw (qY (e:=(eL (eL (eO (eL D.int))))) (n := "list") (b:=true) (λ_=>rfl) xv))))
 (aD (ai xk))
 aM)
 (aj (xs (ai xk))
 (aj (br (l4 xk xp) (λ_ _=>rfl)
 (xs (ai (ak tX xv (ak gm xk (bp cK (eT (λa c d=>wy a c d) xp xp xv)))))))
 (aj (bH (ai (aw (ak xA xv xk)))
 (aD (ai (eT (λa c d=>V2 a c d) xv xp xp)))
 aM)
 (aj (xs (ai (eT (λa c d=>V4 a c d) xp xp xp)))
 (aj (bH (ai (aw (ak (fJ true) (bp cK xv) (bp cK xv))))
 (aD (ai xk))
 aM)
 (aj (br (dg (bp cK xv)) (λ_ _=>rfl)
 (bH (ai (d7 (aw (b9 (λa c=>Ks a c) (ak db xv xv) (ak db xv xv)))))
 (aD (ai xk))
 aM))
 (aj (br (dg (bp cK xv)) (λ_ _=>rfl)
 (aj (S8 (λ_=>rfl) (λ_ _=>rfl) (λ_=>rfl) (λ_=>rfl))
 (bH (ai (jx (aw (ak xA (bp cK xv) (ak gm xv xk))) (d7 (aw (b9 (λa c=>Ks a c) (ak db xv (ak gm xv xk)) (ak db xv (ak gm xv xk)))))))
 (aD (ai xk))
 aM)))
 (aD (ai xk))))))))))
theorem Kq(a:GΩ)(b:P1)(d:(DI Int)×(DI Int)×P1)(c:Int):SimO va D.bl (m_bl9 [a9 a,(eL (iK D.int D.int)) b,(Bd (bM D.int) (bM D.int) (eL (iK D.int D.int))) d,D.int c]) (uH a b d c):=di RX rfl
structure S_bm9 where
 vCq:Int
 vsq:Option Bool
 v8q:Option Int
def u9:S_bm9->T0:=λs=>[some (D.int s.vCq),s.vsq.map D.bl,s.v8q.map D.int]
abbrev D2:=S_bm9->FlC S_bm9 Bool
def rF:D2:=bv (λa s=>{s with vsq:=some a}) (aW (kC false))
def rE:D2:=Lw (λs=>dR (u9 s) (some 2)) (SC [16]) (cH (aW (kh pF (HK (Mj mk_Guild (pC (·.vCq))))))) λc=>(bv (λa s=>{s with vsq:=some a}) (aW (kC (match c with|16=>true|_=>false))))
def yN:D2:=bw (aW (vC (·.vsq)))
def Bu:D2:=au rF
 (au rE
 yN)
def Ec(a:Int):OutC S_bm9 Bool:=cr none (Bu ⟨a,none,none⟩)
theorem RW:Cl.TJ u9 D.bl AC Bu:=aj (xs (ai xk))
 (aj (O3 (bz (ai (iJ (λa=>Kn a) (RD (JV lK xp))))) λ_=>(xs (ai xk)))
 (aD (ai xv)))
theorem Su(a:Int):SimO u9 D.bl (m_bm9 [D.int a]) (Ec a):=di RW rfl
structure S_r9 where
 vyq:(List Int)
 vaq:Option Int
 vCq:Option Int
 vIq:Option P1
 vbq:Option (DI Int)
 v6q:Option (DI Int)
 vBq:Option P1
 vpq:Option (Int×Int)
 vxq:Option ((DI Int)×(DI Int)×P1)
 veq:Option GΩ
 v0q:Option Int
 v2q:Option Int
def Aa:S_r9->T0:=λs=>[some (eS s.vyq),s.vaq.map D.int,s.vCq.map D.int,s.vIq.map (eL (iK D.int D.int)),s.vbq.map (bM D.int),s.v6q.map (bM D.int),s.vBq.map (eL (iK D.int D.int)),s.vpq.map (iK D.int D.int),s.vxq.map (Bd (bM D.int) (bM D.int) (eL (iK D.int D.int))),s.veq.map a9,s.v0q.map D.int,s.v2q.map D.int]
abbrev gr:=S_r9->FlC S_r9 Bool
def v3:gr:=bv (λa s=>{s with vaq:=some a}) (aW (cJ nO (pC (·.vyq)) (kC (0:Int))))
def pw:gr:=bw (aW (kh Ec (aY jO (kC (6:Int)) (aY eI (aY i9 (vC (·.vaq)) (kC (32:Int))) (kC (55:Int))))))
def p5:gr:=gt (aW (aY (nQ false) (aY eI (aY i9 (vC (·.vaq)) (kC (4:Int))) (kC (8:Int))) (kC (5:Int))))
 pw
 bB
def vZ:gr:=bv (λa s=>{s with vCq:=some a}) (aW (aY jO (kC (1:Int)) (aY eI (vC (·.vaq)) (kC (4:Int)))))
def pq:gr:=bv (λa s=>{s with vCq:=some a}) (aW (kC (5:Int)))
def pZ:gr:=gt (aW (aY (nQ false) (aY eI (aY i9 (vC (·.vaq)) (kC (4:Int))) (kC (4:Int))) (kC (2:Int))))
 pq
 bB
def vY:gr:=bv (λa s=>{s with vIq:=some a}) (aW (cJ Eb (cJ nO (pC (·.vyq)) (kC (1:Int))) (vC (·.vCq))))
def vX:gr:=bv (λa s=>{s with vbq:=some a}) (aW (cJ Nu (cJ nO (pC (·.vyq)) (kC (2:Int))) (vC (·.vCq))))
def vW:gr:=bv (λa s=>{s with v6q:=some a}) (aW (cJ Lg (cJ nO (pC (·.vyq)) (kC (3:Int))) (vC (·.vCq))))
def vV:gr:=bv (λa s=>{s with vBq:=some a}) (aW (cJ zM (cJ nO (pC (·.vyq)) (kC (4:Int))) (vC (·.vCq))))
def iw:gr:=cH (CU (λs=>s.vIq) (λs y=>{s with vIq:=some y}) jf (vC (·.vpq)))
def f8:gr:=gt (aW (aY (EX true) (vC (·.vpq)) (vC (·.vIq))))
 iw
 bB
def pp:gr:=cw (jV (cD (iW (kC (0:Int)) (kC (1:Int))) (cD (iW (kC (0:Int)) (kC (2:Int))) (cD (iW (kC (1:Int)) (kC (2:Int))) (dC:_->Res P1))))) (λa s=>{s with vpq:=some a})
 f8
def ph:gr:=kB (λs=>s.v6q) (λs y=>{s with v6q:=some y}) (ba O2 (iW (kC (1:Int)) (iW (kC (2:Int)) (kC (0:Int))))) (aW (kC (9:Int)))
def pe:gr:=kB (λs=>s.v6q) (λs y=>{s with v6q:=some y}) (ba O2 (iW (kC (2:Int)) (iW (kC (1:Int)) (kC (0:Int))))) (aW (kC (9:Int)))
def nw:gr:=gt (aW (oI (aY (nQ false) (aY eI (aY i9 (cJ nO (pC (·.vyq)) (kC (7:Int))) (kC (4:Int))) (kC (4:Int))) (kC (1:Int))) (aY Ft (vC (·.vCq)) (kC (2:Int)))))
 (au pp
 (au ph
 pe))
 bB
def rp:gr:=B7 (λs=>s.vbq) (λs=>s.v6q) (λs=>s.vBq) (λs=>dR (Aa s) (some 8))
def ro:gr:=bv (λa s=>{s with veq:=some a}) (aW (Mm Eg (vC (·.vCq)) (vC (·.vIq)) (vC (·.vbq)) (vC (·.v6q)) (vC (·.vBq))))
def v0:gr:=bw (aW (kC false))
def rn:gr:=gt (aW (ba jU (P7 uH (vC (·.veq)) (vC (·.vIq)) (iW (vC (·.vbq)) (iW (vC (·.v6q)) (vC (·.vBq)))) (vC (·.vCq)))))
 v0
 bB
def rk:gr:=bv (λa s=>{s with v0q:=some a}) (aW (aY eI (cJ nO (pC (·.vyq)) (kC (5:Int))) (vC (·.vCq))))
def rj:gr:=bv (λa s=>{s with v2q:=some a}) (aW (aY eI (cJ nO (pC (·.vyq)) (kC (6:Int))) (vC (·.vCq))))
def ri:gr:=cH (Ra Lm (λs' s=>{s with veq:=some s'.vAq}) (vC (·.veq)) (vC (·.v0q)) (vC (·.v2q)) (aY jO (kC (1:Int)) (aY eI (cJ nO (pC (·.vyq)) (kC (7:Int))) (kC (4:Int)))))
def rh:gr:=kB (λs=>s.vbq) (λs y=>{s with vbq:=some y}) (ba io (iW (vC (·.v0q)) (vC (·.v2q)))) (aW (aY jO (kC (1:Int)) (aY eI (cJ nO (pC (·.vyq)) (kC (7:Int))) (kC (4:Int)))))
def yl:gr:=bw (aW (P7 uH (vC (·.veq)) (vC (·.vIq)) (iW (vC (·.vbq)) (iW (vC (·.v6q)) (vC (·.vBq)))) (vC (·.vCq))))
def zr:gr:=au v3
 (au p5
 (au vZ
 (au pZ
 (au vY
 (au vX
 (au vW
 (au vV
 (au nw
 (au rp
 (au ro
 (au rn
 (au rk
 (au rj
 (au ri
 (au rh
 yl)))))))))))))))
def Nx(a:List Int):OutC S_r9 Bool:=cr none (zr ⟨a,none,none,none,none,none,none,none,none,none,none,none⟩)
theorem VG:Cl.TJ Aa D.bl IJ zr:=aj (xs (ai (b9 (λa b=>lN a b) xp xk)))
 (aj (bH (ai (aw (ak (fJ false) (ak cZ (ak gw xv xk) xk) xk)))
 (aD (ai (iJ (λa=>Su a) (ak gm xk (ak cZ (ak gw xv xk) xk)))))
 aM)
 (aj (xs (ai (ak gm xk (ak cZ xv xk))))
 (aj (bH (ai (aw (ak (fJ false) (ak cZ (ak gw xv xk) xk) xk)))
 (xs (ai xk))
 aM)
 (aj (xs (ai (b9 (λa b=>Ss a b) (b9 (λa b=>lN a b) xp xk) xv)))
 (aj (xs (ai (b9 (λa b=>V0 a b) (b9 (λa b=>lN a b) xp xk) xv)))
 (aj (xs (ai (b9 (λa b=>V3 a b) (b9 (λa b=>lN a b) xp xk) xv)))
 (aj (xs (ai (b9 (λa b=>Sw a b) (b9 (λa b=>lN a b) xp xk) xv)))
 (aj (bH (ai (jx (aw (ak (fJ false) (ak cZ (ak gw (b9 (λa b=>lN a b) xp xk) xk) xk) xk)) (aw (ak xA xv xk))))
 (aj (br (bX (bW (bJ (cM xk xk) (bJ (cM xk xk) (bJ (cM xk xk) bV))))) (λ_ _=>rfl)
 (bH (ai (aw (ak (HA (vN ft ft) (by decide)) xv xv)))
 (bz (kl (λ_=>rfl) (λ_ _=>rfl) lL xv))
 aM))
 (aj (fV (λ_=>rfl) (λ_ _=>rfl) (bT Lb (pW xk xk xk)) (ai xk))
 (fV (λ_=>rfl) (λ_ _=>rfl) (bT Lb (pW xk xk xk)) (ai xk))))
 aM)
 (aj (Lx (λ_=>rfl) (λ_=>rfl) (λ_=>rfl) (λ_=>rfl))
 (aj (xs (ai (Ba (λa b d c e=>Sz a b d c e) xv xv xv xv xv)))
 (aj (bH (ai (d7 (aw (JW (λa b d c=>Kq a b d c) xv xv (JX (λ_=>rfl) (λ_=>rfl) (λ_=>rfl)) xv))))
 (aD (ai xk))
 aM)
 (aj (xs (ai (ak cZ (b9 (λa b=>lN a b) xp xk) xv)))
 (aj (xs (ai (ak cZ (b9 (λa b=>lN a b) xp xk) xv)))
 (aj (bz (HM (λ_=>rfl) (λ_ _=>rfl) (λa b d c=>OT a b d c) xv xv xv (ak gm xk (ak cZ (b9 (λa b=>lN a b) xp xk) xk))))
 (aj (fV (λ_=>rfl) (λ_ _=>rfl) (bT fB (cM xv xv)) (ai (ak gm xk (ak cZ (b9 (λa b=>lN a b) xp xk) xk))))
 (aD (ai (JW (λa b d c=>Kq a b d c) xv xv (JX (λ_=>rfl) (λ_=>rfl) (λ_=>rfl)) xv))))))))))))))))))
theorem V5(a:List Int):SimO Aa D.bl (m_r9 [eS a]) (Nx a):=di VG rfl
end
def fU(ns:List Int)(k:Int):Int:=(ns[k.toNat]?).getD 0
theorem LV(ns:List Int)(k:Int)(a:0<=k):(nO ns k).res=.ok (fU ns k):=by
 unfold nO KA Dl Dk o8 fU;by_cases h:k<ns.length
 ·obtain⟨v,e⟩:∃v,ns[k.toNat]?=some v:=⟨_,Xy (by omega)⟩;simp[h,kS ns a,e]
 ·have e:ns[k.toNat]?=none:=XO (by omega);simp[h,e]
def iQ(sz:Int)(k:List Int):Prop:=∃a b,k=[a,b]/\0<=a/\a<sz/\0<=b/\b<sz
theorem LQ(c sz:Int)(d:0<sz):∃F:DI Int,(Nu c sz).res=.ok F/\F.length<=5/\DI.nd F/\∀p∈F,iQ sz p.1:=by
 have l:0<=c%5/\c%5<5:=⟨X6 _ (by omega),XW _ (by omega)⟩
 obtain⟨s',e,b,k,F,rfl,i,f,hF⟩:=bN (u:=λa s=>{s with vhq:=some a}) (c:=wu) (λp (s:S_y9)=>∃b k F,s=⟨b,sz,some F,k⟩/\F.length<=p.length/\DI.nd F/\∀p∈F,iQ sz p.1)
  (bK 0 (c%5)) ⟨c,sz,some [],none⟩ ⟨c,none,[],rfl,by simp,by simp[DI.nd],λ_ h=>(nomatch h)⟩ (by
    rintro p a r s j ⟨b,k,F,rfl,i,f,hF⟩
    have hp:p.length<5:=by
     have:=bc 0 (c%5)
     rw[j,Xo,Xp]at this;omega
    have g:F.length<am:=by unfold am;omega
    refine⟨_,.inl ?_,(b*48271+11)%2147483647,some a,F.put [(b*48271+11)%2147483647%sz,(b*48271+11)%2147483647 / 7%sz] ((b*48271+11)%2147483647 / 49%7-3),rfl,?_,jr f,gF hF ⟨_,_,rfl,X6 _ (by omega),XW _ d,X6 _ (by omega),XW _ d⟩⟩
    ·simp[wu,uu,ut,d,g]
    ·rw[Xo];exact XY fX (by simp;omega))
 refine⟨F,?_,?_,f,hF⟩
 ·unfold Nu Kx Dg Df De;simp[cg (lo:=0) (hi:=c%5) (by omega) (by omega) (by omega) (by omega),e]
 ·have:=bc 0 (c%5);omega
theorem gB{X:Type}:∀{l:List X} {j:Nat} (h:j<l.length),(l[j]::l.eraseIdx j).Perm l
 |x::l,0,h=>List.Perm.refl _
 | x::l,j+1,h=>by
   have a:=gB (l:=l) (j:=j) (by simpa using h);rw[Yx,List.getElem_cons_succ];exact(List.Perm.swap x _ _).trans (a.cons x)
structure RoadOk (sz:Int) (r:List Int):Prop where
 two:2<=r.length
 last:r.getLast?=some 0
 nd:r.Nodup
 all:∀x∈r,0<=x/\x<sz
theorem PZ{X:Type}{l:List X}{i:Int}(h0:0<=i)(a:i<l.length)(b:l.length<=20000):∃(h:i.toNat<l.length),Hd l i=some (l[i.toNat],l.eraseIdx i.toNat):=by
 have h:i.toNat<l.length:=by omega
 refine⟨h,?_⟩;unfold Hd;rw[if_pos ⟨h0,a,by unfold am;omega⟩,List.getElem?_eq_getElem h];rfl
theorem ia{X:Type}{l:List X}{x:X}(h:l.length<am):jf l x=some ((),l++[x]):=by unfold jf;rw[if_pos h]
theorem kP{X:Type}{l m:List X}(h:l.length+m.length<=am):h8 l m=.ok (l++m):=by unfold h8;rw[if_pos h]
theorem LL(c h sz:Int)(N:1<=h)(M:h<sz)(W:sz<=1000):∃r,(Ef c h sz).res=.ok r/\RoadOk sz r/\(∃t,r=h::t)/\r.length<=1001:=by
 have E:cq (aY dy (kC (1:Int)) (pC (·.vCq))) (aY (nQ true) (pC λp=>p.1) (pC λp=>p.2.vfq)) (pC λp=>p.1) (⟨c,h,sz,none,none,none⟩:S_bd9)=.ok ((bK 1 sz).filter λx=>!decide (x=h)):=by
  rw[lp (l:=bK 1 sz) (λx=>!decide (x=h)) (λx=>x) (by simp[cg (lo:=1) (hi:=sz) (by omega) (by omega) (by omega) (by omega)]) (by rw[bc];unfold am;omega) (λa _=>by simp) (λa _ _=>by simp)];simp
 have y:∀x∈(bK 1 sz).filter (λx=>!decide (x=h)),1<=x/\x<sz/\x≠h:=λx g=>by
  obtain⟨H,G⟩:=YV.mp g
  have:=cp.mp H
  exact⟨this.1,this.2,by simpa using G⟩
 have i:((bK 1 sz).filter λx=>!decide (x=h)).Nodup:=(Ak 1 sz).filter _;have A:((bK 1 sz).filter λx=>!decide (x=h)).length<=999:=XY (Yg _ _) (by rw[bc];omega);generalize (bK 1 sz).filter (λx=>!decide (x=h))=d at E y i A
 have F:=BR (t:=aW (oI (aY Ft (vC (·.vkq)) (kC (0:Int))) (aY Ft (ba ez (vC (·.vtq))) (kC (0:Int))))) (c:=sC)
  (λn (s:S_bd9)=>∃f m cj mid,s=⟨f,h,sz,some cj,some (h::mid),some m⟩/\cj.length=n/\(h::mid++cj).Nodup/\(∀x∈h::mid++cj,1<=x/\x<sz)/\(h::mid++cj).length<=1000)
  (λs=>∃f m cj mid,s=⟨f,h,sz,some cj,some (h::mid),some m⟩/\(h::mid).Nodup/\(∀x∈h::mid,1<=x/\x<sz)/\(h::mid).length<=1000) (by
    rintro n s ⟨f,m,cj,mid,rfl,rfl,nd,w,B⟩;have I:mid.length+cj.length+1<=1000:=by simpa using B
    by_cases C:0<m/\0<cj.length
    · have K:0<=f%(cj.length:Int):=X6 _ (by omega);have J:f%(cj.length:Int)<cj.length:=XW _ (by omega);obtain⟨k,hp⟩:=PZ K J (by omega);have V:(0:Int)<cj.length:=by omega
      generalize (f%(cj.length:Int)).toNat=j at k hp;have D:=ia (l:=h::mid) (x:=cj[j]) (by simp only[List.length_cons];unfold am;omega);refine .inr ⟨by simp[C.1,C.2],(cj.eraseIdx j).length,_,by rw[List.length_eraseIdx,if_pos k];omega,.inl (by simp[sC,r9,r8,r6,C.2,hp,D]),f / 5,m-1,cj.eraseIdx j,mid++[cj[j]],rfl,rfl,?_,?_,?_⟩
      · have v:(h::(mid++[cj[j]])++cj.eraseIdx j).Perm (h::mid++cj):=by
         have:(cj[j]::cj.eraseIdx j).Perm cj:=gB k
         simpa using(Z7 (h::mid) this)
        exact v.nodup_iff.mpr nd
      · intro x g;refine w x ?_
        have v:(h::(mid++[cj[j]])++cj.eraseIdx j).Perm (h::mid++cj):=by
         have:(cj[j]::cj.eraseIdx j).Perm cj:=gB k
         simpa using(Z7 (h::mid) this)
        exact v.mem_iff.mp g
      ·simp[List.length_eraseIdx,k];omega
    · refine .inl ⟨?_,f,m,cj,mid,rfl,(XV.mp nd).1,λx g=>w x (XA _ g),by simp;omega⟩;by_cases o:0<m
      ·have T:cj=[]:=Yn.mp (by omega);subst T;simp[o]
      ·simp[o])
 obtain⟨s',e,f,m,cj,mid,rfl,nd,w,B⟩:=F 100000 d.length ⟨c / 4,h,sz,some d,some [h],some (if c / 4%8=3 then sz else c%4)⟩
  ⟨c / 4,_,d,[],rfl,rfl,XH.mpr ⟨λz=>(y h z).2.2 rfl,i⟩,λx g=>by
   rcases Xv.mp g with z|z
   ·rw[z];exact⟨N,M⟩
   ·exact⟨(y x z).1,(y x z).2.1⟩,by show(h::d).length<=1000;rw[Xp];omega⟩ (by omega)
 have U:mid.length+1<=1000:=by simpa using B
 have u:=kP (l:=h::mid) (m:=[(0:Int)]) (by simp only[List.length_cons,List.length_nil];unfold am;omega);refine⟨h::mid++[0],?_,⟨by simp,List.getLast?_concat ..,?_,λx g=>?_⟩,⟨_,rfl⟩,by simp;omega⟩
 · have v:sk ⟨c,h,sz,none,none,none⟩=.nx ⟨c,h,sz,some d,none,none⟩:=by
    unfold sk bv aW;rw[E];rfl
   have S:sj ⟨c,h,sz,some d,none,none⟩=.nx ⟨c,h,sz,some d,some [h],none⟩:=by simp[sj,am]
   have R:si ⟨c,h,sz,some d,some [h],none⟩=.nx ⟨c,h,sz,some d,some [h],some (c%4)⟩:=by simp[si]
   have Q:sg ⟨c,h,sz,some d,some [h],some (c%4)⟩=.nx ⟨c,h,sz,some d,some [h],some (if c / 4%8=3 then sz else c%4)⟩:=by
    by_cases q:c / 4%8=3<;>simp[sg,nF,q]
   have P:∀x,sf ⟨c,h,sz,some d,some [h],x⟩=.nx ⟨c / 4,h,sz,some d,some [h],x⟩:=λx=>by simp[sf]
   have O:zb ⟨c / 4,h,sz,some d,some [h],some (if c / 4%8=3 then sz else c%4)⟩=_:=e;unfold Ef BA;simp only[au,v,S,R,Q,P,O];simp[za,u,am,-h8]
 · exact XV.mpr ⟨nd,by simp,λa D b L=>by
    rw[Xz.mp L]
    have:=(w a D).1
    omega⟩
 · rcases XE.mp g with z|z
   ·have:=w x z;omega
   ·rw[Xz.mp z];omega
theorem dN:∀(n:Nat) (l:List Int),l.Nodup->(∀x∈l,0<=x/\x<n)->l.length<=n:=by
 intro n
 induction n with
 |zero=>
   intro l nd a;cases l with
   |nil=>exact XD _
   |cons x l=>have:=a x Xk;omega
 |succ n d=>
   intro l nd a
   have c:=d (l.erase n) (nd.erase _) λx e=>by
    have b:=(nd.mem_erase_iff).mp e
    have:=a x b.2
    have f:=b.1;omega
   rw[List.length_erase]at c;split at c<;>omega
theorem RoadOk.len{sz:Int}{r:List Int}(h:RoadOk sz r):(r.length:Int)<=sz:=by
 have:=dN sz.toNat r h.nd λx a=>by have:=h.all x a;omega
 obtain⟨x,a⟩:=Zx r (λz=>by have:=h.two;rw[z]at this;simp at this)
 have:=h.all x a
 omega
theorem LU(c sz:Int)(z:1<=sz)(q:sz<=1000):∃F:DI Int,(Lg c sz).res=.ok F/\F.length<=4/\DI.nd F/\∀p∈F,RoadOk sz p.1:=by
 by_cases j:sz<2
 ·refine⟨[],?_,by simp,by simp[DI.nd],λ_ h=>(nomatch h)⟩;simp[Lg,DX,vT,vS,o7,j]
 · have y:0<=c%4/\c%4<4:=⟨X6 _ (by omega),XW _ (by omega)⟩
   obtain⟨s',e,f,k,F,r,rfl,n,i,hF⟩:=bN (u:=λa s=>{s with vhq:=some a}) (c:=wx) (λp (s:S_v9)=>∃f k F r,s=⟨f,sz,some F,k,r⟩/\F.length<=p.length/\DI.nd F/\∀p∈F,RoadOk sz p.1)
    (bK 0 (c%4)) ⟨c,sz,some [],none,none⟩ ⟨c,none,[],none,rfl,by simp,by simp[DI.nd],λ_ h=>(nomatch h)⟩ (by
      rintro p a r s o ⟨f,k,F,rd,rfl,n,i,hF⟩
      have hp:p.length<4:=by
       have:=bc 0 (c%4)
       rw[o,Xo,Xp]at this;omega
      have l:F.length<am:=by unfold am;omega
      have g:1<sz:=by omega
      generalize v:(f*48271+17)%2147483647=b;have x:0<=b%(sz-1):=X6 _ (by omega);have w:b%(sz-1)<sz-1:=XW _ (by omega);obtain⟨d,t,m,_,_⟩:=LL (b / 9) (1+b%(sz-1)) sz (by omega) (by omega) q;refine⟨_,.inl ?_,b,some a,F.put d (b / 5%9-4),some d,rfl,?_,jr i,gF hF m⟩
      ·simp[wx,uz,uy,uw,v,l,g,t]
      ·rw[Xo];exact XY fX (by simp;omega))
   refine⟨F,?_,?_,i,hF⟩
   ·unfold Lg DX;simp[vT,vS,Dj,Di,j,cg (lo:=0) (hi:=c%4) (by omega) (by omega) (by omega) (by omega),e]
   ·have:=bc 0 (c%4);omega
def D3(sz:Int)(p:Int×Int):Prop:=0<=p.1/\p.1<sz/\0<=p.2/\p.2<sz/\p.1≠p.2
theorem jq{X:Type}{l:List X}{a:X}(h:l.Nodup)(d:a∉l):(l++[a]).Nodup:=
 XV.mpr ⟨h,by simp,λx c y b=>by rw[Xz.mp b];rintro rfl;exact d c⟩
theorem Ei{a x sz:Int}(e:0<=a)(d:a<sz)(c:0<=x)(b:x<sz-1):a≠(a+1+x)%sz:=by
 by_cases q:a+1+x<sz
 ·rw[Int.emod_eq_of_lt (by omega) q];omega
 · have:(a+1+x)%sz=a+1+x-sz:=by
    rw[<-Int.sub_emod_right,Int.emod_eq_of_lt (by omega) (by omega)]
   rw[this];omega
theorem Pa(c sz:Int)(L:1<=sz):∃W:P1,(zM c sz).res=.ok W/\W.length<=3/\W.Nodup/\∀p∈W,D3 sz p:=by
 by_cases C:sz<2
 ·refine⟨[],?_,by simp,by simp,λ_ h=>(nomatch h)⟩;simp[zM,wA,rV,rT,nD,C,am]
 · have K:0<=c%3/\c%3<3:=⟨X6 _ (by omega),XW _ (by omega)⟩;have g:1<sz:=by omega
   have f:0<sz:=by omega
   obtain⟨s',e,m,k,y,w,W,rfl,H,i,j⟩:=bN (u:=λa s=>{s with vhq:=some a}) (c:=nI) (λp (s:S_bi9)=>∃m k y w W,s=⟨m,sz,some W,k,y,w⟩/\W.length<=p.length/\W.Nodup/\∀p∈W,D3 sz p)
    (bK 0 (c%3)) ⟨c,sz,some [],none,none,none⟩ ⟨c,none,none,none,[],rfl,by simp,by simp,λ_ h=>(nomatch h)⟩ (by
      rintro p x r s I ⟨m,k,y,w,W,rfl,H,i,j⟩
      have hp:p.length<3:=by
       have:=bc 0 (c%3)
       rw[I,Xo,Xp]at this;omega
      generalize D:(m*48271+23)%2147483647=d;have q:0<=d%sz:=X6 _ (by omega);have o:d%sz<sz:=XW _ f;have G:0<=d / 7%(sz-1):=X6 _ (by omega);have F:d / 7%(sz-1)<sz-1:=XW _ (by omega);have B:0<=(d%sz+1+d / 7%(sz-1))%sz:=X6 _ (by omega);have A:(d%sz+1+d / 7%(sz-1))%sz<sz:=XW _ f;have n:=Ei q o G F;generalize v:(d%sz+1+d / 7%(sz-1))%sz=b at B A n;generalize E:d%sz=a at q o n v;by_cases t:(a,b)∈W
      ·refine⟨_,.inl ?_,d,some x,some a,some b,W,rfl,by rw[Xo];omega,i,j⟩;simp[nI,mB,mz,my,mw,D,f,g,E,v,t]
      · have J:=ia (l:=W) (x:=(a,b)) (by unfold am;omega);refine⟨_,.inl ?_,d,some x,some a,some b,W++[(a,b)],rfl,by rw[List.length_append,List.length_append];simp;omega,jq i t,λp hp=>?_⟩
        ·simp[nI,mB,mz,my,mw,kO,D,f,g,E,v,t,J]
        · rcases XE.mp hp with z|z
          ·exact j p z
          ·rw[Xz.mp z];exact⟨q,o,B,A,n⟩)
   refine⟨W,?_,?_,i,j⟩
   ·unfold zM wA;simp[rV,rT,yT,yS,C,cg (lo:=0) (hi:=c%3) (by omega) (by omega) (by omega) (by omega),e,am]
   ·have:=bc 0 (c%3);omega
structure WaysOk (sz:Int) (W:P1):Prop where
 nd:W.Nodup
 all:∀p∈W,0<=p.1/\p.1<p.2/\p.2<sz
 len:W.length<=10000
theorem LH(c sz:Int)(P:1<=sz)(O:sz<=60):∃W:P1,(Eb c sz).res=.ok W/\WaysOk sz W:=by
 generalize j:(c+1)*48271%2147483647*16807%2147483647=d
 obtain⟨s',e,k,C,g,W,rfl,y,n,m,v⟩:=bN (u:=λa s=>{s with v0q:=some a}) (c:=l9) (λp (s:S_bn9)=>∃k C g W,s=⟨c,sz,some d,some W,some k,C,g⟩/\0<=k/\W.Nodup/\(∀q∈W,0<=q.1/\q.1<q.2/\q.2<sz/\q.1<(p.length:Int))/\W.length<=p.length*100)
  (bK 0 sz) ⟨c,sz,some d,some [],some 0,none,none⟩ ⟨0,none,none,[],rfl,by omega,by simp,λ_ h=>(nomatch h),by simp⟩ (by
    rintro p a r s G ⟨k,C,g,W,rfl,y,n,m,v⟩;have N:=mV G;have E:(p.length:Int)=a:=by omega
    obtain⟨s2,H,k2,I,J,rfl,w,t,B,F⟩:=bN (u:=λa s=>{s with v2q:=some a}) (c:=jJ) (λq (s:S_bn9)=>∃k g W,s=⟨c,sz,some d,some W,some k,some a,g⟩/\0<=k/\W.Nodup/\(∀x∈W,0<=x.1/\x.1<x.2/\x.2<sz/\(x.1<a\/x.1=a/\x.2<a+1+(q.length:Int)))/\W.length<=p.length*100+q.length)
     (bK (a+1) sz) ⟨c,sz,some d,some W,some k,some a,g⟩ ⟨k,g,W,rfl,y,n,λx i=>by have:=m x i;omega,by simpa using v⟩ (by
       rintro q b K s o ⟨k,g,W,rfl,y,n,m,v⟩;have M:=mV o
       have L:q.length<60:=by
        have:=bc (a+1) sz
        rw[o,Xo,Xp]at this;omega
       have f:0<=k%29:=X6 _ (by omega);by_cases D:d / 2 ^ (k%29).toNat%2=1
       · have A:=ia (l:=W) (x:=(a,b)) (by unfold am;omega);refine⟨_,.inl ?_,k+1,some b,W++[(a,b)],rfl,by omega,jq n (λz=>by have:=m _ z;omega),λx i=>?_,by rw[List.length_append,List.length_append];simp;omega⟩
         ·simp[jJ,jC,jd,jB,f,D,A]
         · rw[Xo];rcases XE.mp i with z|z
           ·have:=m x z;simp;omega
           ·rw[Xz.mp z];simp;omega
       · refine⟨_,.inl ?_,k+1,some b,W,rfl,by omega,n,λx i=>?_,by rw[Xo];omega⟩
         ·simp[jJ,jC,jB,f,D]
         ·have:=m x i;rw[Xo];simp;omega)
    refine⟨_,.inl ?_,k2,some a,I,J,rfl,w,t,λx i=>?_,?_⟩
    ·simp only[l9,cw,aY,jO,vC,pC,kC,Res.bind];rw[cg (by omega) (by omega) (by omega) (by omega)];exact H
    ·have:=B x i;rw[Xo];simp;omega
    ·have:=bc (a+1) sz;rw[Xo];simp;omega)
 refine⟨W,?_,n,λp hp=>by have:=m p hp;omega,by have:=bc 0 sz;omega⟩;unfold Eb Bt;simp[yM,yL,yK,yJ,yI,j,am,cg (lo:=0) (hi:=sz) (by omega) (by omega) (by omega) (by omega),e]
def bb(W:P1)(sz a:Int):List Int:=(bK 0 sz).filter λb=>decide ((min a b,max a b)∈W)
theorem pM(W:P1)(sz a:Int)(h0:0<=sz)(f:sz<=1000):(pG W sz a).res=.ok (bb W sz a):=by
 have e:∀s:S_bk9,s=⟨W,sz,a⟩->cq (ba (dy 0) (pC (·.vCq))) (aY (EX false) (iW (aY Q9 (pC λp=>p.2.v0q) (pC λp=>p.1)) (aY Rb (pC λp=>p.2.v0q) (pC λp=>p.1))) (pC λp=>p.2.vIq)) (pC λp=>p.1) s=.ok (bb W sz a):=by
  rintro s rfl
  rw[lp (l:=bK 0 sz) (λb=>decide ((min a b,max a b)∈W)) (λx=>x) (by simp[cg (lo:=0) (hi:=sz) (by omega) (by omega) (by omega) (by omega)]) (by rw[bc];unfold am;omega) (λb _=>by
   have d:(if b<a then b else a)=min a b:=by rw[Int.min_def];split<;>split<;>omega
   have c:(if a<b then b else a)=max a b:=by rw[Int.max_def];split<;>split<;>omega
   simp[d,c]) (λb _ _=>by simp)]
  simp[bb]
 unfold pG Bv
 first | (unfold yO) | skip
 simp only[bw,aW];rw[e _ rfl];rfl
theorem Jg(l:List Int)(m:Int):0<=fk l m↔0<=m/\∀x∈l,0<=x:=by
 obtain⟨e,f,d⟩:=kt l m;constructor
 ·intro h;exact⟨by omega,λx c=>by have:=d x c;omega⟩
 · rintro⟨a,b⟩;rcases e with z|z
   ·omega
   ·exact b _ z
theorem tP(b:List Int)(n:Int)(h:∀x∈b,0<=x/\x<n)(h0:0<n):(zK b n).res=.ok ():=by
 unfold zK Bn
 first | unfold yD | skip
 cases b with
 |nil=>
   have q:¬ n<=0:=by omega
   simp[q]
 |cons a l=>
   have g:0<=fk l a:=(Jg l a).mpr ⟨(h a Xk).1,λx e=>(h x (no _ e)).1⟩
   have f:i3 l a<n:=by
    obtain⟨z|z,_⟩:=lX l a
    ·rw[z];exact(h a Xk).2
    ·exact(h _ (no _ z)).2
   have d:¬ fk l a<0:=by omega
   have c:¬ n<=i3 l a:=by omega
   simp[d,c]
theorem qf(g:GΩ)(a:List Int)(h:∀x∈a,0<=x/\x<g.hω)(h0:0<g.hω):(zI g a).res=.ok ():=by
 have e:=tP a g.hω h h0;unfold zI KW
 first | unfold DJ | skip
 simp[e]
theorem in1{a n:Int}(c:0<=a/\a<n):∀x∈[a],0<=x/\x<n:=λx b=>by rw[Xz.mp b];exact c
theorem W3{a b n:Int}(e:0<=a/\a<n)(d:0<=b/\b<n):∀x∈[a,b],0<=x/\x<n:=λx c=>by
 rcases Xv.mp c with z|z
 ·rw[z];exact e
 ·rw[Xz.mp z];exact d
theorem FP(g:GΩ)(a b:Int)(f:0<=a/\a<g.hω)(d:0<=b/\b<g.hω)(c:a≠b):(Lj g a b).res=.ok ():=by
 have e:=qf g [a,b] (W3 f d) (by omega);unfold Lj KS;simp[DD,DC,e,c,am]
theorem Eo(g:GΩ)(a b:Int)(d:0<=a/\a<g.hω)(c:0<=b/\b<g.hω):(NE g a b).res=.ok ((g.lω.get [a,b]).getD 0):=by
 have e:=qf g [a,b] (W3 d c) (by omega);unfold NE K0;simp[DN,DM,e,am]
theorem BX(g:GΩ)(r:List Int)(a:RoadOk g.hω r)(h:g.hω<=1000):(Lk g r).res=.ok ():=by
 have f:=a.len;have two:=a.two;have e:=qf g r a.all (by omega);have d:¬ (r.length:Int)<2:=by omega
 have b:r.length<4000:=by omega
 have c:=a.last;unfold Lk KU;simp[DH,DG,DF,DE,e,d,b,Cl.sI,c,J8 a.nd]
def qp(L Q:DI Int)(r:List Int):Int:=(Q.get r).getD (match r with|a::b::_=>(L.get [a,b]).getD 0|_=>0)
def bR(L Q:DI Int)(r:List Int):Int×Int×List Int:=(0-qp L Q r,(r.length:Int),r)
theorem WK{X:Type}(a b:X)(t:List X):nJ (a::b::t) 0=some a:=by rw[kS _ (by omega)];rfl
theorem S3{X:Type}(a b:X)(t:List X):nJ (a::b::t) 1=some b:=by rw[kS _ (by omega)];rfl
theorem LM(g:GΩ)(r:List Int)(c:RoadOk g.hω r)(i:g.hω<=1000):(ND g r).res=.ok (qp g.lω g.wω r):=by
 have e:=BX g r c i
 obtain⟨a,b,t,rfl⟩:∃a b t,r=a::b::t:=by
  match r,c.two with
  |a::b::t,_=>exact⟨a,b,t,rfl⟩
 have h:=c.all a (by simp);have f:=c.all b (by simp);have d:=Eo g a b h f;unfold ND KY qp;cases q:g.wω.get (a::b::t) with
 |none=>simp[wg,wf,we,kK,wd,e,q,WK,S3,d]
 |some v=>simp[wg,wf,we,kK,wd,e,q]
theorem FS(L Q:DI Int)(r:List Int)(h:2<=r.length):(zN L Q r).res=.ok (bR L Q r):=by
 obtain⟨a,b,t,rfl⟩:∃a b t,r=a::b::t:=by
  match r,h with
  |a::b::t,_=>exact⟨a,b,t,rfl⟩
 unfold zN BD bR qp;cases q:Q.get (a::b::t) with
 |none=>simp[ss,sr,jF,sm,q,WK,S3]
 |some v=>simp[ss,sr,jF,sm,q,WK,S3]
theorem xY{L d Q c:DI Int}(f:∀k,L.get k=d.get k)(e:∀k,Q.get k=c.get k)(r:List Int):bR L Q r=bR d c r:=by
 unfold bR qp;rw[e];cases r with
 |nil=>rfl
 | cons a r=>cases r with
   |nil=>rfl
   |cons b r=>simp only[f]
theorem Pd(g:GΩ)(r:List Int)(a:RoadOk g.hω r)(b:g.hω<=1000):(zJ g r).res=.ok (bR g.lω g.wω r):=by
 have e:=LM g r a b;unfold zJ Bj bR
 first | unfold yt | skip
 simp[e,Int.zero_sub]
theorem pO(g:GΩ):(BP g).res=.ok g.hω:=by
 unfold BP KN
 first | unfold Dy | skip
 simp
theorem BY(g:GΩ)(a b v:Int)(f:0<=a/\a<g.hω)(d:0<=b/\b<g.hω)(c:g.lω.length<am):Lm g a b v=.ok () ⟨{g with lω:=g.lω.put [a,b] v},a,b,v⟩:=by
 have e:=qf g [a,b] (W3 f d) (by omega);unfold Lm K1;simp[DP,DO,e,c,am]<;>(unfold am at c;simp[c])
theorem LJ(g:GΩ)(a b:Int)(h:0<=a/\a<g.hω)(f:0<=b/\b<g.hω)(c:a≠b)(d:g.sω.length<am):NC g a b=.ok () ⟨{g with sω:=g.sω.put [a,b] true},a,b⟩:=by
 have e:=FP g a b h f c;unfold NC KQ;simp[DB,DA,e,d]
theorem LG(g:GΩ)(r:List Int)(v:Int)(a:RoadOk g.hω r)(c:g.hω<=1000)(b:g.wω.length<am):NA g r v=.ok () ⟨{g with wω:=g.wω.put r v},r,v⟩:=by
 have e:=BX g r a c;unfold NA KM;simp[Dx,Dw,e,b]
theorem Pc(g:GΩ)(a b:Int)(j:0<=a/\a<g.hω)(i:0<=b/\b<g.hω)(c:a≠b)(f:g.U.get [a,b]=none)(h:g.U.length+1<am):NF g a b=.ok () ⟨{g with U:=(g.U.put [a,b] true).put [b,a] true},a,b⟩:=by
 have e:=FP g a b j i c;have d:g.U.length<am:=by omega
 have l2:(g.U.put [a,b] true).length<am:=Nat.lt_of_le_of_lt fX h;unfold NF K2;simp[DT,DS,DR,DQ,e,f,d,l2]
structure GuildIs (g:GΩ) (sz:Int) (U:P1) (Z Y:DI Int) (X:P1):Prop where
 count:g.hω=sz
 way:∀x y,(g.U.get [x,y]).isSome=true↔(x,y)∈U\/(y,x)∈U
 lik:∀k,g.lω.get k=Z.get k
 wsh:∀k,g.wω.get k=Y.get k
 shn:∀x y,(g.sω.get [x,y]).isSome=true↔(x,y)∈X
def Few(g:GΩ):Prop:=g.U.length<=30000/\g.lω.length<=30000/\g.wω.length<=30000/\g.sω.length<=30000
structure DrawOk (sz:Int) (U:P1) (Z Y:DI Int) (X:P1):Prop where
 size:1<=sz/\sz<=60
 U:WaysOk sz U
 Z:Z.length<=100/\DI.nd Z/\∀p∈Z,iQ sz p.1
 Y:Y.length<=100/\DI.nd Y/\∀p∈Y,RoadOk sz p.1
 X:X.length<=100/\X.Nodup/\∀p∈X,D3 sz p
theorem C1{W:Type}(k:List Int):DI.get ([]:DI W) k=none:=rfl
theorem CW{W:Type}{F:DI W}(a:DI.nd F){k:List Int}(b:k∈F.map (·.1)):∃v,F.get k=some v/\(k,v)∈F:=by
 obtain⟨p,hp,rfl⟩:=X5.mp b;exact⟨p.2,A8 a hp,hp⟩
theorem oZ{W:Type}{F:DI W}{k:List Int}(a:k∉F.map (·.1)):F.get k=none:=by
 cases q:F.get k with
 |none=>rfl
 |some v=>exact absurd (X5.mpr ⟨(k,v),JN q,rfl⟩) a
structure Wf (sz:Int) (g:GΩ):Prop where
 count:g.hω=sz
 U:DI.nd g.U/\∀p∈g.U,iQ sz p.1
 lik:DI.nd g.lω/\∀p∈g.lω,iQ sz p.1
 shn:DI.nd g.sω/\∀p∈g.sω,iQ sz p.1
 wsh:DI.nd g.wω/\∀p∈g.wω,RoadOk sz p.1
theorem Wf.lay{sz:Int}{g:GΩ}(h:Wf sz g){a b:Int}(d:0<=a/\a<sz)(c:0<=b/\b<sz):Wf sz {g with U:=(g.U.put [a,b] true).put [b,a] true}:=
 ⟨h.count,⟨jr (jr h.U.1),gF (P:=iQ sz) (gF (P:=iQ sz) h.U.2 ⟨a,b,rfl,d.1,d.2,c.1,c.2⟩) ⟨b,a,rfl,c.1,c.2,d.1,d.2⟩⟩,h.lik,h.shn,h.wsh⟩
theorem Wf.like{sz:Int}{g:GΩ}(h:Wf sz g){a b:Int}(v:Int)(d:0<=a/\a<sz)(c:0<=b/\b<sz):Wf sz {g with lω:=g.lω.put [a,b] v}:=
 ⟨h.count,h.U,⟨jr h.lik.1,gF (P:=iQ sz) h.lik.2 ⟨a,b,rfl,d.1,d.2,c.1,c.2⟩⟩,h.shn,h.wsh⟩
theorem Wf.shun{sz:Int}{g:GΩ}(h:Wf sz g){a b:Int}(d:0<=a/\a<sz)(c:0<=b/\b<sz):Wf sz {g with sω:=g.sω.put [a,b] true}:=
 ⟨h.count,h.U,h.lik,⟨jr h.shn.1,gF (P:=iQ sz) h.shn.2 ⟨a,b,rfl,d.1,d.2,c.1,c.2⟩⟩,h.wsh⟩
theorem Wf.wish{sz:Int}{g:GΩ}(h:Wf sz g){k:List Int}(v:Int)(a:RoadOk sz k):Wf sz {g with wω:=g.wω.put k v}:=
 ⟨h.count,h.U,h.lik,h.shn,⟨jr h.wsh.1,gF (P:=RoadOk sz) h.wsh.2 a⟩⟩
theorem Wf.new{sz:Int}:Wf sz ⟨sz,[],[],[],[]⟩:=⟨rfl,⟨by unfold DI.nd;simp,by simp⟩,⟨by unfold DI.nd;simp,by simp⟩,⟨by unfold DI.nd;simp,by simp⟩,⟨by unfold DI.nd;simp,by simp⟩⟩
theorem G9{F:DI Bool}{a b x y:Int}{p:P1}(h:(F.get [x,y]).isSome=true↔(x,y)∈p\/(y,x)∈p):((((F.put [a,b] true).put [b,a] true).get [x,y])).isSome=true↔(x,y)∈p++[(a,b)]\/(y,x)∈p++[(a,b)]:=by
 rw[la,la,XE,XE,Xz,Xz];by_cases e:[x,y]=[b,a]
 ·rw[Xl e];injection e with e c;injection c with c;subst e c;simp
 · rw[Xj e];by_cases c:[x,y]=[a,b]
   ·rw[Xl c];injection c with c d;injection d with d;subst c d;simp
   · rw[Xj c,h];constructor
     · rintro(z|z)
       ·exact .inl (.inl z)
       ·exact .inr (.inl z)
     · rintro((z|z) | (z|z))
       ·exact .inl z
       ·injection z with d f;subst d f;exact absurd rfl c
       ·exact .inr z
       ·injection z with d f;subst d f;exact absurd rfl e
theorem G8{F:DI Bool}{a b x y:Int}{p:P1}(h:(F.get [x,y]).isSome=true↔(x,y)∈p):((F.put [a,b] true).get [x,y]).isSome=true↔(x,y)∈p++[(a,b)]:=by
 rw[la,XE,Xz];by_cases c:[x,y]=[a,b]
 ·rw[Xl c];injection c with c d;injection d with d;subst c d;simp
 · rw[Xj c,h];constructor
   ·exact .inl
   · rintro(z|z)
     ·exact z
     ·injection z with f e;subst f e;exact absurd rfl c
theorem x9{F G:DI Int}{p:List (List Int)}{k:List Int}{v:Int}(h:∀j,F.get j=if j∈p then G.get j else none)(e:G.get k=some v)(j:List Int):(F.put k v).get j=if j∈p++[k] then G.get j else none:=by
 rw[la,h j];by_cases z:j=k
 ·subst z;rw[Xl rfl,Xl (by simp),e]
 · rw[Xj z];by_cases b:j∈p
   ·rw[Xl b,Xl (XA _ b)]
   · rw[Xj b,Xj (λa=>by
      rcases XE.mp a with a|a
      ·exact b a
      ·exact z (Xz.mp a))]
theorem Ep{sz:Int}{U:P1}{Z Y:DI Int}{X:P1}(h:DrawOk sz U Z Y X):∃g,(Eg sz U Z Y X).res=.ok g/\GuildIs g sz U Z Y X/\Few g/\Wf sz g:=by
 obtain⟨W,V⟩:=h.size
 have e1:sv ⟨sz,U,Z,Y,X,none,none,none,none,none⟩=.nx ⟨sz,U,Z,Y,X,some ⟨sz,[],[],[],[]⟩,none,none,none,none⟩:=by
  simp[sv,mk_Guild,W,V]
 obtain⟨s2,e2,g2,C,B,rfl,c2,l2,w2,n2,y2,len2⟩:=bN (u:=λa s=>{s with v0q:=some a.1,v2q:=some a.2}) (c:=mL) (λp (s:S_ba9)=>∃g N M,s=⟨sz,U,Z,Y,X,some g,N,M,none,none⟩/\Wf sz g/\g.lω=[]/\g.wω=[]/\g.sω=[]/\(∀x y,(g.U.get [x,y]).isSome=true↔(x,y)∈p\/(y,x)∈p)/\g.U.length<=2*p.length)
  U ⟨sz,U,Z,Y,X,some ⟨sz,[],[],[],[]⟩,none,none,none,none⟩ ⟨_,none,none,rfl,Wf.new,rfl,rfl,rfl,λx y=>by simp[C1],by simp⟩ (by
   rintro p ⟨a,b⟩ r s d ⟨g,N,M,rfl,f,hl,T,K,i,l⟩;have P:=f.count;have n:(a,b)∈U:=by rw[d];simp
   have A:=h.U.all _ n;have J:=h.U.nd;rw[d]at J;have S:=XV.mp J;have hp1:(a,b)∉p:=λz=>S.2.2 _ z _ Xk rfl
   have hp2:(b,a)∉p:=λz=>by
    have:(b,a)∈U:=by rw[d];exact XA _ z
    have:=h.U.all _ this
    simp only at A this;omega
   have m:p.length<=10000:=by
    have:=h.U.len
    rw[d,Xo]at this;omega
   simp only at A
   have gn:g.U.get [a,b]=none:=by
    cases q:g.U.get [a,b] with
    |none=>rfl
    |some v=>
      rcases(i a b).mp (by rw[q];rfl) with z|z
      ·exact absurd z hp1
      ·exact absurd z hp2
   have sp:=Pc g a b (by omega) (by omega) (by omega) gn (by unfold am;omega);refine⟨_,.inl (by simp[mL,sp]),{g with U:=(g.U.put [a,b] true).put [b,a] true},some a,some b,rfl,f.lay (by omega) (by omega),hl,T,K,λx y=>?_,?_⟩
   ·exact G9 (i x y)
   · show((g.U.put [a,b] true).put [b,a] true).length<=_
     have:=fX (F:=g.U.put [a,b] true) (k:=[b,a]) (v:=true)
     have:=fX (F:=g.U) (k:=[a,b]) (v:=true)
     rw[Xo];simp;omega)
 have hwl:=h.U.len
 obtain⟨s3,e3,g3,O,rfl,c3,w3,n3,q3,y3,k3,G⟩:=bN (u:=λa s=>{s with vpq:=some a}) (c:=mK) (λp (s:S_ba9)=>∃g p0,s=⟨sz,U,Z,Y,X,some g,C,B,p0,none⟩/\Wf sz g/\g.wω=[]/\g.sω=[]/\g.U.length<=30000/\(∀x y,(g.U.get [x,y]).isSome=true↔(x,y)∈U\/(y,x)∈U)/\(∀k,g.lω.get k=if k∈p then Z.get k else none)/\g.lω.length<=p.length)
  (Z.map (·.1)) ⟨sz,U,Z,Y,X,some g2,C,B,none,none⟩ ⟨g2,none,rfl,c2,w2,n2,by omega,y2,λk=>by rw[l2];rfl,by rw[l2];simp⟩ (by
    rintro p k r s d ⟨g,p0,rfl,f,T,K,I,i,L,l⟩;have P:=f.count;obtain⟨v,H,n⟩:=CW h.Z.2.1 (k:=k) (by rw[d];simp);obtain⟨a,b,rfl,ha1,ha2,hb1,hb2⟩:=h.Z.2.2 _ n
    have m:p.length<=100:=by
     have:=h.Z.1
     have e:(Z.map (·.1)).length=Z.length:=on ..;rw[d,Xo]at e;omega
    have sp:=BY g a b v (by omega) (by omega) (by unfold am;omega);refine⟨_,.inl (by simp[mK,WK,S3,H,sp]),{g with lω:=g.lω.put [a,b] v},some [a,b],rfl,f.like v (by omega) (by omega),T,K,I,i,λj=>?_,?_⟩
    ·exact x9 L H j
    · show(g.lω.put [a,b] v).length<=_
      rw[Xo];exact XY fX (by simp;omega))
 obtain⟨s4,e4,g4,p4,rfl,c4,n4,q4,y4,k4,E,f4,w⟩:=bN (u:=λa s=>{s with viq:=some a}) (c:=mJ) (λp (s:S_ba9)=>∃g k0,s=⟨sz,U,Z,Y,X,some g,C,B,O,k0⟩/\Wf sz g/\g.sω=[]/\g.U.length<=30000/\(∀x y,(g.U.get [x,y]).isSome=true↔(x,y)∈U\/(y,x)∈U)/\(∀k,g.wω.get k=if k∈p then Y.get k else none)/\g.wω.length<=p.length/\(∀k,g.lω.get k=Z.get k)/\g.lω.length<=30000)
  (Y.map (·.1)) ⟨sz,U,Z,Y,X,some g3,C,B,O,none⟩ ⟨g3,none,rfl,c3,n3,q3,y3,λk=>by rw[w3];rfl,by rw[w3];simp,λk=>by
    rw[k3 k];by_cases z:k∈Z.map (·.1)
    ·rw[Xl z]
    ·rw[Xj z,oZ z],by have:=h.Z.1;rw[on]at G;omega⟩ (by
    rintro p k r s d ⟨g,k0,rfl,f,K,I,i,L,l,hf,o⟩;have P:=f.count;obtain⟨v,H,n⟩:=CW h.Y.2.1 (k:=k) (by rw[d];simp);have hr:=h.Y.2.2 _ n
    have m:p.length<=100:=by
     have:=h.Y.1
     have e:(Y.map (·.1)).length=Y.length:=on ..;rw[d,Xo]at e;omega
    have sp:=LG g k v (by rw[P];exact hr) (by omega) (by unfold am;omega);refine⟨_,.inl (by simp[mJ,H,sp]),{g with wω:=g.wω.put k v},some k,rfl,f.wish v hr,K,I,i,λj=>?_,?_,hf,o⟩
    ·exact x9 L H j
    · show(g.wω.put k v).length<=_
      rw[Xo];exact XY fX (by simp;omega))
 obtain⟨s5,e5,g5,a5,b5,rfl,c5,q5,y5,k5,D,f5,t,R,Q⟩:=bN (u:=λa s=>{s with v0q:=some a.1,v2q:=some a.2}) (c:=mI) (λp (s:S_ba9)=>∃g N M,s=⟨sz,U,Z,Y,X,some g,N,M,O,p4⟩/\Wf sz g/\g.U.length<=30000/\(∀x y,(g.U.get [x,y]).isSome=true↔(x,y)∈U\/(y,x)∈U)/\(∀k,g.wω.get k=Y.get k)/\g.wω.length<=30000/\(∀k,g.lω.get k=Z.get k)/\g.lω.length<=30000/\(∀x y,(g.sω.get [x,y]).isSome=true↔(x,y)∈p)/\g.sω.length<=p.length)
  X ⟨sz,U,Z,Y,X,some g4,C,B,O,p4⟩ ⟨g4,C,B,rfl,c4,q4,y4,λk=>by
   rw[k4 k];by_cases z:k∈Y.map (·.1)
   ·rw[Xl z]
   ·rw[Xj z,oZ z],by have:=h.Y.1;rw[on]at E;omega,f4,w,λx y=>by rw[n4];simp[C1],by rw[n4];simp⟩ (by
   rintro p ⟨a,b⟩ r s d ⟨g,N,M,rfl,f,I,i,L,hkl,hf,o,hs,hsl⟩;have P:=f.count;have n:(a,b)∈X:=by rw[d];simp
   have A:=h.X.2.2 _ n;unfold D3 at A;simp only at A
   have m:p.length<=100:=by
    have:=h.X.1
    rw[d,Xo]at this;omega
   have sp:=LJ g a b (by omega) (by omega) A.2.2.2.2 (by unfold am;omega);refine⟨_,.inl (by simp[mI,sp]),{g with sω:=g.sω.put [a,b] true},some a,some b,rfl,f.shun (by omega) (by omega),I,i,L,hkl,hf,o,λx y=>?_,?_⟩
   ·exact G8 (hs x y)
   · show(g.sω.put [a,b] true).length<=_
     rw[Xo];exact XY fX (by simp;omega))
 refine⟨g5,?_,⟨c5.count,y5,f5,k5,R⟩,⟨q5,t,D,by have:=h.X.1;omega⟩,c5⟩;unfold Eg BE;simp only[au,e1];simp[zj,zi,zh,zg,zf,e2,e3,e4,e5]
structure PathOk (sz:Int) (r:List Int):Prop where
 ne:r≠[]
 last:r.getLast?=some 0
 nd:r.Nodup
 all:∀x∈r,0<=x/\x<sz
theorem PathOk.len{sz:Int}{r:List Int}(p:PathOk sz r):(r.length:Int)<=sz:=by
 have:=dN sz.toNat r p.nd λx a=>by have:=p.all x a;omega
 obtain⟨x,a⟩:=Zx r p.ne
 have:=p.all x a
 omega
theorem PathOk.road{sz h:Int}{r:List Int}(p:PathOk sz r)(c:0<=h/\h<sz)(b:h∉r):RoadOk sz (h::r):=by
 obtain⟨q,t,rfl⟩:∃q t,r=q::t:=by
  cases r with
  |nil=>exact absurd rfl p.ne
  |cons q t=>exact⟨q,t,rfl⟩
 refine⟨by simp,?_,XH.mpr ⟨b,p.nd⟩,λx a=>?_⟩
 ·rw[List.getLast?_cons_cons];exact p.last
 · rcases Xv.mp a with z|z
   ·rw[z];exact c
   ·exact p.all x z
theorem RoadOk.path{sz:Int}{r:List Int}(h:RoadOk sz r):PathOk sz r:=⟨λz=>by have:=h.two;rw[z]at this;simp at this,h.last,h.nd,h.all⟩
def lY(sh:Int->Bool)(h:Int)(r:List Int):Bool:=!decide (h∈r)&&!r.any sh
def gR(sh:Int->Bool)(h:Int)(o:Option (List Int)):Option (List Int):=match o with
 |none=>none
 |some r=>if lY sh h r=true then some (h::r) else none
def gC(sh:Int->Bool)(h:Int)(told:List (Option (List Int))):List (List Int):=told.filterMap (gR sh h)
def cW(L Q:DI Int)(sh:Int->Bool)(h:Int)(told:List (Option (List Int))):Option (List Int):=if h=0 then some [0] else (lw ((gC sh h told).map (bR L Q))).map (·.2.2)
def sT(g:GΩ)(h b:Int):Bool:=(g.sω.get [h,b]).isSome
theorem sL{X:Type}(f:X->Bool):∀l:List X,(l.map f).any id=l.any f
 |[]=>rfl
 |a::l=>by rw[Xm,YX,YX,sL f l];rfl
theorem FQ(g:GΩ)(a:Int)(c:List Int)(h:c.length<am):(NB g a c).res=.ok (c.any (sT g a)):=by
 have e:∀s:S_l9,s=⟨g,a,c⟩->cq (pC (·.vgq)) (λ_=>.ok true) (aY (Be false) (ba io (iW (pC λp=>p.2.v0q) (pC λp=>p.1))) (ba (λg=>.ok g.sω) (pC λp=>p.2.vAq))) s=.ok (c.map (sT g a)):=by
  rintro s rfl;exact fy (l:=c) (sT g a) rfl h λb _=>by simp[sT]
 unfold NB KP Dz;simp only[bw,aW,ba];rw[e _ rfl];simp[sL]
def AS(sh:Int->Bool)(h:Int)(o:Option (List Int)):Bool:=match o with
 |none=>false
 |some r=>decide (h≠0)&&lY sh h r
theorem Pb(g:GΩ)(h:Int)(o:Option (List Int))(b:∀r,o=some r->r.length<am):(zL g h o).res=.ok (AS (sT g h) h o):=by
 unfold zL Br AS;cases o with
 |none=>simp[kN,fw]
 |some r=>
   by_cases h0:h=0
   ·simp[kN,fw,h0]
   · by_cases a:h∈r
     ·simp[kN,fw,h0,a,lY]
     ·simp[kN,fw,yG,h0,a,lY,FQ g h r (b r rfl)]
theorem oJ(h:Int)(a:List (Int×Int×List Int)):(Nz h a).res=.ok (if h=0 then some [0] else (lw a).map (·.2.2)):=by
 unfold Nz KJ;by_cases h0:h=0
 ·simp[p6,pz,h0,am]
 · cases q:lw a with
   |none=>simp[p6,wc,wa,kJ,h0,q]
   |some k=>simp[p6,wc,wa,kJ,Dv,h0,q]
theorem jw(L Q:DI Int)(sh:Int->Bool)(h:Int):∀told:List (Option (List Int)),((told.filter λo=>match o with|none=>false|some r=>lY sh h r).map λo=>match o with|none=>bR L Q []|some r=>bR L Q (h::r))=(gC sh h told).map (bR L Q)
 |[]=>rfl
 | none::told=>by
   rw[show gC sh h (none::told)=gC sh h told from rfl,<-jw L Q sh h told];rfl
 | some r::told=>by
   have:=jw L Q sh h told
   cases q:lY sh h r with
   |false=>simpa [gC,gR,q] using this
   |true=>simpa [gC,gR,q] using this
theorem Es(g:GΩ)(h:Int)(told:List (Option (List Int)))(f:0<=h/\h<g.hω)(i:g.hω<=1000)(b:∀r,some r∈told->PathOk g.hω r)(d:told.length<am):
 (Ny g h told).res=.ok (cW g.lω g.wω (sT g h) h told):=by
 have e:∀s:S_p9,s=⟨g,h,told,none⟩->cq (pC (·.vHq)) (gI zL (pC λp=>p.2.veq) (pC λp=>p.2.vfq) (pC λp=>p.1)) (cJ zJ (pC λp=>p.2.veq) (aY h8 (jV (cD (pC λp=>p.2.vfq) (dC:_->Res (List Int)))) (ba fg (pC λp=>p.1)))) s
  =.ok ((told.filter (AS (sT g h) h)).map λo=>match o with|none=>bR g.lω g.wω []|some r=>bR g.lω g.wω (h::r)):=by
  rintro s rfl;refine lp (l:=told) _ _ rfl d (λo a=>?_) λo a hp=>?_
  · have:=Pb g h o (λr e=>by have:=(b r (e▸a)).len;unfold am;omega)
    simp[this]
  · cases o with
    |none=>cases hp
    |some r=>
      have hp:(decide (h≠0)&&lY (sT g h) h r)=true:=hp;have p:=b r a;have j:=p.len
      have c:h∉r:=by
       unfold lY at hp;simp at hp;exact hp.2.1
      have st:=Pd g (h::r) (p.road f c) i;have ct:=kP (l:=[h]) (m:=r) (by simp only[List.length_cons,List.length_nil];unfold am;omega);simp only[cJ,pC,aY,jV,cD,dC,ba,fg,Res.bind,List.length_cons,List.length_nil];rw[if_pos (by decide)];simp only[Res.bind,ct];exact st
 unfold Ny KH;simp only[au,Du,bv,aW];rw[e _ rfl];unfold cW;by_cases h0:h=0
 · have:=oJ h ((told.filter (AS (sT g h) h)).map λo=>match o with|none=>bR g.lω g.wω []|some r=>bR g.lω g.wω (h::r))
   rw[Xl h0]at this;rw[Xl h0];simp only[v9,bw,aW,cJ,pC,vC,Nc,Res.bind,this,cr,GD]
 · have:=oJ h ((told.filter (AS (sT g h) h)).map λo=>match o with|none=>bR g.lω g.wω []|some r=>bR g.lω g.wω (h::r))
   rw[Xj h0]at this;rw[Xj h0];simp only[v9,bw,aW,cJ,pC,vC,Nc,Res.bind,this,cr,GD]
   have q:AS (sT g h) h=λo=>match o with|none=>false|some r=>lY (sT g h) h r:=by
    funext o;cases o with
    |none=>rfl
    |some r=>simp[AS,h0]
   rw[q,jw]
theorem tZ(c:List (Int×Int×List Int))(k:Int×Int×List Int):lw (c++[k])=some (match lw c with|none=>k|some b=>if dO k b=true then k else b):=by
 cases c with
 |nil=>rfl
 |cons a r=>
   show some ((r++[k]).foldl _ a)=_;rw[List.foldl_append];rfl
theorem Iz:∀{c:List (Int×Int×List Int)} {k:Int×Int×List Int},lw c=some k->k∈c:=by
 intro c;cases c with
 |nil=>intro k h;cases h
 |cons a r=>
   intro k h
   have d:∀(r:List (Int×Int×List Int)) (a:Int×Int×List Int),r.foldl (λb x=>if dO x b=true then x else b) a∈a::r:=by
    intro r
    induction r with
    |nil=>intro a;simp
    |cons x r e=>
      intro a;rw[ZY]
      have:=e (if dO x a=true then x else a)
      rcases Xv.mp this with z|z
      · rw[z];split
        ·simp
        ·simp
      ·exact no _ (no _ z)
   injection h with h
   rw[<-h];exact d r a
def nR(L Q:DI Int)(sh:Int->Bool)(h:Int)(p:List (Option (List Int))):Option (List Int):=(lw ((gC sh h p).map (bR L Q))).map (·.2.2)
theorem wE{L Q:DI Int}{sh:Int->Bool}{h:Int}{p:List (Option (List Int))}{b:List Int}(e:nR L Q sh h p=some b):lw ((gC sh h p).map (bR L Q))=some (bR L Q b)/\b∈gC sh h p:=by
 unfold nR at e;obtain⟨k,a,rfl⟩:=Option.map_eq_some_iff.mp e;obtain⟨r,c,rfl⟩:=List.mem_map.mp (Iz a);exact⟨a,c⟩
theorem gP{sh:Int->Bool}{h:Int}{p:List (Option (List Int))}{o:Option (List Int)}:gC sh h (p++[o])=gC sh h p++(match gR sh h o with|none=>[]|some r=>[r]):=by
 unfold gC;rw[List.filterMap_append];cases q:gR sh h o<;>simp[q]
theorem oi{sh:Int->Bool}{h:Int}{p:List (Option (List Int))}{b:List Int}(c:b∈gC sh h p):∃r,some r∈p/\b=h::r/\lY sh h r=true:=by
 obtain⟨o,a,e⟩:=Y9.mp c;cases o with
 |none=>cases e
 |some r=>
   unfold gR at e;dsimp only at e;by_cases q:lY sh h r=true
   ·rw[Xl q]at e;cases e;exact⟨r,a,rfl,q⟩
   ·rw[Xj q]at e;cases e
def gS(X:P1)(h b:Int):Bool:=decide ((h,b)∈X)
theorem Nk{X:Type}{p:X->Bool}(l:List X):decide (0<((l.filter p).length:Int))=l.any p:=by
 by_cases h:l.any p=true
 · rw[h];obtain⟨x,a,hp⟩:=List.any_eq_true.mp h
   have:0<(l.filter p).length:=List.length_pos_of_mem (YV.mpr ⟨a,hp⟩)
   exact X8 (by omega)
 · have h':l.any p=false:=by simpa using h
   rw[h']
   have:l.filter p=[]:=List.filter_eq_nil_iff.mpr λx a hp=>h (List.any_eq_true.mpr ⟨x,a,hp⟩)
   rw[this];rfl
theorem BZ(L Q:DI Int)(X:P1)(h:Int)(told:List (Option (List Int)))(D:∀r,some r∈told->r≠[]/\r.length<1000):(Lh L Q X h told).res=.ok (cW L Q (gS X h) h told):=by
 unfold Lh KD cW;by_cases h0:h=0
 ·simp[vU,o9,h0,am]
 · obtain⟨s',e,w,f,rfl⟩:=bN (u:=λa s=>{s with vuq:=some a}) (c:=nG) (λp (s:S_t9)=>∃w f,s=⟨L,Q,X,h,told,some (nR L Q (gS X h) h p),w,f⟩)
    told ⟨L,Q,X,h,told,some none,none,none⟩ ⟨none,none,rfl⟩ (by
     rintro p o r s E ⟨w,f,rfl⟩;cases o with
     |none=>
       refine⟨_,.inr ?_,some none,f,rfl⟩
       have:nR L Q (gS X h) h (p++[none])=nR L Q (gS X h) h p:=by unfold nR;rw[gP];simp[gR]
       rw[this];simp[nG,fT]
     |some r=>
       obtain⟨ne,K⟩:=D r (by rw[E];simp);have lz:r.length<am:=by unfold am;omega
       by_cases j:h∈r
       · refine⟨_,.inr ?_,some (some r),f,rfl⟩
         have:nR L Q (gS X h) h (p++[some r])=nR L Q (gS X h) h p:=by unfold nR;rw[gP];simp[gR,lY,j]
         rw[this];simp[nG,fT,j]
       · have z:∀s:S_t9,s=⟨L,Q,X,h,told,some (nR L Q (gS X h) h p),some (some r),f⟩->cq (ba fg (vC (·.vuq))) (aY (EX false) (iW (pC λp=>p.2.vfq) (pC λp=>p.1)) (pC λp=>p.2.vBq)) (pC λp=>p.1) s=.ok (r.filter (gS X h)):=by
          rintro s rfl;rw[lp (l:=r) (gS X h) (λx=>x) (by simp) lz (λb _=>by simp[gS]) (λb _ _=>by simp)];simp
         have A:=Nk (p:=gS X h) r;have F:fT ⟨L,Q,X,h,told,some (nR L Q (gS X h) h p),some (some r),f⟩=.nx ⟨L,Q,X,h,told,some (nR L Q (gS X h) h p),some (some r),f⟩:=by simp[fT,j]
         have v:ja ⟨L,Q,X,h,told,some (nR L Q (gS X h) h p),some (some r),f⟩=if r.any (gS X h)=true then .ct ⟨L,Q,X,h,told,some (nR L Q (gS X h) h p),some (some r),f⟩ else .nx ⟨L,Q,X,h,told,some (nR L Q (gS X h) h p),some (some r),f⟩:=by
          simp only[ja,gt,aW,aY,ba];rw[z _ rfl];simp only[Res.bind,ez,kC,Ft,Nc,A,M9,bB]
         cases d:r.any (gS X h) with
         |true=>
           rw[d,Xl rfl]at v;refine⟨_,.inr ?_,some (some r),f,rfl⟩
           have:nR L Q (gS X h) h (p++[some r])=nR L Q (gS X h) h p:=by unfold nR;rw[gP];simp[gR,lY,j,d]
           rw[this];show au fT (au ja _) _=_;simp only[au,F,v]
         |false=>
           rw[d,if_neg Bool.false_ne_true]at v;have ct:=kP (l:=[h]) (m:=r) (by simp only[List.length_cons,List.length_nil];unfold am;omega)
           have J:lj ⟨L,Q,X,h,told,some (nR L Q (gS X h) h p),some (some r),f⟩=.nx ⟨L,Q,X,h,told,some (nR L Q (gS X h) h p),some (some r),some (h::r)⟩:=by
            simp only[lj,bv,aW,aY,jV,cD,dC,pC,ba,vC,fg,Res.bind,Xp,List.length_nil];rw[Xl (by decide)];simp only[Res.bind,ct];rfl
           have C:gR (gS X h) h (some r)=some (h::r):=by simp[gR,lY,j,d]
           have two:2<=(h::r).length:=by
            cases r with
            |nil=>exact absurd rfl ne
            |cons q t=>simp
           have H:=FS L Q (h::r) two;refine⟨⟨L,Q,X,h,told,some (nR L Q (gS X h) h (p++[some r])),some (some r),some (h::r)⟩,.inl ?_,_,_,rfl⟩;show au fT (au ja (au lj li)) _=_;simp only[au,F,v,J];cases n:nR L Q (gS X h) h p with
           |none=>
             have B:nR L Q (gS X h) h (p++[some r])=some (h::r):=by
              unfold nR at n ⊢;rw[gP,C,List.map_append];show(lw (((gC (gS X h) h p).map (bR L Q))++[bR L Q (h::r)])).map _=_;rw[tZ];cases q:lw ((gC (gS X h) h p).map (bR L Q)) with
              |none=>rfl
              |some k=>rw[q]at n;cases n
             rw[B];simp[li,iM]
           |some b=>
             obtain⟨k1,k2⟩:=wE n;obtain⟨g,y,rfl,_⟩:=oi k2
             have i:2<=(h::g).length:=by
              have:=(D g (by rw[E];exact XA _ y)).1
              cases g with
              |nil=>exact absurd rfl this
              |cons q t=>simp
             have G:=FS L Q (h::g) i
             have B:nR L Q (gS X h) h (p++[some r])=some (if dO (bR L Q (h::r)) (bR L Q (h::g))=true then h::r else h::g):=by
              unfold nR;rw[gP,C,List.map_append];show(lw (((gC (gS X h) h p).map (bR L Q))++[bR L Q (h::r)])).map _=_;rw[tZ,k1];show some (if dO (bR L Q (h::r)) (bR L Q (h::g))=true then bR L Q (h::r) else bR L Q (h::g)).2.2=_;split<;>rfl
             rw[B]
             cases q:dO (bR L Q (h::r)) (bR L Q (h::g))<;>simp[li,iM,H,G,q])
   rw[Xj h0];have I:jX (λa s=>{s with vuq:=some a}) nG told ⟨L,Q,X,h,told,some none,none,none⟩=_:=e;simp[vU,Dp,Do,Dm,h0,I,nR]
def aS(sz:Int)(P:DI Bool)(a:Int):List Int:=(bK 0 sz).filter λb=>(P.get [a,b]).isSome
theorem Em(g:GΩ)(P:DI Bool)(a:Int)(h0:0<=g.hω)(c:g.hω<=1000):(NG g P a).res=.ok (aS g.hω P a):=by
 have e:∀s:S_b9,s=⟨g,P,a⟩->cq (ba (dy 0) (ba (λg=>.ok g.hω) (pC (·.vAq)))) (aY (Be false) (ba io (iW (pC λp=>p.2.v0q) (pC λp=>p.1))) (pC λp=>p.2.vqq)) (pC λp=>p.1) s=.ok (aS g.hω P a):=by
  rintro s rfl;rw[lp (l:=bK 0 g.hω) (λb=>(P.get [a,b]).isSome) (λx=>x) (by simp[cg (lo:=0) (hi:=g.hω) (by omega) (by omega) (by omega) (by omega)]) (by rw[bc];unfold am;omega) (λb _=>by simp) (λb _ _=>by simp)];simp[aS]
 unfold NG K3 DU;simp only[bw,aW];rw[e _ rfl];rfl
theorem lF(g:GΩ)(a:Int)(b:0<=a/\a<g.hω)(c:g.hω<=1000):(Ll g a).res=.ok (aS g.hω g.U a):=by
 have e:=qf g [a] (in1 b) (by omega);have d:=Em g g.U a (by omega) c;unfold Ll KZ;simp[DL,DK,e,d,am]
theorem sY(told:List (Option (List Int)))(n:Int)(h0:0<n)(b:∀r,some r∈told->PathOk n r):(D8 told n).res=.ok ():=by
 obtain⟨s',e,x,rfl⟩:=g6 (u:=λa s=>{s with vuq:=some a}) (c:=jA) (λs:S_br9=>∃x,s=⟨told,n,x⟩) told ⟨told,n,none⟩ ⟨none,rfl⟩ (by
  rintro o s d ⟨x,rfl⟩;cases o with
  |none=>exact⟨_,.inl (by simp[jA];rfl),_,rfl⟩
  |some r=>
    have:=tP r n (b r d).all h0
    exact⟨_,.inl (by simp[jA,kM,this];rfl),_,rfl⟩)
 unfold D8 Bp yE;simp[e]
def cU(T:List (Option (List Int)))(h:Int):Option (List Int):=T.getD h.toNat none
def bY(T:List (Option (List Int)))(bs:List Int):List (Option (List Int)):=bs.map (cU T)
theorem K9{T:List (Option (List Int))}{b:Int}(h0:0<=b)(a:b<T.length):nJ T b=some (cU T b):=by
 rw[kS T h0,List.getElem?_eq_getElem (by omega)];unfold cU;rw[List.getD_eq_getElem?_getD,List.getElem?_eq_getElem (by omega)];rfl
theorem uj{T:List (Option (List Int))}{b:Int}{r:List Int}(h:cU T b=some r):some r∈T:=by
 unfold cU at h;rw[List.getD_eq_getElem?_getD]at h;cases q:T[b.toNat]? with
 |none=>rw[q]at h;cases h
 |some o=>rw[q]at h;have h:o=some r:=h;subst h;exact Yv q
theorem ji{T:List (Option (List Int))}{bs:List Int}{r:List Int}(h:some r∈bY T bs):some r∈T:=by
 obtain⟨b,_,e⟩:=X5.mp h;exact uj e
structure TableOk (sz:Int) (T:List (Option (List Int))):Prop where
 len:(T.length:Int)=sz
 all:∀r,some r∈T->PathOk sz r
def i8(b:Int->List (Option (List Int))->Option (List Int))(a:Int->List Int)(T:List (Option (List Int))):Option Int:=(bK 0 T.length).find? λh=>decide (b h (bY T (a h))≠cU T h)
theorem qH{sz:Int}{P:DI Bool}{a b:Int}(h:b∈aS sz P a):0<=b/\b<sz:=cp.mp (YV.mp h).1
theorem qM{sz:Int}{P:DI Bool}{a:Int}(c:sz<=1000):(aS sz P a).length<am:=by
 have:=Yg (λb=>(P.get [a,b]).isSome) (bK 0 sz)
 rw[bc]at this;unfold am;unfold aS;omega
theorem tK{Z:Type}{src:Z->Res (List Int)}{tab:Z->List (Option (List Int))}{s:Z}{bs:List Int}(d:src s=.ok bs)(c:∀b∈bs,0<=b/\b<(tab s).length)(e:bs.length<am):
 cq src (λ_=>.ok true) (aY iR (pC λp=>tab p.2) (pC λp=>p.1)) s=.ok (bY (tab s) bs):=
 fy (l:=bs) (cU (tab s)) d e λb a=>by simp[K9 (c b a).1 (c b a).2]
theorem uR(g:GΩ)(T:List (Option (List Int)))(k:TableOk g.hω T)(h0:0<g.hω)(j:g.hω<=1000):
 (Li g T).res=.ok (i8 (λh=>cW g.lω g.wω (sT g h) h) (aS g.hω g.U) T):=by
 have B:=sY T g.hω h0 k.all;have l:=pO g;have d:=k.len
 obtain⟨s',A,z⟩:=oq (u:=λa s=>{s with vfq:=some a}) (c:=DV) (λs:S_q9=>∃x y,s=⟨g,T,x,y⟩) (λh=>decide (cW g.lω g.wω (sT g h) h (bY T (aS g.hω g.U h))≠cU T h)) (λh=>some h) (bK 0 T.length) ⟨g,T,none,none⟩ ⟨none,none,rfl⟩ (by
  rintro h s v ⟨x,y,rfl⟩;have i:=cp.mp v;have C:=lF g h (by omega) j
  have o:jc ⟨g,T,some h,y⟩=.nx ⟨g,T,some h,some (bY T (aS g.hω g.U h))⟩:=by
   unfold jc bv aW;rw[tK (bs:=aS g.hω g.U h) (tab:=λp:S_q9=>p.vFq) (by simp[C]) (λb w=>by have:=qH w;show 0<=b/\b<(T.length:Int);omega) (qM j)];rfl
  have m:=Es g h (bY T (aS g.hω g.U h)) (by omega) j (λr t=>k.all r (ji t)) (by unfold bY;rw[List.length_map];exact qM j);have n:=K9 (T:=T) (b:=h) i.1 i.2;refine⟨⟨g,T,some h,some (bY T (aS g.hω g.U h))⟩,λhp=>?_,λhp=>⟨.inl ?_,_,_,rfl⟩⟩
  · have hp:cW g.lω g.wω (sT g h) h (bY T (aS g.hω g.U h))≠cU T h:=by simpa using hp
    show au jc jb ⟨g,T,some h,y⟩=_;simp only[au,o];simp[jb,iN,m,n,hp]
  · have hp:cW g.lω g.wω (sT g h) h (bY T (aS g.hω g.U h))=cU T h:=by simpa using hp
    show au jc jb ⟨g,T,some h,y⟩=_;simp only[au,o]
    simp[jb,iN,m,n,hp])
 have D:v8 ⟨g,T,none,none⟩=.nx ⟨g,T,none,none⟩:=by simp[v8,l,B]
 have rc:=cg (lo:=0) (hi:=g.hω) (by omega) (by omega) (by omega) (by omega);rw[<-d]at rc;have f:dy 0 g.hω=.ok (bK 0 T.length):=by rw[<-d];exact rc
 unfold Li KG i8;simp only[au,D];cases q:(bK 0 T.length).find? (λh=>decide (cW g.lω g.wω (sT g h) h (bY T (aS g.hω g.U h))≠cU T h)) with
 |some h=>
   have e:=A h q;simp[v7,l,f,e]
 |none=>
   obtain⟨e,x,y,rfl⟩:=z q;simp[v7,Dt,l,f,e]
theorem kn{W:P1}{sz a b:Int}(h:b∈bb W sz a):0<=b/\b<sz:=cp.mp (YV.mp h).1
theorem xU{W:P1}{sz a:Int}(c:sz<=1000):(bb W sz a).length<am:=by
 have:=Yg (λb=>decide ((min a b,max a b)∈W)) (bK 0 sz)
 rw[bc]at this;unfold am;unfold bb;omega
theorem qx{sz:Int}{r:List Int}(h:PathOk sz r)(a:sz<=900):r≠[]/\r.length<1000:=⟨h.ne,by have:=h.len;omega⟩
theorem NW{sz:Int}(h:0<sz):PathOk sz [0]:=⟨by simp,rfl,by simp,λx a=>by rw[Xz.mp a];omega⟩
theorem Fo{L Q:DI Int}{sh:Int->Bool}{h sz:Int}{told:List (Option (List Int))}{r:List Int}(g:0<=h/\h<sz)(b:∀r,some r∈told->PathOk sz r)(e:cW L Q sh h told=some r):PathOk sz r:=by
 unfold cW at e;by_cases h0:h=0
 ·rw[Xl h0]at e;cases e;exact NW (by omega)
 · rw[Xj h0]at e;obtain⟨_,f⟩:=wE e;obtain⟨q,c,rfl,a⟩:=oi f
   have d:h∉q:=by
    unfold lY at a;simp at a;exact a.1
   exact((b q c).road g d).path
theorem FO(x:Int):(Ea x).res=.ok true:=by
 unfold Ea Bs yH;simp
theorem EB{W:P1}{sz:Int}(c:WaysOk sz W)(a b:Int):((a,b)∈W\/(b,a)∈W)↔(min a b,max a b)∈W:=by
 constructor
 · rintro(z|z)
   · have:=(c.all _ z).2.1
     rw[show min a b=a by simp only at this;omega,show max a b=b by simp only at this;omega];exact z
   · have:=(c.all _ z).2.1
     rw[show min a b=b by simp only at this;omega,show max a b=a by simp only at this;omega];exact z
 · intro z;by_cases q:a<=b
   ·rw[show min a b=a by omega,show max a b=b by omega]at z;exact .inl z
   ·rw[show min a b=b by omega,show max a b=a by omega]at z;exact .inr z
theorem gj{g:GΩ}{sz:Int}{W:P1}{L Q:DI Int}{X:P1}(G:GuildIs g sz W L Q X)(c:WaysOk sz W):aS sz g.U=bb W sz:=by
 funext a;unfold aS bb;refine List.filter_congr λb _=>?_;rw[Bool.eq_iff_iff,G.way,EB c,decide_eq_true_iff]
theorem BK{g:GΩ}{sz:Int}{W:P1}{L Q:DI Int}{X:P1}(G:GuildIs g sz W L Q X)(h:Int):cW g.lω g.wω (sT g h) h=cW L Q (gS X h) h:=by
 have c:bR g.lω g.wω=bR L Q:=funext λr=>xY G.lik G.wsh r
 have a:sT g h=gS X h:=funext λb=>by
  unfold sT gS;rw[Bool.eq_iff_iff,G.shn,decide_eq_true_iff]
 unfold cW;rw[c,a]
def gg(n:Int)(W:DI Bool):Nat->List (List (Option Int))
 |0=>[[none]]
 |k+1=>(gg n W k).flatMap λa=>(none::(aS n W (k+1)).map some).map λe=>a++[e]
def pQ(nh:List (Option Int)):Nat->List Int->Int->Option (List Int)
 |0,_,_=>none
 | k+1,g,x=>if x=0 then some g else match nh.getD x.toNat none with
   |none=>none
   |some y=>if y∈g then none else pQ nh k (g++[y]) y
def bO(nh:List (Option Int)):List (Option (List Int)):=(bK 0 nh.length).map λh=>pQ nh nh.length [h] h
def jp(o:Option (List Int)):Option Int:=match o with
 |some (_::y::_)=>some y
 |_=>none
theorem nk{X W:Type}(f:X->List W)(n:Nat):∀l:List X,(∀a∈l,(f a).length<=n)->(l.flatMap f).length<=l.length*n
 |[],_=>by simp
 | a::l,h=>by
   rw[List.flatMap_cons,Xo,Xp,Nat.add_mul,Nat.one_mul]
   have:=nk f n l λb c=>h b (no _ c)
   have:=h a Xk
   omega
theorem LS(rows:List (List (Option Int)))(ends:List (Option Int))(t:rows.length*ends.length<=5000)(q:ends.length<=10)(j:∀r∈rows,r.length<=10):(D6 rows ends).res=.ok (rows.flatMap λb=>ends.map λe=>b++[e]):=by
 obtain⟨s',e,x,rfl⟩:=bN (u:=λa s=>{s with vvq:=some a}) (c:=l6) (λp (s:S_bv9)=>∃x,s=⟨rows,ends,some (p.flatMap λb=>ends.map λe=>b++[e]),x⟩) rows ⟨rows,ends,some [],none⟩ ⟨none,rfl⟩ (by
  rintro p b r s f ⟨x,rfl⟩;have k:b.length<=10:=j b (by rw[f];simp)
  have i:cq (pC (·.v9q)) (λ_=>.ok true) (aY h8 (vC λp=>p.2.vvq) (jV (cD (pC λp=>p.1) (dC:_->Res (List (Option Int)))))) (⟨rows,ends,some (p.flatMap λb=>ends.map λe=>b++[e]),some b⟩:S_bv9)=.ok (ends.map λe=>b++[e]):=
   fy (src:=pC λp:S_bv9=>p.v9q) (te:=aY h8 (vC λp:Option Int×S_bv9=>p.2.vvq) (jV (cD (pC λp=>p.1) (dC:_->Res (List (Option Int)))))) (l:=ends) (λe=>b++[e]) (by simp) (by unfold am;omega) (λo _=>by
    have d:=kP (l:=b) (m:=[o]) (by simp only[List.length_singleton];unfold am;omega)
    simp[am,d,-h8])
  have hp:p.length+1<=rows.length:=by rw[f];simp
  have n:=nk (λb:List (Option Int)=>ends.map λe=>b++[e]) ends.length p λa _=>by simp
  have h:(p.length+1)*ends.length<=rows.length*ends.length:=Nat.mul_le_mul_right _ hp;rw[Nat.add_mul,Nat.one_mul]at h
  have g:JS (p.flatMap λb=>ends.map λe=>b++[e]) (ends.map λe=>b++[e])=some ((),(p.flatMap λb=>ends.map λe=>b++[e])++ends.map λe=>b++[e]):=by
   unfold JS;rw[if_pos (by rw[List.length_map];unfold am;omega)]
  refine⟨⟨rows,ends,some ((p++[b]).flatMap λb=>ends.map λe=>b++[e]),some b⟩,.inl ?_,some b,rfl⟩;rw[List.flatMap_append,List.flatMap_singleton];unfold l6;simp only[cH,CU,i]
  simp[g])
 unfold D6 Bk yy yx yw;simp[am,e]
theorem j8(n:Int)(W:DI Bool)(l:n<=5):∀k:Nat,(gg n W k).length<=6 ^ k/\∀r∈gg n W k,r.length=k+1/\∀y,some y∈r->0<=y/\y<n
 | 0=>⟨by simp[gg],λr f=>by
   rw[Xz.mp f]
   exact⟨rfl,λy g=>by simp at g⟩⟩
 | k+1=>by
   obtain⟨s,q⟩:=j8 n W l k
   have hp:(aS n W ((k:Int)+1)).length<=5:=by
    unfold aS
    have:=Yg (λb=>(W.get [(k:Int)+1,b]).isSome) (bK 0 n)
    rw[bc]at this;omega
   constructor
   · have:=nk (λc:List (Option Int)=>(none::(aS n W ((k:Int)+1)).map some).map λe=>c++[e]) 6 (gg n W k) λa _=>by simp;omega
     have m:=Nat.mul_le_mul_right 6 s;rw[Nat.pow_succ];exact XY this m
   · intro r f;obtain⟨c,d,f⟩:=ZN.mp f;obtain⟨o,j,rfl⟩:=X5.mp f;obtain⟨i,h⟩:=q c d;refine⟨by rw[Xo,i];rfl,λy g=>?_⟩;rcases XE.mp g with z|z
     ·exact h y z
     · have z:=Xz.mp z;subst z;rcases Xv.mp j with z|z
       ·cases z
       ·obtain⟨b,p,e⟩:=X5.mp z;cases e;exact qH p
theorem LK(g:GΩ)(h0:1<=g.hω)(t:g.hω<=5):(D7 g).res=.ok (gg g.hω g.U (g.hω-1).toNat):=by
 have v:=pO g
 obtain⟨s',e,x,rfl⟩:=bN (u:=λa s=>{s with vfq:=some a}) (c:=l7) (λp (s:S_bu9)=>∃x,s=⟨g,some (gg g.hω g.U p.length),x⟩) (bK 1 g.hω) ⟨g,some [[none]],none⟩ ⟨none,rfl⟩ (by
  rintro p k r s q ⟨x,rfl⟩;obtain⟨C,k0,k1⟩:=mV q;have y:=lF g k (by omega) (by omega);obtain⟨B,l2⟩:=j8 g.hω g.U t p.length;have o:p.length<=3:=by omega
  have A:(6:Nat) ^ p.length<=6 ^ 3:=Y1 (by decide) o
  have hp:(aS g.hω g.U k).length<=5:=by
   unfold aS
   have:=Yg (λb=>(g.U.get [k,b]).isSome) (bK 0 g.hω)
   rw[bc]at this;omega
  have f:=kP (l:=[(none:Option Int)]) (m:=(aS g.hω g.U k).map some) (by simp only[List.length_singleton,List.length_map];unfold am;omega)
  have z:=LS (gg g.hω g.U p.length) (none::(aS g.hω g.U k).map some) (by
   have:(gg g.hω g.U p.length).length*(none::(aS g.hω g.U k).map some).length<=216*6:=Nat.mul_le_mul (by omega) (by simp;omega)
   omega) (by simp;omega) (λr j=>by have:=(l2 r j).1;omega)
  have i:k=(p.length:Int)+1:=by omega
  refine⟨⟨g,some (gg g.hω g.U (p++[k]).length),some k⟩,.inl ?_,some k,rfl⟩
  have w:gg g.hω g.U (p++[k]).length=(gg g.hω g.U p.length).flatMap λh=>(none::(aS g.hω g.U k).map some).map λe=>h++[e]:=by
   rw[Xo,Ye,i];rfl
  rw[w];have d:h8 [(none:Option Int)] ((aS g.hω g.U k).map some)=.ok (none::(aS g.hω g.U k).map some):=f
  simp[l7,y,am,d,z,-h8])
 have n:=bc 1 g.hω;rw[n]at e;unfold D7 Bl yB yA yz;simp[am,v,cg (lo:=1) (hi:=g.hω) (by omega) (by omega) (by omega) (by omega),e]
abbrev tR:S_bt9->OutC S_bt9 Bool:=aW (aY (nQ true) (aY iR (vC (·.vuq)) (ba og (kC (1:Int)))) (kC (0:Int)))
theorem k6(g:List Int)(x:Int):nJ (g++[x]) (-1)=some x:=L2.sI g x
theorem OV{nh:List (Option Int)}{x:Int}(h0:0<=x)(a:x<nh.length):nJ nh x=some (nh.getD x.toNat none):=by
 rw[kS nh h0,Xx,Xy (by omega)];rfl
theorem HP{nh:List (Option Int)}{x y:Int}(h:nh.getD x.toNat none=some y):some y∈nh:=by
 rw[Xx]at h;cases q:nh[x.toNat]? with
 |none=>rw[q]at h;cases h
 |some o=>rw[q]at h;have h:o=some y:=h;subst h;exact Yv q
theorem CS{n x b:Int}{g:List Int}(nd:(g++[x]).Nodup)(e:∀y∈g++[x],0<=y/\y<n)(c:b∉g++[x])(h0:0<=b)(d:b<n):(g++[x]++[b]).Nodup/\∀y∈g++[x]++[b],0<=y/\y<n:=
 ⟨jq nd c,λy a=>by
  rcases XE.mp a with z|z
  ·exact e y z
  ·rw[Xz.mp z];exact⟨h0,d⟩⟩
theorem Mb{n:Int}{nh:List (Option Int)}(B:(nh.length:Int)=n)(a:∀y,some y∈nh->0<=y/\y<n)(I:n<=1000)(h:Int):∀(k:Nat) (g:List Int) (x:Int) (o:Option (Option Int)) (F:Nat),(g++[x]).Nodup->(∀y∈g++[x],0<=y/\y<n)->n.toNat+1<=k+(g++[x]).length->k<F->
 (∃s',au (sW tR fA F) nA ⟨nh,h,some (g++[x]),o⟩=.rt (pQ nh k (g++[x]) x) s')/\∀r,pQ nh k (g++[x]) x=some r->PathOk n r:=by
 intro k
 induction k with
 |zero=>
   intro g x o F nd d C hF
   have:=dN n.toNat _ nd λy m=>by have:=d y m;omega
   omega
 |succ k w=>
   intro g x o F nd d C hF;obtain⟨F,rfl⟩:∃H,F=H+1:=⟨F-1,by omega⟩;have p:=d x (by simp);have v:=dN n.toNat _ nd λy m=>by have:=d y m;omega
   unfold pQ;by_cases q:x=0
   · subst q;rw[Xl rfl]
     have e:sW tR fA (F+1) ⟨nh,h,some (g++[0]),o⟩=.nx ⟨nh,h,some (g++[0]),o⟩:=by
      unfold sW;simp[tR,k6]
     refine⟨⟨⟨nh,h,none,o⟩,by simp[e,nA]⟩,λr a=>?_⟩;cases a;exact⟨by simp,List.getLast?_concat ..,nd,d⟩
   · have s:tR ⟨nh,h,some (g++[x]),o⟩=.ok true ⟨nh,h,some (g++[x]),o⟩:=by simp[tR,k6,q]
     have t:l8 ⟨nh,h,some (g++[x]),o⟩=.nx ⟨nh,h,some (g++[x]),some (nh.getD x.toNat none)⟩:=by
      simp[l8,k6,OV (nh:=nh) p.1 (by omega)]
     rw[Xj q];cases j:nh.getD x.toNat none with
     |none=>
       refine⟨⟨⟨nh,h,some (g++[x]),some none⟩,?_⟩,λr a=>(nomatch a)⟩
       have i:fA ⟨nh,h,some (g++[x]),o⟩=.rt none ⟨nh,h,some (g++[x]),some none⟩:=by
        unfold fA au;rw[t,j];simp[jz,g7]
       unfold au sW;rw[s];dsimp only;rw[i]
     |some b=>
       obtain⟨G,E⟩:=a b (HP j);dsimp only;by_cases f:b∈g++[x]
       · rw[Xl f];refine⟨⟨⟨nh,h,some (g++[x]),some (some b)⟩,?_⟩,λr a=>(nomatch a)⟩
         have i:fA ⟨nh,h,some (g++[x]),o⟩=.rt none ⟨nh,h,some (g++[x]),some (some b)⟩:=by
          unfold fA au;rw[t,j];have c:b∈g\/b=x:=by simpa using f
          simp[jz,g7,c]
         unfold au sW;rw[s];dsimp only;rw[i]
       · rw[if_neg f];obtain⟨l,u⟩:=CS nd d f G E;obtain⟨⟨s',D⟩,hp⟩:=w (g++[x]) b (some (some b)) F l u (by rw[List.length_append (as:=g++[x]),List.length_singleton];omega) (by omega);refine⟨⟨s',?_⟩,hp⟩;have A:jf (g++[x]) b=some ((),g++[x]++[b]):=ia (by unfold am;omega);have c:¬ (b∈g\/b=x):=λz=>f (by rcases z with z|z;exact List.mem_append_left _ z;simp[z])
         have i:fA ⟨nh,h,some (g++[x]),o⟩=.nx ⟨nh,h,some (g++[x]++[b]),some (some b)⟩:=by
          unfold fA au;rw[t,j];simp[jz,rB,c,A,-List.append_assoc]
         rw[<-D];unfold au;rw[sW,s];dsimp only;rw[i]
theorem tQ{n h:Int}{nh:List (Option Int)}(g:(nh.length:Int)=n)(d:∀y,some y∈nh->0<=y/\y<n)(f:n<=1000)(h0:0<=h)(k:h<n):(uG nh h).res=.ok (pQ nh nh.length [h] h)/\∀r,pQ nh nh.length [h] h=some r->PathOk n r:=by
 have l:n.toNat=nh.length:=by omega
 obtain⟨⟨s',e⟩,hp⟩:=Mb g d f h nh.length [] h none 100000 (by simp) (λy c=>by simp at c;omega) (by simp;omega) (by omega);refine⟨?_,hp⟩;have j:rD ⟨nh,h,none,none⟩=.nx ⟨nh,h,some [h],none⟩:=by simp[rD,am]
 have i:au yC nA ⟨nh,h,some [h],none⟩=_:=e;have gM:∀{a b:S_bt9->FlC S_bt9 (Option (List Int))} {s s':S_bt9},a s=.nx s'->au a b s=b s':=λh=>by unfold au;rw[h]
 unfold uG Bm;rw[gM j,i];rfl
theorem jj{n:Int}{nh:List (Option Int)}(d:(nh.length:Int)=n)(b:∀y,some y∈nh->0<=y/\y<n)(c:n<=1000):(D5 nh).res=.ok (bO nh)/\TableOk n (bO nh):=by
 constructor
 · have g:cq (ba (dy 0) (ba ez (pC (·.vnq)))) (λ_=>.ok true) (cJ uG (pC λp=>p.2.vnq) (pC λp=>p.1)) (⟨nh⟩:S_by9)=.ok (bO nh):=
    fy (src:=ba (dy 0) (ba ez (pC λp:S_by9=>p.vnq))) (te:=cJ uG (pC λp:Int×S_by9=>p.2.vnq) (pC λp=>p.1)) (l:=bK 0 nh.length) (λh=>pQ nh nh.length [h] h) (by simp[cg (lo:=0) (hi:=(nh.length:Int)) (by omega) (by omega) (by omega) (by omega)]) (by rw[bc];unfold am;omega) (λh a=>by
     have a:=cp.mp a;have e:=(tQ d b c a.1 (by omega)).1
     simp[e])
   unfold D5 Bi
   first | unfold yr | skip
   simp only[bw,aW];rw[g];rfl
 ·refine⟨by unfold bO;rw[List.length_map,bc];omega,λr f=>?_⟩;obtain⟨h,a,e⟩:=List.mem_map.mp f;have a:=cp.mp a;exact(tQ d b c a.1 (by omega)).2 r e
theorem En(T:List (Option (List Int)))(c:T.length<am):(D9 T).res=.ok (T.map jp):=by
 have d:cq (pC (·.vFq)) (λ_=>.ok true) (xZ (xw (ba (i6 false iZ) (pC λp=>p.1)) (aY MI (ba ez (ba fg (pC λp=>p.1))) (kC (2:Int)))) (ba (nc:Unit->Res (Option Int)) (kC ())) (ba ig (aY iR (ba fg (pC λp=>p.1)) (kC (1:Int))))) (⟨T⟩:S_bq9)=.ok (T.map jp):=
  fy (src:=pC λp:S_bq9=>p.vFq) (te:=xZ (xw (ba (i6 false iZ) (pC λp:Option (List Int)×S_bq9=>p.1)) (aY MI (ba ez (ba fg (pC λp=>p.1))) (kC (2:Int)))) (ba (nc:Unit->Res (Option Int)) (kC ())) (ba ig (aY iR (ba fg (pC λp=>p.1)) (kC (1:Int))))) (l:=T) jp (by simp) c (λo _=>by
   match o with
   |none=>simp[jp]
   |some []=>simp[jp]
   |some [a]=>simp[jp]
   |some (a::b::t)=>
     have q:¬ ((t.length:Int)+1+1<2):=by omega
     simp[jp,S3,q])
 unfold D9 Bq
 first | unfold yF | skip
 simp only[bw,aW];rw[d];rfl
abbrev tL:S_x9->OutC S_x9 Bool:=aW (aY (nQ true) (aY iR (vC (·.vuq)) (ba og (kC (1:Int)))) (kC (0:Int)))
theorem MX{n:Int}{nh:List (Option Int)}(B:(nh.length:Int)=n)(a:∀y,some y∈nh->0<=y/\y<n)(I:n<=1000)(h:Int):∀(k:Nat) (g:List Int) (x:Int) (o:Option (Option Int)) (F:Nat),(g++[x]).Nodup->(∀y∈g++[x],0<=y/\y<n)->n.toNat+1<=k+(g++[x]).length->k<F->
 (∃s',au (sW tL gJ F) pX ⟨nh,h,some (g++[x]),o⟩=.rt (pQ nh k (g++[x]) x) s')/\∀r,pQ nh k (g++[x]) x=some r->PathOk n r:=by
 intro k
 induction k with
 |zero=>
   intro g x o F nd d C hF
   have:=dN n.toNat _ nd λy m=>by have:=d y m;omega
   omega
 |succ k w=>
   intro g x o F nd d C hF;obtain⟨F,rfl⟩:∃H,F=H+1:=⟨F-1,by omega⟩;have p:=d x (by simp);have v:=dN n.toNat _ nd λy m=>by have:=d y m;omega
   unfold pQ;by_cases q:x=0
   · subst q;rw[Xl rfl]
     have e:sW tL gJ (F+1) ⟨nh,h,some (g++[0]),o⟩=.nx ⟨nh,h,some (g++[0]),o⟩:=by
      unfold sW;simp[tL,k6]
     refine⟨⟨⟨nh,h,none,o⟩,by simp[e,pX]⟩,λr a=>?_⟩;cases a;exact⟨by simp,List.getLast?_concat ..,nd,d⟩
   · have s:tL ⟨nh,h,some (g++[x]),o⟩=.ok true ⟨nh,h,some (g++[x]),o⟩:=by simp[tL,k6,q]
     have t:oy ⟨nh,h,some (g++[x]),o⟩=.nx ⟨nh,h,some (g++[x]),some (nh.getD x.toNat none)⟩:=by
      simp[oy,k6,OV (nh:=nh) p.1 (by omega)]
     rw[Xj q];cases j:nh.getD x.toNat none with
     |none=>
       refine⟨⟨⟨nh,h,some (g++[x]),some none⟩,?_⟩,λr a=>(nomatch a)⟩
       have i:gJ ⟨nh,h,some (g++[x]),o⟩=.rt none ⟨nh,h,some (g++[x]),some none⟩:=by
        unfold gJ au;rw[t,j];simp[lh,iL]
       unfold au sW;rw[s];dsimp only;rw[i]
     |some b=>
       obtain⟨G,E⟩:=a b (HP j);dsimp only;by_cases f:b∈g++[x]
       · rw[Xl f];refine⟨⟨⟨nh,h,some (g++[x]),some (some b)⟩,?_⟩,λr a=>(nomatch a)⟩
         have i:gJ ⟨nh,h,some (g++[x]),o⟩=.rt none ⟨nh,h,some (g++[x]),some (some b)⟩:=by
          unfold gJ au;rw[t,j];have c:b∈g\/b=x:=by simpa using f
          simp[lh,iL,c]
         unfold au sW;rw[s];dsimp only;rw[i]
       · rw[if_neg f];obtain⟨l,u⟩:=CS nd d f G E;obtain⟨⟨s',D⟩,hp⟩:=w (g++[x]) b (some (some b)) F l u (by rw[List.length_append (as:=g++[x]),List.length_singleton];omega) (by omega);refine⟨⟨s',?_⟩,hp⟩;have A:jf (g++[x]) b=some ((),g++[x]++[b]):=ia (by unfold am;omega);have c:¬ (b∈g\/b=x):=λz=>f (by rcases z with z|z;exact List.mem_append_left _ z;simp[z])
         have i:gJ ⟨nh,h,some (g++[x]),o⟩=.nx ⟨nh,h,some (g++[x]++[b]),some (some b)⟩:=by
          unfold gJ au;rw[t,j];simp[lh,uv,c,A,-List.append_assoc]
         rw[<-D];unfold au;rw[sW,s];dsimp only;rw[i]
theorem Er{n h:Int}{nh:List (Option Int)}(g:(nh.length:Int)=n)(d:∀y,some y∈nh->0<=y/\y<n)(f:n<=1000)(h0:0<=h)(k:h<n):(Fs nh h).res=.ok (pQ nh nh.length [h] h)/\∀r,pQ nh nh.length [h] h=some r->PathOk n r:=by
 have l:n.toNat=nh.length:=by omega
 obtain⟨⟨s',e⟩,hp⟩:=MX g d f h nh.length [] h none 100000 (by simp) (λy c=>by simp at c;omega) (by simp;omega) (by omega);refine⟨?_,hp⟩;have j:vP ⟨nh,h,none,none⟩=.nx ⟨nh,h,some [h],none⟩:=by simp[vP,am]
 have i:au Dh pX ⟨nh,h,some [h],none⟩=_:=e;have gM:∀{a b:S_x9->FlC S_x9 (Option (List Int))} {s s':S_x9},a s=.nx s'->au a b s=b s':=λh=>by unfold au;rw[h]
 unfold Fs Ky;rw[gM j,i];rfl
def mM(g:GΩ)(T:List (Option (List Int))):Option Int:=i8 (λh=>cW g.lω g.wω (sT g h) h) (aS g.hω g.U) T
def Eu(g:GΩ):List (List (Option (List Int))):=((gg g.hω g.U (g.hω-1).toNat).filter λnh=>decide ((bO nh).map jp=nh)&&(mM g (bO nh)).isNone).map bO
theorem wV(g:GΩ)(h0:1<=g.hω)(B:g.hω<=5):(pF g).res=.ok (Eu g):=by
 obtain⟨n,f⟩:∃n,n=g.hω:=⟨_,rfl⟩;obtain⟨W,A⟩:∃W,W=g.U:=⟨_,rfl⟩;rw[<-f]at h0 B;have C:=pO g;rw[<-f]at C;have k:=LK g (by omega) (by omega);have I:(n-1).toNat<=4:=by omega
 obtain⟨F,l2⟩:=j8 n W B (n-1).toNat;have P:(6:Nat) ^ (n-1).toNat<=6 ^ 4:=Nat.pow_le_pow_right (by decide) I;rw[<-f,<-A]at k;unfold Eu;rw[<-f,<-A];generalize i:gg n W (n-1).toNat=rows at k F l2
 obtain⟨s',e,x,y,rfl⟩:=bN (u:=λa s=>{s with vnq:=some a}) (c:=nH) (λp (s:S_bw9)=>∃x y,s=⟨g,some ((p.filter λnh=>decide ((bO nh).map jp=nh)&&(mM g (bO nh)).isNone).map bO),x,y⟩)
  rows ⟨g,some [],none,none⟩ ⟨none,none,rfl⟩ (by
   rintro p nh r s t ⟨x,y,rfl⟩;have H:nh∈rows:=by rw[t];simp
   obtain⟨E,D⟩:=l2 nh H;obtain⟨J,b⟩:=jj (n:=n) (nh:=nh) (by rw[E];omega) D (by omega);have O:=b.len;have l:=En (bO nh) (by unfold am;omega);have j:(Li g (bO nh)).res=.ok (mM g (bO nh)):=uR g (bO nh) (by rw[<-f];exact b) (by omega) (by omega);have o:∀tb,l5 ⟨g,tb,some nh,y⟩=.nx ⟨g,tb,some nh,some (bO nh)⟩:=λtb=>by simp[l5,J]
   have hp:p.length+1<=rows.length:=by rw[t];simp
   have d:((p.filter λnh=>decide ((bO nh).map jp=nh)&&(mM g (bO nh)).isNone).map bO).length<am:=by
    rw[on]
    have:=Yg (λnh=>decide ((bO nh).map jp=nh)&&(mM g (bO nh)).isNone) p
    unfold am;omega
   rw[List.filter_append,XJ];generalize (p.filter λnh=>decide ((bO nh).map jp=nh)&&(mM g (bO nh)).isNone).map bO=L at d;by_cases q:(decide ((bO nh).map jp=nh)&&(mM g (bO nh)).isNone)=true
   · refine⟨⟨g,some (L++[bO nh]),some nh,none⟩,.inl ?_,some nh,none,?_⟩
     · rw[YF,decide_eq_true_iff]at q
       have h:mM g (bO nh)=none:=by
        cases z:mM g (bO nh) with
        |none=>rfl
        |some v=>rw[z]at q;cases q.2
       unfold nH au;rw[o];simp[jy,kL,l,j,q.1,h,ia d]
     ·rw[ZO (by exact q),Zp];rfl
   · refine⟨⟨g,some L,some nh,some (bO nh)⟩,.inl ?_,some nh,some (bO nh),?_⟩
     · unfold nH au;rw[o];by_cases z:(bO nh).map jp=nh
       · have h:¬ (mM g (bO nh)).isNone=true:=λw=>q (by rw[w,X8 z];rfl);cases m:mM g (bO nh) with
         |none=>rw[m]at h;exact absurd rfl h
         |some v=>
           rw[m]at j;simp[jy,l,j,z]
       ·simp[jy,l,z]
     · rw[ZP (by exact q),Zp]
       simp)
 have G:¬ 5<n:=by omega
 unfold pF wz;have N:nz ⟨g,none,none,none⟩=.nx ⟨g,none,none,none⟩:=by simp[nz,C,G]
 have M:rA ⟨g,none,none,none⟩=.nx ⟨g,some [],none,none⟩:=by simp[rA,am]
 have K:rq ⟨g,some [],none,none⟩=.nx ⟨g,some ((rows.filter λnh=>decide ((bO nh).map jp=nh)&&(mM g (bO nh)).isNone).map bO),x,y⟩:=by
  unfold rq;rw[<-e];simp[k]
 simp only[au,N,M,K];simp[yu]
theorem gM{Z W:Type}{a b:Z->FlC Z W}{s s':Z}(h:a s=.nx s'):au a b s=b s':=by unfold au;rw[h]
theorem rts{Z W:Type}{a b:Z->FlC Z W}{s s':Z}{v:W}(h:a s=.rt v s'):au a b s=.rt v s':=by unfold au;rw[h]
def gq(W:P1)(sz h:Int):List (Option Int):=none::(bb W sz h).map some
def fc(W:P1)(sz:Int):Nat->List (List (Option Int))
 |0=>[[none]]
 |k+1=>(fc W sz k).flatMap λa=>(gq W sz (k+1)).map λe=>a++[e]
theorem j9{W:P1}{sz:Int}{V:DI Bool}(h:aS sz V=bb W sz):∀k,fc W sz k=gg sz V k
 |0=>rfl
 | k+1=>by
   unfold fc gg gq;rw[j9 h k,h]
theorem FR(W:P1)(sz:Int)(V:DI Bool)(H:aS sz V=bb W sz)(h0:1<=sz)(J:sz<=5):(Ee W sz).res=.ok (fc W sz (sz-1).toNat):=by
 have rg:=cg (lo:=1) (hi:=sz) (by omega) (by omega) (by omega) (by omega)
 obtain⟨s',e,x,y,z,rfl⟩:=bN (u:=λa s=>{s with vfq:=some a}) (c:=sy) (λp (s:S_be9)=>∃x y z,s=⟨W,sz,some (fc W sz p.length),x,none,y,z⟩) (bK 1 sz) ⟨W,sz,some [[none]],none,none,none,none⟩ ⟨none,none,none,rfl⟩ (by
  rintro p k r s F ⟨x,y,z,rfl⟩;obtain⟨Z,k0,k1⟩:=mV F;have A:k=(p.length:Int)+1:=by omega
  obtain⟨n,l2⟩:=j8 sz V J p.length;rw[<-j9 H]at n l2;have Y:(6:Nat) ^ p.length<=6 ^ 3:=Y1 (by decide) (by omega);have O:=pM W sz k (by omega) (by omega)
  have U:(bb W sz k).length<=5:=by
   unfold bb
   have:=Yg (λb=>decide ((min k b,max k b)∈W)) (bK 0 sz)
   rw[bc]at this;omega
  have el:(gq W sz k).length<=6:=by unfold gq;simp;omega
  generalize I:fc W sz p.length=R at n l2
  have N:fc W sz (p++[k]).length=R.flatMap λd=>(gq W sz k).map λe=>d++[e]:=by
   rw[Xo,Ye,A,<-I];rfl
  have g:=kP (l:=[(none:Option Int)]) (m:=(bb W sz k).map some) (by simp only[List.length_singleton,List.length_map];unfold am;omega);have f:h8 [(none:Option Int)] ((bb W sz k).map some)=.ok (gq W sz k):=g;have S:mH ⟨W,sz,some R,some k,none,y,z⟩=.nx ⟨W,sz,some R,some k,some [],y,z⟩:=by simp[mH,am]
  obtain⟨s2,M,i,h,rfl⟩:=bN (u:=λa s=>{s with vvq:=some a}) (c:=jD) (λq (s:S_be9)=>∃y z,s=⟨W,sz,some R,some k,some (q.flatMap λd=>(gq W sz k).map λe=>d++[e]),y,z⟩) R ⟨W,sz,some R,some k,some [],y,z⟩ ⟨y,z,rfl⟩ (by
   rintro q d r s w ⟨y,z,rfl⟩;have v:=l2 d (by rw[w];simp);have D:q.length+1<=R.length:=by rw[w];simp
   have K:=nk (λd:List (Option Int)=>(gq W sz k).map λe=>d++[e]) 6 q λa _=>by rw[on];exact el
   generalize G:(q.flatMap λd=>(gq W sz k).map λe=>d++[e])=base at K
   obtain⟨X,L,j,rfl⟩:=bN (u:=λa s=>{s with vEq:=some a}) (c:=hZ) (λt (s:S_be9)=>∃z,s=⟨W,sz,some R,some k,some (base++t.map λe=>d++[e]),some d,z⟩) (gq W sz k) ⟨W,sz,some R,some k,some base,some d,z⟩ ⟨z,by rw[Ym,XZ]⟩ (by
    rintro t o r s C ⟨z,rfl⟩;have B:t.length+1<=(gq W sz k).length:=by rw[C];simp
    have P:=kP (l:=d) (m:=[o]) (by simp only[List.length_singleton];unfold am;omega);have T:=ia (l:=base++t.map λe=>d++[e]) (x:=d++[o]) (by rw[List.length_append,List.length_map];unfold am;omega);refine⟨⟨W,sz,some R,some k,some (base++(t++[o]).map λe=>d++[e]),some d,some o⟩,.inl ?_,some o,rfl⟩;rw[List.map_append,<-List.append_assoc]
    simp[hZ,am,P,T,-h8,-Yh])
   refine⟨⟨W,sz,some R,some k,some (base++(gq W sz k).map λe=>d++[e]),some d,j⟩,.inl ?_,some d,j,by rw[List.flatMap_append,List.flatMap_singleton,G]⟩;unfold jD
   simp[O,am,f,L,-h8])
  have Q:mF ⟨W,sz,some R,some k,some [],y,z⟩=.nx ⟨W,sz,some R,some k,some (R.flatMap λd=>(gq W sz k).map λe=>d++[e]),i,h⟩:=by
   unfold mF;simp only[cw,vC];exact M
  refine⟨⟨W,sz,some (fc W sz (p++[k]).length),some k,none,i,h⟩,.inl ?_,some k,i,h,rfl⟩;rw[N];unfold sy;rw[gM S,gM Q]
  simp[r0])
 have E:=bc 1 sz;rw[E]at e;unfold Ee Bz y9 y8 y7;simp[am,rg,e]
def lx(o:Option (List Int)):Int:=match o with
 |some (_::y::_)=>y
 |_=>-1
theorem nV(T:List (Option (List Int)))(d:∀r,some r∈T.drop 1->2<=r.length)(h:T.length<1000):(uL T).res=.ok ((T.drop 1).map lx):=by
 obtain⟨s',e,x,rfl⟩:=bN (u:=λa s=>{s with vuq:=some a}) (c:=jE) (λp (s:S_bc9)=>∃x,s=⟨T,some (p.map lx),x⟩) (T.drop 1) ⟨T,some [],none⟩ ⟨none,rfl⟩ (by
  rintro p o r s f ⟨x,rfl⟩
  have hp:p.length<1000:=by
   have:=congrArg List.length f
   rw[List.length_drop,Xo,Xp]at this;omega
  have g:∀v,jf (p.map lx) v=some ((),p.map lx++[v]):=λv=>ia (by rw[List.length_map];unfold am;omega);refine⟨⟨T,some ((p++[o]).map lx),some o⟩,.inl ?_,some o,rfl⟩;rw[List.map_append]
  match o,d with
  |none,_=>simp[jE,lx,g]
  |some [],d=>have:=d [] (by rw[f];simp);simp at this
  |some [a],d=>have:=d [a] (by rw[f];simp);simp at this
  |some (a::b::t),_=>simp[jE,lx,g,S3])
 unfold uL BC ze zd zc;simp[am,e,-List.drop_one]
def jM(W:P1)(L Q:DI Int)(Y:P1)(T:List (Option (List Int))):Option Int:=i8 (λh=>cW L Q (gS Y h) h) (bb W T.length) T
theorem j4(W:P1)(L Q:DI Int)(Y:P1)(T:List (Option (List Int)))(sz:Int)(g:TableOk sz T)(o:sz<=900):(uI W (L,Q,Y) T).res=.ok (jM W L Q Y T).isNone:=by
 have f:=g.len
 obtain⟨s',v,t⟩:=oq (u:=λa s=>{s with vfq:=some a}) (c:=zn) (λs:S_bh9=>∃x y,s=⟨W,(L,Q,Y),T,x,y⟩) (λh=>decide (cW L Q (gS Y h) h (bY T (bb W T.length h))≠cU T h)) (λ_=>false) (bK 0 T.length) ⟨W,(L,Q,Y),T,none,none⟩ ⟨none,none,rfl⟩ (by
  rintro h s m ⟨x,y,rfl⟩;have d:=cp.mp m;have w:=pM W T.length h (by omega) (by omega)
  have k:hE ⟨W,(L,Q,Y),T,some h,y⟩=.nx ⟨W,(L,Q,Y),T,some h,some (bY T (bb W T.length h))⟩:=by
   unfold hE bv aW;rw[tK (bs:=bb W T.length h) (tab:=λp:S_bh9=>p.vFq) (by simp[w]) (λb n=>kn n) (xU (by omega))];rfl
  have i:=BZ L Q Y h (bY T (bb W T.length h)) (λr l=>qx (g.all r (ji l)) o);have j:=K9 (T:=T) (b:=h) d.1 d.2;refine⟨⟨W,(L,Q,Y),T,some h,some (bY T (bb W T.length h))⟩,λhp=>?_,λhp=>⟨.inl ?_,_,_,rfl⟩⟩
  · have hp:cW L Q (gS Y h) h (bY T (bb W T.length h))≠cU T h:=by simpa using hp
    show au hE g9 ⟨W,(L,Q,Y),T,some h,y⟩=_;simp only[au,k];simp[g9,g8,i,j,hp]
  · have hp:cW L Q (gS Y h) h (bY T (bb W T.length h))=cU T h:=by simpa using hp
    show au hE g9 ⟨W,(L,Q,Y),T,some h,y⟩=_;simp only[au,k]
    simp[g9,g8,i,j,hp])
 have rc:=cg (lo:=0) (hi:=(T.length:Int)) (by omega) (by omega) (by omega) (by omega);unfold uI Bx jM i8;simp only[au];cases q:(bK 0 T.length).find? (λh=>decide (cW L Q (gS Y h) h (bY T (bb W T.length h))≠cU T h)) with
 |some h=>
   have e:=v h q;simp[rW,rc,e]
 |none=>
   obtain⟨e,x,y,rfl⟩:=t q;simp[rW,yU,rc,e]
theorem K8{g:GΩ}{sz:Int}{W:P1}{L Q:DI Int}{Y:P1}(G:GuildIs g sz W L Q Y)(a:WaysOk sz W){T:List (Option (List Int))}(b:TableOk sz T):mM g T=jM W L Q Y T:=by
 unfold mM jM;rw[G.count,gj G a,b.len]
 have:(λh=>cW g.lω g.wω (sT g h) h)=λh=>cW L Q (gS Y h) h:=funext λh=>BK G h
 rw[this]
theorem G1(nh:List (Option Int)):∀(k:Nat) (g:List Int) (x:Int) (r:List Int),pQ nh k g x=some r->(∃t,r=g++t)/\(x≠0->g.length<r.length)
 |0,g,x,r,h=>by cases h
 | k+1,g,x,r,h=>by
   unfold pQ at h;by_cases a:x=0
   ·rw[Xl a]at h;cases h;exact⟨⟨[],by simp⟩,λz=>absurd a z⟩
   · rw[Xj a]at h;cases q:nh.getD x.toNat none with
     |none=>rw[q]at h;cases h
     |some y=>
       rw[q]at h;dsimp only at h;by_cases b:y∈g
       ·rw[Xl b]at h;cases h
       ·rw[Xj b]at h;obtain⟨⟨t,rfl⟩,_⟩:=G1 nh k _ _ _ h;exact⟨⟨y::t,by simp⟩,λ_=>by simp⟩
theorem wR(nh:List (Option Int))(h:nh≠[]):bO nh=some [0]::(bK 1 nh.length).map λh=>pQ nh nh.length [h] h:=by
 unfold bO
 obtain⟨n,b⟩:∃n,nh.length=n+1:=by
  cases nh with
  |nil=>exact absurd rfl h
  |cons a l=>exact⟨l.length,rfl⟩
 have e:bK 0 (nh.length:Int)=0::bK 1 nh.length:=by
  unfold bK;rw[b];have f:(((n+1:Nat):Int)-0).toNat=n+1:=by omega
  have d:(((n+1:Nat):Int)-1).toNat=n:=by omega
  rw[f,d,ZW,Xm,Yk]
  have c:∀x∈List.range n,((λi:Nat=>(0:Int)+i)∘Nat.succ) x=(λi:Nat=>(1:Int)+i) x:=λx _=>by
   show(0:Int)+((x+1:Nat):Int)=1+x;omega
  rw[YC c];rfl
 rw[e,Xm]
 have:pQ nh nh.length [0] 0=some [0]:=by
  rw[b];unfold pQ;rw[if_pos rfl]
 rw[this]
theorem uN{nh:List (Option Int)}(h:nh≠[]):∀r,some r∈(bO nh).drop 1->2<=r.length:=λr b=>by
 rw[wR nh h,Ab4,Aa7]at b;obtain⟨x,a,e⟩:=X5.mp b;have a:=cp.mp a
 have:=(G1 nh _ _ _ _ e).2 (by omega)
 simp at this;omega
def An(o:Option Int):Option Int:=match o with
 |none=>some (-1)
 |some x=>some x
theorem HG:∀(T:List (Option (List Int))) (t:List (Option Int)),(∀r,some r∈T->2<=r.length/\∀x∈r,0<=x)->(∀y,some y∈t->0<=y)->(T.map jp=t↔(T.map lx).map some=t.map An)
 |[],t,_,_=>by cases t<;>simp
 |o::T,[],_,_=>by simp
 | o::T,e::t,c,d=>by
   have f:=HG T t (λr h=>c r (no _ h)) λy g=>d y (no _ g)
   have hd:jp o=e↔some (lx o)=An e:=by
    match o,c with
    |none,_=>
      cases e with
      |none=>simp[jp,lx,An]
      |some y=>have:=d y Xk;simp[jp,lx,An];omega
    |some [],c=>have:=(c [] Xk).1;simp at this
    |some [a],c=>have:=(c [a] Xk).1;simp at this
    |some (a::b::s),c=>
      have i:=(c (a::b::s) Xk).2 b (by simp);cases e with
      |none=>simp[jp,lx,An];omega
      |some y=>simp[jp,lx,An]
   rw[Xm,Xm,Xm,Xm,Z0,Z0,f,hd]
theorem tU(n:Int)(W:DI Bool):∀k,∀r∈gg n W k,∃t,r=none::t
 |0,r,b=>⟨[],Xz.mp b⟩
 | k+1,r,b=>by
   obtain⟨c,a,b⟩:=ZN.mp b;obtain⟨o,_,rfl⟩:=X5.mp b;obtain⟨t,rfl⟩:=tU n W k c a;exact⟨t++[o],rfl⟩
def iy(W:P1)(L Q:DI Int)(Y:P1)(nh:List (Option Int)):Bool:=(jM W L Q Y (bO nh)).isNone&&decide ((((bO nh).drop 1).map lx).map some=(nh.drop 1).map An)
theorem M6{g:GΩ}{sz:Int}{W:P1}{L Q:DI Int}{Y:P1}(G:GuildIs g sz W L Q Y)(l:WaysOk sz W){nh:List (Option Int)}{t:List (Option Int)}(e:nh=none::t)(k:(nh.length:Int)=sz)(d:∀y,some y∈nh->0<=y/\y<sz)(m:sz<=5):(decide ((bO nh).map jp=nh)&&(mM g (bO nh)).isNone)=iy W L Q Y nh:=by
 have a:=(jj (n:=sz) (nh:=nh) k d (by omega)).2;unfold iy;rw[K8 G l a,Bool.and_comm];refine congrArg (and _) ?_;have ne:nh≠[]:=by rw[e];simp
 have two:=uN ne;have c:=wR nh ne;generalize bO nh=T at a two c;generalize ((bK 1 nh.length).map λh=>pQ nh nh.length [h] h)=f at c;subst c;rw[e]at d ⊢;rw[Ab4,Aa7]at two ⊢;rw[Ab4,Aa7]
 have:=HG f t (λr b=>⟨two r b,λx j=>((a.all r (no _ b)).all x j).1⟩) λy i=>(d y (no _ i)).1
 rw[Xm,show jp (some [0])=none from rfl];by_cases q:f.map jp=t
 ·rw[X8 (by rw[q]),X8 (this.mp q)]
 ·rw[X0 (λz=>q (List.cons.inj z).2),X0 λz=>q (this.mpr z)]
theorem BW(o:Option (List Int)):(uK o o).res=.ok true:=by
 cases o with
 |none=>
   unfold uK wB rZ nE;simp
 |some f=>
   obtain⟨s',e,x,rfl⟩:=g6 (u:=λa s=>{s with vfq:=some a}) (c:=mE) (λs:S_bf9=>∃x,s=⟨some f,some f,x⟩) f ⟨some f,some f,none⟩ ⟨none,rfl⟩ (by
    rintro o s b ⟨x,rfl⟩
    exact⟨_,.inl (by simp[mE,FO];rfl),_,rfl⟩)
   unfold uK wB rZ y0 yZ yY;simp[e]
theorem uS(T:List (Option (List Int)))(d:T.length<=1000):(uJ T T).res=.ok true:=by
 obtain⟨s',e,x,rfl⟩:=g6 (u:=λa s=>{s with vhq:=some a}) (c:=mD) (λs:S_bg9=>∃x,s=⟨T,T,x⟩) (bK 0 T.length) ⟨T,T,none⟩ ⟨none,rfl⟩ (by
  rintro k s b ⟨x,rfl⟩;have b:=cp.mp b
  exact⟨_,.inl (by simp[mD,K9 (T:=T) b.1 b.2,BW];rfl),_,rfl⟩)
 unfold uJ By yX yW yV;simp[cg (lo:=0) (hi:=(T.length:Int)) (by omega) (by omega) (by omega) (by omega),e]
theorem LP(T:List (Option (List Int)))(sz:Int)(b:(T.length:Int)=sz):(Ed T sz).res=.ok true:=by
 obtain⟨s',e,x,rfl⟩:=g6 (u:=λa s=>{s with vuq:=some a}) (c:=mq) (λs:S_bj9=>∃x,s=⟨T,sz,x⟩) T ⟨T,sz,none⟩ ⟨none,rfl⟩ (by
  rintro o s d ⟨x,rfl⟩;refine⟨⟨T,sz,some o⟩,.inl ?_,_,rfl⟩
  cases o<;>simp[mq,BW])
 unfold Ed Bw yR yQ yP;simp[b,e]
def fH(W:P1)(L Q:DI Int)(Y:P1)(sz:Int):List (List (Option (List Int))):=((fc W sz (sz-1).toNat).filter (iy W L Q Y)).map bO
theorem pP{W:P1}{sz:Int}{V:DI Bool}(b:aS sz V=bb W sz)(h0:1<=sz)(c:sz<=5):(fc W sz (sz-1).toNat).length<=1296/\∀nh∈fc W sz (sz-1).toNat,(nh.length:Int)=sz/\(∀y,some y∈nh->0<=y/\y<sz)/\∃t,nh=none::t:=by
 rw[j9 b];obtain⟨e,l2⟩:=j8 sz V c (sz-1).toNat;have d:(6:Nat) ^ (sz-1).toNat<=6 ^ 4:=Y1 (by decide) (by omega);exact⟨by omega,λnh a=>⟨by have:=(l2 nh a).1;omega,(l2 nh a).2,tU sz V _ nh a⟩⟩
theorem LO(W:P1)(L Q:DI Int)(Y:P1)(sz:Int)(V:DI Bool)(E:aS sz V=bb W sz)(h0:1<=sz)(F:sz<=5):(Nw W (L,Q,Y) sz).res=.ok (fH W L Q Y sz):=by
 have G:=FR W sz V E h0 F;obtain⟨J,l2⟩:=pP E h0 F;unfold fH;generalize fc W sz (sz-1).toNat=rows at G J l2
 obtain⟨s',e,x,y,rfl⟩:=bN (u:=λa s=>{s with vvq:=some a}) (c:=p7) (λp (s:S_s9)=>∃x y,s=⟨W,(L,Q,Y),sz,some ((p.filter (iy W L Q Y)).map bO),x,y⟩) rows ⟨W,(L,Q,Y),sz,some [],none,none⟩ ⟨none,none,rfl⟩ (by
  rintro p nh r s D ⟨x,y,rfl⟩;obtain⟨k,B,t,H⟩:=l2 nh (by rw[D];simp);have ne:nh≠[]:=by rw[H];simp
  obtain⟨_,d⟩:=jj (n:=sz) (nh:=nh) k B (by omega);have two:=uN ne;have hp:p.length+1<=rows.length:=by rw[D];simp
  have f:((p.filter (iy W L Q Y)).map bO).length<am:=by
   rw[on]
   have:=Yg (iy W L Q Y) p
   unfold am;omega
  rw[List.filter_append,XJ];generalize (p.filter (iy W L Q Y)).map bO=A at f
  have K:cq (ba (dy 0) (pC (·.vCq))) (λ_=>.ok true) (cJ Fs (vC λp=>p.2.vvq) (pC λp=>p.1)) (⟨W,(L,Q,Y),sz,some A,some nh,y⟩:S_s9)=.ok (bO nh):=by
   have:=fy (src:=ba (dy 0) (pC λp:S_s9=>p.vCq)) (te:=cJ Fs (vC λp:Int×S_s9=>p.2.vvq) (pC λp=>p.1)) (s:=⟨W,(L,Q,Y),sz,some A,some nh,y⟩) (l:=bK 0 sz) (λh=>pQ nh nh.length [h] h) (by simp[cg (lo:=0) (hi:=sz) (by omega) (by omega) (by omega) (by omega)]) (by rw[bc];unfold am;omega) (λh m=>by
    have m:=cp.mp m;have e:=(Er k B (by omega) m.1 (by omega)).1
    simp[e])
   rw[this];unfold bO;rw[k]
  have v:oE ⟨W,(L,Q,Y),sz,some A,some nh,y⟩=.nx ⟨W,(L,Q,Y),sz,some A,some nh,some (bO nh)⟩:=by
   unfold oE bv aW;rw[show cq _ _ _ _=_ from K];rfl
  have g:=j4 W L Q Y (bO nh) sz d (by omega);have i:=nV (bO nh) two (by have:=d.len;omega)
  have C:cq (aY ye (vC (·.vvq)) (kC (1:Int))) (λ_=>.ok true) (xZ (ba (i6 false iZ) (pC λp=>p.1)) (ba ig (ba og (kC (1:Int)))) (pC λp=>p.1)) (⟨W,(L,Q,Y),sz,some A,some nh,some (bO nh)⟩:S_s9)=.ok ((nh.drop 1).map An):=
   fy (src:=aY ye (vC λp:S_s9=>p.vvq) (kC (1:Int))) (te:=xZ (ba (i6 false iZ) (pC λp:Option Int×S_s9=>p.1)) (ba ig (ba og (kC (1:Int)))) (pC λp=>p.1)) (l:=nh.drop 1) An (by simp[-List.drop_one]) (by rw[List.length_drop];unfold am;omega) (λo _=>by cases o<;>simp[An])
  by_cases q:iy W L Q Y nh=true
  · refine⟨⟨W,(L,Q,Y),sz,some (A++[bO nh]),some nh,some (bO nh)⟩,.inl ?_,some nh,some (bO nh),?_⟩
    ·have b:=q;unfold iy at b;rw[Bool.and_eq_true,decide_eq_true_iff]at b;unfold p7;rw[gM v];unfold oB;simp only[gt,aW,oI,aY];rw[show cq _ _ _ _=_ from C];generalize ((bO nh).drop 1).map lx=A1 at i b;generalize (nh.drop 1).map An=I at b;simp[lM,g,i,b.1,b.2,ia f]
    ·rw[ZO (by exact q),Zp];rfl
  · refine⟨⟨W,(L,Q,Y),sz,some A,some nh,some (bO nh)⟩,.inl ?_,some nh,some (bO nh),?_⟩
    · unfold p7;rw[gM v];unfold oB;simp only[gt,aW,oI,aY];rw[show cq _ _ _ _=_ from C];unfold iy at q;cases z:(jM W L Q Y (bO nh)).isNone with
      |false=>
        rw[z]at g;simp[g]
      |true=>
        rw[z]at g q;have j:¬ (((bO nh).drop 1).map lx).map some=(nh.drop 1).map An:=λw=>q (by rw[X8 w];rfl);generalize ((bO nh).drop 1).map lx=A1 at i j;generalize (nh.drop 1).map An=I at j;simp[g,i,j]
    · rw[ZP (by exact q),Zp]
      simp)
 unfold Nw KE Ds Dr Dq;simp[am,G,e]
theorem B0{g:GΩ}{sz:Int}{W:P1}{L Q:DI Int}{Y:P1}(G:GuildIs g sz W L Q Y)(a:WaysOk sz W)(h0:1<=sz)(c:sz<=5):Eu g=fH W L Q Y sz:=by
 have b:=gj G a;obtain⟨i,l2⟩:=pP b h0 c;unfold Eu fH;rw[G.count,<-j9 b]
 rw[List.filter_congr λnh h=>by
  obtain⟨f,e,t,d⟩:=l2 nh h
  exact M6 G a d f e c]
def QJ(o:Option Int):Int:=match o with
 |none=>-1
 |some x=>x
theorem CT:∀(a b x y:List Int),a.length=b.length->HT.eV a b=true->HT.eV (a++x) (b++y)=true
 |[],[],_,_,_,h=>by cases h
 | p::a,q::b,x,y,c,h=>by
   rw[HT.eJ]at h;rw[Yo,Yo,HT.eJ];by_cases e:p=q
   ·rw[Xl e]at h ⊢;exact CT a b x y (by simpa using c) h
   ·rw[Xj e]at h ⊢;exact h
 |[],q::b,_,_,c,_=>by simp at c
 |p::a,[],_,_,c,_=>by simp at c
theorem xT{p q:Int}(h:p<q):∀a:List Int,HT.eV (a++[p]) (a++[q])=true
 | []=>by
   rw[List.nil_append,List.nil_append,HT.eJ,Xj (by omega)];simpa using h
 | x::a=>by
   rw[Yo,Yo,HT.eJ,Xl rfl];exact xT h a
theorem Ma(a b:Int):(bK a b).Pairwise (·<·):=by
 unfold bK;rw[List.pairwise_map];refine List.pairwise_lt_range.imp λh=>?_;omega
theorem JU(W:P1)(sz h:Int):(gq W sz h).Pairwise λa b=>QJ a<QJ b:=by
 unfold gq;rw[List.pairwise_cons];constructor
 · intro o c;obtain⟨b,d,rfl⟩:=X5.mp c
   have:=kn d
   show(-1:Int)<b;omega
 ·rw[List.pairwise_map];unfold bb;exact((Ma 0 sz).filter _).imp λh=>h
theorem xl(W:P1)(sz:Int):∀k,(fc W sz k).Pairwise (λa b=>HT.eV (a.map QJ) (b.map QJ)=true)/\∀r∈fc W sz k,r.length=k+1
 |0=>⟨List.pairwise_singleton _ _,λr e=>by rw[Xz.mp e];rfl⟩
 | k+1=>by
   obtain⟨m,f⟩:=xl W sz k;unfold fc;constructor
   · rw[List.pairwise_flatMap];constructor
     ·intro d c;rw[List.pairwise_map];refine(JU W sz (k+1)).imp λh=>?_;rw[XJ,XJ];exact xT h _
     ·refine m.imp_of_mem λ{a b} l j h x i y g=>?_;obtain⟨o,_,rfl⟩:=X5.mp i;obtain⟨o',_,rfl⟩:=X5.mp g;rw[XJ,XJ];exact CT _ _ _ _ (by rw[on,on,f a l,f b j]) h
   ·intro r e;obtain⟨d,c,e⟩:=ZN.mp e;obtain⟨o,_,rfl⟩:=X5.mp e;rw[Xo,f d c];rfl
theorem UC(o:Option Int):An o=some (QJ o):=by cases o<;>rfl
theorem wW:∀{a b:List Int},a.map some=b.map some->a=b
 |[],[],_=>rfl
 |[],_::_,h=>by cases h
 |_::_,[],h=>by cases h
 | x::a,y::b,h=>by
   rw[Xm,Xm,Z0]at h;rw[XQ h.1,wW h.2]
theorem N9{W:P1}{L Q:DI Int}{Y:P1}{nh:List (Option Int)}(h:iy W L Q Y nh=true):((bO nh).drop 1).map lx=(nh.drop 1).map QJ:=by
 unfold iy at h;rw[Bool.and_eq_true,decide_eq_true_iff]at h
 have:(nh.drop 1).map An=((nh.drop 1).map QJ).map some:=by
  rw[Yk];exact YC λo _=>UC o
 rw[this]at h;exact wW h.2
theorem M3{W:P1}{L Q:DI Int}{Y:P1}{sz:Int}{V:DI Bool}(j:aS sz V=bb W sz)(h0:1<=sz)(k:sz<=5):(fH W L Q Y sz).Pairwise λa b=>HT.eV ((a.drop 1).map lx) ((b.drop 1).map lx)=true:=by
 obtain⟨l,l2⟩:=pP j h0 k;unfold fH;rw[List.pairwise_map];refine((xl W sz _).1.filter _).imp_of_mem λ{a b} i g h=>?_;obtain⟨f,e⟩:=List.mem_filter.mp i;obtain⟨d,c⟩:=List.mem_filter.mp g;rw[N9 e,N9 c];obtain⟨_,_,t,rfl⟩:=l2 a f;obtain⟨_,_,u,rfl⟩:=l2 b d;rw[List.map_cons,List.map_cons,HT.eJ,if_pos rfl]at h;exact h
section
variable{W:P1}{L Q:DI Int}{Y:P1}{sz:Int}{T:List (Option (List Int))}
theorem FV(b:TableOk sz T)(a:jM W L Q Y T=none){h:Int}(c:0<=h/\h<sz):cW L Q (gS Y h) h (bY T (bb W sz h))=cU T h:=by
 unfold jM i8 at a
 have:=List.find?_eq_none.mp a h (cp.mpr (by rw[b.len];exact c))
 rw[b.len]at this;simpa using this
theorem mS(b:TableOk sz T)(a:jM W L Q Y T=none)(h0:1<=sz):cU T 0=some [0]:=by
 rw[<-FV b a (h:=0) (by omega)];unfold cW;rw[if_pos rfl]
theorem mU(g:TableOk sz T)(f:jM W L Q Y T=none){h:Int}(j:0<=h/\h<sz){r:List Int}(e:cU T h=some r):∃t,r=h::t/\(h≠0->∃b,b∈bb W sz h/\cU T b=some t):=by
 by_cases q:h=0
 ·subst q;rw[mS g f (by omega)]at e;cases e;exact⟨[],rfl,λz=>absurd rfl z⟩
 · rw[<-FV g f j]at e
   have k:nR L Q (gS Y h) h (bY T (bb W sz h))=some r:=by
    unfold cW at e;rw[if_neg q]at e;exact e
   obtain⟨_,i⟩:=wE k;obtain⟨t,d,rfl,_⟩:=oi i;refine⟨t,rfl,λ_=>?_⟩;unfold bY at d;obtain⟨b,c,a⟩:=List.mem_map.mp d;exact⟨b,c,a⟩
theorem CQ(T:List (Option (List Int)))(h:Int):(T.map jp).getD h.toNat none=jp (cU T h):=by
 unfold cU;rw[List.getD_eq_getElem?_getD,List.getD_eq_getElem?_getD,List.getElem?_map];cases T[h.toNat]? with
 |none=>rfl
 |some o=>rfl
theorem uV(c:TableOk sz T)(a:jM W L Q Y T=none){h:Int}(i:0<=h/\h<sz)(g:h≠0){t:List Int}(e:cU T h=some (h::t)):∃b u,t=b::u/\b∈bb W sz h/\cU T b=some (b::u)/\jp (cU T h)=some b:=by
 obtain⟨t',k,j⟩:=mU c a i e;cases k;obtain⟨b,f,d⟩:=j g;obtain⟨u,rfl,_⟩:=mU c a (kn f) d;refine⟨b,u,rfl,f,d,?_⟩;rw[e];rfl
theorem Mc(j:TableOk sz T)(i:jM W L Q Y T=none):∀(t:List Int) (x:Int) (g:List Int) (k:Nat),0<=x/\x<sz->cU T x=some (x::t)->(g++x::t).Nodup->t.length<k->pQ (T.map jp) k (g++[x]) x=some (g++x::t):=by
 intro t
 induction t with
 |nil=>
   intro x g k c e nd l;obtain⟨k,rfl⟩:∃k',k=k'+1:=⟨k-1,by omega⟩;unfold pQ;by_cases q:x=0
   ·rw[Xl q]
   ·obtain⟨b,u,z,_⟩:=uV j i c q e;cases z
 |cons b t m=>
   intro x g k c e nd l;obtain⟨k,rfl⟩:∃k',k=k'+1:=⟨k-1,by omega⟩;unfold pQ;by_cases q:x=0
   ·subst q;rw[mS j i (by omega)]at e;cases e
   · obtain⟨o,u,z,h,f,d⟩:=uV j i c q e;cases z;rw[if_neg q,CQ,d];dsimp only
     have a:((g++[x])++b::t).Nodup:=by
      rw[Yh];exact nd
     have n:b∉g++[x]:=λz=>by
      have:=(XV.mp a).2.2 b z b Xk
      exact this rfl
     rw[Xj n,m b (g++[x]) k (kn h) f a (by simp at l;omega),Yh];rfl
theorem wS(a:TableOk sz T)(b:jM W L Q Y T=none)(h0:1<=sz):bO (T.map jp)=T:=by
 have h:=a.len;unfold bO;rw[List.length_map];refine List.ext_getElem (by rw[List.length_map,bc];omega) λi j d=>?_;rw[List.getElem_map]
 have g:(bK 0 (T.length:Int))[i]'(by rw[bc];omega)=(i:Int):=by
  unfold bK;rw[List.getElem_map,List.getElem_range];omega
 rw[g]
 have f:cU T (i:Int)=T[i]:=by
  unfold cU;rw[List.getD_eq_getElem?_getD,show((i:Int)).toNat=i from by omega,List.getElem?_eq_getElem d];rfl
 rw[<-f];have hi:0<=(i:Int)/\(i:Int)<sz:=by omega
 cases e:cU T (i:Int) with
 |none=>
   obtain⟨n,c⟩:∃n,T.length=n+1:=⟨T.length-1,by omega⟩;rw[c];unfold pQ
   have q:(i:Int)≠0:=λz=>by
    rw[z,mS a b h0]at e;cases e
   rw[Xj q,CQ,e];rfl
 |some r=>
   obtain⟨t,rfl,_⟩:=mU a b hi e;have P:=a.all _ (uj e);have pl:=P.len;rw[Xp]at pl;exact Mc a b t i [] T.length hi e P.nd (by omega)
theorem Mw(f:TableOk sz T)(d:jM W L Q Y T=none){h:Int}(c:0<=h/\h<sz)(g:h≠0):jp (cU T h)∈gq W sz h:=by
 unfold gq;cases e:cU T h with
 |none=>exact Xk
 |some r=>
   obtain⟨t,rfl,_⟩:=mU f d c e;obtain⟨b,u,rfl,a,_⟩:=uV f d c g e;exact no _ (X5.mpr ⟨b,a,rfl⟩)
theorem GB(b:TableOk sz T)(c:jM W L Q Y T=none)(h0:1<=sz):∀k:Nat,(k:Int)<sz->(T.map jp).take (k+1)∈fc W sz k
 | 0,_=>by
   have e:=CQ T 0;rw[mS b c h0]at e;have d:=b.len;unfold fc;cases T with
   |nil=>simp at d;omega
   |cons o T=>
     have e:jp o=none:=e;rw[Xm,List.take_succ_cons,List.take_zero,e];exact Xk
 | k+1,g=>by
   have f:=GB b c h0 k (by omega);have d:=b.len;have a:k+1<(T.map jp).length:=by rw[on];omega
   unfold fc;rw[List.mem_flatMap];refine⟨_,f,?_⟩;rw[List.mem_map];refine⟨(T.map jp)[k+1],?_,?_⟩
   · have:=Mw b c (h:=(k:Int)+1) (by omega) (by omega)
     rw[<-CQ,Xx,show((k:Int)+1).toNat=k+1 from by omega,Xy a]at this;exact this
   ·rw[List.take_succ_eq_append_getElem a]
theorem Pe{g:GΩ}(G:GuildIs g sz W L Q Y)(d:WaysOk sz W)(a:TableOk sz T)(b:jM W L Q Y T=none)(h0:1<=sz):T∈Eu g:=by
 have e:=gj G d;have f:=a.len;have c:=GB a b h0 (sz-1).toNat (by omega);rw[List.take_of_length_le (by rw[List.length_map];omega),j9 e]at c;unfold Eu;rw[G.count];refine List.mem_map.mpr ⟨T.map jp,List.mem_filter.mpr ⟨c,?_⟩,wS a b h0⟩;rw[wS a b h0,K8 G d a,b,decide_eq_true rfl];rfl
end
def BV(W:P1)(L Q:DI Int)(Y:P1)(sz:Int)(T:List (Option (List Int))):List (Option (List Int)):=(bK 0 sz).map λh=>cW L Q (gS Y h) h (bY T (bb W sz h))
theorem LD{W:P1}{L Q:DI Int}{Y:P1}{sz:Int}{T:List (Option (List Int))}(d:TableOk sz T)(h0:0<=sz):TableOk sz (BV W L Q Y sz T):=by
 refine⟨by unfold BV;rw[List.length_map,bc];omega,λr b=>?_⟩;obtain⟨h,c,e⟩:=List.mem_map.mp b;exact Fo (cp.mp c) (λr a=>d.all r (ji a)) e
theorem LN(W:P1)(L Q:DI Int)(Y:P1)(sz:Int)(h0:1<=sz)(E:sz<=900):∃T,(Nt W (L,Q,Y) sz).res=.ok T/\TableOk sz T:=by
 have i:=bc 1 sz
 have C:cq (aY dy (kC (1:Int)) (pC (·.vCq))) (λ_=>.ok true) (kC ()) (⟨W,(L,Q,Y),sz,none,none,none,none,none⟩:S_z9)=.ok ((bK 1 sz).map λ_=>()):=
  fy (src:=aY dy (kC (1:Int)) (pC λp:S_z9=>p.vCq)) (te:=λ_=>Res.ok ()) (l:=bK 1 sz) (λ_=>()) (by simp[cg (lo:=1) (hi:=sz) (by omega) (by omega) (by omega) (by omega)]) (by rw[i];unfold am;omega) (λ_ _=>rfl)
 obtain⟨g,n,H⟩:∃g,TableOk sz g/\vO ⟨W,(L,Q,Y),sz,none,none,none,none,none⟩=.nx ⟨W,(L,Q,Y),sz,some g,none,none,none,none⟩:=by
  refine⟨some [0]::(bK 1 sz).map λ_=>none,⟨by rw[Xp,on,i];omega,λr j=>?_⟩,?_⟩
  · rcases Xv.mp j with z|z
    ·cases z;exact NW (by omega)
    ·obtain⟨_,_,z⟩:=X5.mp z;cases z
  · unfold vO;simp only[bv,aW,aY,ba];rw[show cq _ _ _ _=_ from C]
    have:=kP (l:=[some [(0:Int)]]) (m:=(bK 1 sz).map λ_=>(none:Option (List Int))) (by rw[List.length_singleton,List.length_map,i];unfold am;omega)
    simp[am,this,-h8,Function.comp_def]
 obtain⟨s',e,T,a,b,c,rfl,d⟩:=bN (u:=λa s=>{s with vhq:=some a}) (c:=wt) (λp (s:S_z9)=>∃T a b c,s=⟨W,(L,Q,Y),sz,some T,a,none,b,c⟩/\TableOk sz T) (bK 0 6) ⟨W,(L,Q,Y),sz,some g,none,none,none,none⟩ ⟨g,none,none,none,rfl,n⟩ (by
  rintro p k r s M ⟨T,a,b,c,rfl,d⟩;have J:=d.len
  obtain⟨s2,f,w,t,rfl⟩:=bN (u:=λa s=>{s with vfq:=some a}) (c:=oG) (λp (s:S_z9)=>∃b c,s=⟨W,(L,Q,Y),sz,some T,some k,some (p.map λh=>cW L Q (gS Y h) h (bY T (bb W sz h))),b,c⟩) (bK 0 sz) ⟨W,(L,Q,Y),sz,some T,some k,some [],b,c⟩ ⟨b,c,rfl⟩ (by
   rintro q h r s o ⟨b,c,rfl⟩;have K:=cp.mp (show h∈bK 0 sz by rw[o];simp)
   have I:q.length<900:=by
    have:=congrArg List.length o
    rw[bc,Xo,Xp]at this;omega
   have F:=pM W sz h (by omega) (by omega);have G:=BZ L Q Y h (bY T (bb W sz h)) (λr j=>qx (d.all r (ji j)) E);have x:∀v,jf (q.map λh=>cW L Q (gS Y h) h (bY T (bb W sz h))) v=some ((),(q.map λh=>cW L Q (gS Y h) h (bY T (bb W sz h)))++[v]):=λv=>ia (by rw[List.length_map];unfold am;omega);refine⟨⟨W,(L,Q,Y),sz,some T,some k,some ((q++[h]).map λh=>cW L Q (gS Y h) h (bY T (bb W sz h))),some h,some (bY T (bb W sz h))⟩,.inl ?_,some h,_,rfl⟩;rw[List.map_append];generalize (q.map λh=>cW L Q (gS Y h) h (bY T (bb W sz h)))=A at x
   have y:kH ⟨W,(L,Q,Y),sz,some T,some k,some A,some h,c⟩=.nx ⟨W,(L,Q,Y),sz,some T,some k,some A,some h,some (bY T (bb W sz h))⟩:=by
    have B:=fy (src:=gI pG (pC λp:S_z9=>p.vIq) (pC (·.vCq)) (vC (·.vfq))) (te:=aY iR (vC λp:Int×S_z9=>p.2.vFq) (pC λp=>p.1)) (s:=⟨W,(L,Q,Y),sz,some T,some k,some A,some h,c⟩) (l:=bb W sz h) (cU T) (by simp[F]) (xU (by omega)) (λb D=>by
     have:=kn D
     simp[K9 (T:=T) (b:=b) this.1 (by omega)])
    unfold kH bv aW;rw[show cq _ _ _ _=_ from B];rfl
   unfold oG;rw[gM y]
   simp[o4,G,x])
  refine⟨⟨W,(L,Q,Y),sz,some (BV W L Q Y sz T),some k,none,w,t⟩,.inl ?_,_,_,_,_,rfl,LD d (by omega)⟩;unfold wt;rw[gM (show ou _=.nx ⟨W,(L,Q,Y),sz,some T,some k,some [],b,c⟩ by simp[ou,am])]
  have s2:ot ⟨W,(L,Q,Y),sz,some T,some k,some [],b,c⟩=.nx ⟨W,(L,Q,Y),sz,some T,some k,some (BV W L Q Y sz T),w,t⟩:=by
   unfold ot;simp[cg (lo:=0) (hi:=sz) (by omega) (by omega) (by omega) (by omega),f];rfl
  rw[gM s2]
  simp[ur])
 refine⟨T,?_,d⟩;unfold Nt Kw;rw[gM H];unfold Dc Db;simp[cg (lo:=0) (hi:=6) (by omega) (by omega) (by omega) (by omega),e]
theorem C6{W:P1}{L Q:DI Int}{Y:P1}{sz:Int}{V:DI Bool}(g:aS sz V=bb W sz)(h0:1<=sz)(i:sz<=5):(fH W L Q Y sz).length<=1296/\∀T∈fH W L Q Y sz,TableOk sz T/\jM W L Q Y T=none/\∀r,some r∈T.drop 1->2<=r.length:=by
 obtain⟨j,l2⟩:=pP g h0 i;unfold fH;refine⟨by rw[List.length_map];have:=List.length_filter_le (iy W L Q Y) (fc W sz (sz-1).toNat);omega,λT h=>?_⟩;obtain⟨nh,f,rfl⟩:=List.mem_map.mp h;obtain⟨b,a⟩:=List.mem_filter.mp f;obtain⟨e,d,t,c⟩:=l2 nh b;refine⟨(jj e d (by omega)).2,?_,uN (by rw[c];simp)⟩;unfold iy at a;rw[Bool.and_eq_true]at a;cases q:jM W L Q Y (bO nh) with
 |none=>rfl
 |some x=>rw[q]at a;cases a.1
theorem La{X:Type}{F:List X}{k:Int}(h0:0<=k)(a:k<F.length):∃(h:k.toNat<F.length),nJ F k=some F[k.toNat]:=by
 have h:k.toNat<F.length:=by omega
 exact⟨h,by rw[kS _ h0,Xy h]⟩
theorem LR{g:GΩ}{W:P1}{L Q:DI Int}{Y:P1}(G:GuildIs g 5 W L Q Y)(h:WaysOk 5 W):(Nv (fH W L Q Y 5) W (L,Q,Y)).res=.ok true:=by
 have p:=gj G h;obtain⟨J,i⟩:=C6 (L:=L) (Q:=Q) (Y:=Y) p (by omega) (by omega);have y:=M3 (L:=L) (Q:=Q) (Y:=Y) p (by omega) (by omega);have w:=B0 G h (by omega) (by omega);generalize fH W L Q Y 5=F at J i y w
 obtain⟨s',e,x,rfl⟩:=g6 (u:=λa s=>{s with vhq:=some a}) (c:=wv) (λs:S_w9=>∃x,s=⟨F,W,(L,Q,Y),x,none⟩) (bK 0 F.length) ⟨F,W,(L,Q,Y),none,none⟩ ⟨none,rfl⟩ (by
  rintro k s f ⟨x,rfl⟩;have f:=cp.mp f;obtain⟨n,C⟩:=La f.1 f.2;obtain⟨l,K,I⟩:=i _ (YG n);have H:=l.len;have M:=LP F[k.toNat] 5 H;have b:=j4 W L Q Y F[k.toNat] 5 l (by omega);rw[K]at b;have t:=nV F[k.toNat] I (by omega);refine⟨⟨F,W,(L,Q,Y),some k,none⟩,.inl ?_,_,rfl⟩
  have j:oA ⟨F,W,(L,Q,Y),some k,none⟩=.nx ⟨F,W,(L,Q,Y),some k,none⟩:=by
   simp[oA,C,M,b]
  unfold wv;rw[gM j];by_cases q:0<k
  ·obtain⟨m,z⟩:=La (F:=F) (k:=k-1) (by omega) (by omega);obtain⟨E,S,D⟩:=i _ (YG m);have R:=E.len;have d:=nV F[(k-1).toNat] D (by omega);have lt:=List.pairwise_iff_getElem.mp y (k-1).toNat k.toNat m n (by omega);generalize (F[k.toNat].drop 1).map lx=A at t lt;generalize (F[(k-1).toNat].drop 1).map lx=B at d lt;generalize F[(k-1).toNat]=U at z d;simp[oz,q,C,z,t,d,lt]
  ·simp[oz,q])
 have j:vR ⟨F,W,(L,Q,Y),none,none⟩=.nx ⟨F,W,(L,Q,Y),x,none⟩:=by
  unfold vR;rw[<-e];simp[cg (lo:=0) (hi:=(F.length:Int)) (by omega) (by omega) (by omega) (by omega)]
 obtain⟨T,N,r⟩:=LN W L Q Y 5 (by omega) (by omega);have P:vQ ⟨F,W,(L,Q,Y),x,none⟩=.nx ⟨F,W,(L,Q,Y),x,some T⟩:=by simp[vQ,N]
 have b:=j4 W L Q Y T 5 r (by omega)
 have O:pY ⟨F,W,(L,Q,Y),x,some T⟩=.rt true ⟨F,W,(L,Q,Y),x,some T⟩:=by
  cases q:jM W L Q Y T with
  |some v=>
    rw[q]at b;simp[pY,b]
  |none=>
    rw[q]at b;have o:=Pe G h r q (by omega);rw[w]at o;simp[pY,b,o]
 unfold Nv Kz;rw[gM j,gM P,O];rfl
theorem FB{W:P1}{sz h:Int}(c:WaysOk sz W)(a:0<=h/\h<sz):((bb W sz h).length:Int)+1<=sz:=by
 unfold bb
 have:((bK 0 sz).filter λb=>decide ((min h b,max h b)∈W)).length<(bK 0 sz).length:=
  List.length_filter_lt_length_iff_exists.mpr ⟨h,cp.mpr a,λz=>by
   have:=c.all _ (Yy z)
   simp at this⟩
 rw[bc]at this;omega
theorem tJ{g:GΩ}{sz:Int}{W:P1}{L Q:DI Int}{Y:P1}(G:GuildIs g sz W L Q Y)(i:WaysOk sz W)(h0:1<=sz)(m:sz<=5):(uH g W (L,Q,Y) sz).res=.ok true:=by
 have P:=gj G i;obtain⟨J,D⟩:=C6 (L:=L) (Q:=Q) (Y:=Y) P h0 m;have e:=wV g (by rw[G.count];exact h0) (by rw[G.count];exact m);rw[B0 G i h0 m]at e;have ea:=LO W L Q Y sz g.U P h0 m;have A:rQ ⟨g,W,(L,Q,Y),sz,none,none,none,none,none,none⟩=.nx ⟨g,W,(L,Q,Y),sz,some (fH W L Q Y sz),none,none,none,none,none⟩:=by simp[rQ,e]
 have s2:rP ⟨g,W,(L,Q,Y),sz,some (fH W L Q Y sz),none,none,none,none,none⟩=.nx ⟨g,W,(L,Q,Y),sz,some (fH W L Q Y sz),none,none,none,none,none⟩:=by simp[rP]
 have w:rO ⟨g,W,(L,Q,Y),sz,some (fH W L Q Y sz),none,none,none,none,none⟩=.nx ⟨g,W,(L,Q,Y),sz,some (fH W L Q Y sz),some 1,none,none,none,none⟩:=by simp[rO]
 obtain⟨s',e4,N,x,rfl,l⟩:=bN (u:=λa s=>{s with vfq:=some a}) (c:=mo) (λp (s:S_bl9)=>∃N x,s=⟨g,W,(L,Q,Y),sz,some (fH W L Q Y sz),some N,x,none,none,none⟩/\(sz<=4->0<=N/\N<=4 ^ p.length)) (bK 1 sz) ⟨g,W,(L,Q,Y),sz,some (fH W L Q Y sz),some 1,none,none,none,none⟩ ⟨1,none,rfl,λ_=>by simp⟩ (by
  rintro p h r s B ⟨N,x,rfl,l⟩;have hh:=cp.mp (show h∈bK 1 sz by rw[B];simp);have en:=pM W sz h (by omega) (by omega);have tl:=FB i (h:=h) (by omega);refine⟨⟨g,W,(L,Q,Y),sz,some (fH W L Q Y sz),some (N*(1+(bb W sz h).length)),some h,none,none,none⟩,.inl ?_,_,_,rfl,λh4=>?_⟩
  · have hm:tu N (1+((bb W sz h).length:Int))=.ok (N*(1+(bb W sz h).length)):=by
     unfold tu;rw[if_pos (.inr (by omega))]
    simp[mo,en,hm,-tu]
  · obtain⟨Z,M⟩:=l h4;have H:(0:Int)<=1+(bb W sz h).length:=by omega
    refine⟨Int.mul_nonneg Z H,?_⟩;rw[Xo,Ye,Int.pow_succ]
    exact Int.mul_le_mul M (by omega) H (by omega))
 have t:rN ⟨g,W,(L,Q,Y),sz,some (fH W L Q Y sz),some 1,none,none,none,none⟩=.nx ⟨g,W,(L,Q,Y),sz,some (fH W L Q Y sz),some N,x,none,none,none⟩:=by
  unfold rN;rw[<-e4];simp[cg (lo:=1) (hi:=sz) (by omega) (by omega) (by omega) (by omega)]
 rw[bc]at l
 have go:∀v s,sD ⟨g,W,(L,Q,Y),sz,none,none,none,none,none,none⟩=.rt v s->(uH g W (L,Q,Y) sz).res=.ok v:=λv s h=>by
  unfold uH;rw[h];rfl
 by_cases q:81<N
 · have h5:sz=5:=by
    by_cases z:sz<=4
    · obtain⟨_,M⟩:=l z
      have:(4:Int) ^ (sz-1).toNat<=4 ^ 3:=by
       have:=Y1 (n:=4) (by decide) (show(sz-1).toNat<=3 by omega)
       exact_mod_cast this
      omega
    ·omega
   subst h5;have e5:=LR G i;refine go true ⟨g,W,(L,Q,Y),5,some (fH W L Q Y 5),some N,x,none,none,none⟩ ?_;unfold sD;rw[gM A,gM s2,gM w,gM t];refine rts ?_;simp[nC,nB,q,e5]
 · have K:nC ⟨g,W,(L,Q,Y),sz,some (fH W L Q Y sz),some N,x,none,none,none⟩=.nx ⟨g,W,(L,Q,Y),sz,some (fH W L Q Y sz),some N,x,none,none,none⟩:=by simp[nC,q]
   have I:rM ⟨g,W,(L,Q,Y),sz,some (fH W L Q Y sz),some N,x,none,none,none⟩=.nx ⟨g,W,(L,Q,Y),sz,some (fH W L Q Y sz),some N,x,some (fH W L Q Y sz),none,none⟩:=by simp[rM,ea]
   generalize fH W L Q Y sz=F at J D A s2 w t K I;have X:rL ⟨g,W,(L,Q,Y),sz,some F,some N,x,some F,none,none⟩=.nx ⟨g,W,(L,Q,Y),sz,some F,some N,x,some F,none,none⟩:=by simp[rL]
   have rg:=cg (lo:=0) (hi:=(F.length:Int)) (by omega) (by omega) (by omega) (by omega);have same:∀(k:Int) (h:k.toNat<F.length),(uJ F[k.toNat] F[k.toNat]).res=.ok true:=λk h=>uS _ (by have:=(D _ (YG h)).1.len;omega)
   obtain⟨s',e8,y,rfl⟩:=g6 (u:=λa s=>{s with vhq:=some a}) (c:=ml) (λs:S_bl9=>∃y,s=⟨g,W,(L,Q,Y),sz,some F,some N,x,some F,y,none⟩) (bK 0 F.length) ⟨g,W,(L,Q,Y),sz,some F,some N,x,some F,none,none⟩ ⟨none,rfl⟩ (by
    rintro k s d ⟨y,rfl⟩;have d:=cp.mp d;obtain⟨f,R⟩:=La d.1 d.2;have e:=same k f
    exact⟨⟨g,W,(L,Q,Y),sz,some F,some N,x,some F,some k,none⟩,.inl (by simp[ml,R,e]),_,rfl⟩)
   have V:rK ⟨g,W,(L,Q,Y),sz,some F,some N,x,some F,none,none⟩=.nx ⟨g,W,(L,Q,Y),sz,some F,some N,x,some F,y,none⟩:=by
    unfold rK;rw[<-e8];simp[rg]
   obtain⟨s',e9,b,E,rfl,_,_⟩:=bN (u:=λa s=>{s with vhq:=some a}) (c:=sx) (λp (s:S_bl9)=>∃b y,s=⟨g,W,(L,Q,Y),sz,some b,some N,x,some F,y,none⟩/\b.length=F.length/\∀j,p.length<=j->b[j]?=F[j]?) (bK 0 F.length) ⟨g,W,(L,Q,Y),sz,some F,some N,x,some F,y,none⟩ ⟨F,y,rfl,rfl,λ_ _=>rfl⟩ (by
    rintro p k r s B ⟨b,y,rfl,fl,C⟩;obtain⟨ke,k0,k1⟩:=mV B;obtain⟨f,R⟩:=La (F:=F) k0 k1;have d:b[k.toNat]?=some F[k.toNat]:=by rw[C _ (by omega),Xy f]
    obtain⟨S,_,_⟩:=D _ (YG f)
    have ok:F[k.toNat].all uk=true:=by
     rw[YE];intro o ho;cases o with
     |none=>rfl
     |some r=>
       have:=(S.all r ho).len
       show decide (r.length<am)=true;rw[decide_eq_true_iff];unfold am;omega
    have c1:mj ⟨g,W,(L,Q,Y),sz,some b,some N,x,some F,some k,none⟩=.nx ⟨g,W,(L,Q,Y),sz,some (b.set k.toNat (F[k.toNat].map (Ni 99))),some N,x,some F,some k,none⟩:=by
     unfold mj WI;dsimp only;rw[d];dsimp only;rw[if_pos ⟨k0,ok,rfl⟩]
    refine⟨⟨g,W,(L,Q,Y),sz,some (b.set k.toNat (F[k.toNat].map (Ni 99))),some N,x,some F,some k,none⟩,.inl ?_,_,_,rfl,by rw[Yc];exact fl,λj hj=>?_⟩
    · unfold sx;rw[gM c1];by_cases z:k+1<F.length
      · obtain⟨O,a2⟩:=La (F:=F) (k:=k+1) (by omega) z;have e:=same (k+1) O
        have a3:nJ (b.set k.toNat (F[k.toNat].map (Ni 99))) (k+1)=some F[(k+1).toNat]:=by
         rw[kS _ (by omega),Yu (by omega),C _ (by omega),Xy O]
        simp[mf,z,a2,a3,e]
      ·simp[mf,z]
    · rw[Xo,Ye]at hj
      rw[Yu (by omega),C _ (by omega)])
   have T:rH ⟨g,W,(L,Q,Y),sz,some F,some N,x,some F,y,none⟩=.nx ⟨g,W,(L,Q,Y),sz,some b,some N,x,some F,E,none⟩:=by
    unfold rH;rw[<-e9];simp[rg]
   refine go true ⟨g,W,(L,Q,Y),sz,some b,some N,x,some F,E,none⟩ ?_;unfold sD;rw[gM A,gM s2,gM w,gM t,gM K,gM I,gM X,gM V,gM T];simp[uA]
theorem EG(sz:Int)(h0:6<=sz)(g:sz<=60):(Ec sz).res=.ok true:=by
 have b:=pO ⟨sz,[],[],[],[]⟩
 have d:(pF ⟨sz,[],[],[],[]⟩).res=.exc 16:=by
  have z:5<sz:=by omega
  unfold pF wz nz ny;simp[b,z,jm]
 have a:1<=sz/\sz<=60:=by omega
 have c:mk_Guild sz=.ok ⟨sz,[],[],[],[]⟩:=by unfold mk_Guild;rw[if_pos a]
 have f:rE ⟨sz,some false,none⟩=.nx ⟨sz,some true,none⟩:=by
  have e:(cH (aW (kh pF (HK (Mj mk_Guild (pC (·.vCq)))))):S_bm9->FlC S_bm9 Bool) ⟨sz,some false,none⟩=.exc 16 ⟨sz,some false,none⟩:=by
   simp[HK,c,d]
  unfold rE Lw;rw[e];dsimp only;rw[if_pos ⟨rfl,rfl⟩];simp[Vo]
  try rfl
 unfold Ec Bu;rw[gM (show rF _=.nx ⟨sz,some false,none⟩ by simp[rF]),gM f];simp[yN]
theorem Fw{sz:Int}{W:P1}{q:Int×Int}(h:WaysOk sz W)(c:W.length<=9000)(a:0<=q.1/\q.1<q.2/\q.2<sz)(b:q∉W):WaysOk sz (W++[q]):=
 ⟨jq h.nd b,λp hp=>by
  rcases XE.mp hp with z|z
  ·exact h.all p z
  ·rw[Xz.mp z];exact a,by rw[Xo,Ye];omega⟩
theorem Fv{sz:Int}{W:P1}(h:WaysOk sz W)(h0:0<=sz)(l:sz<=5):W.length<=25:=by
 have nd:(W.map λp=>p.1*5+p.2).Nodup:=by
  refine List.Pairwise.map _ (R:=λa b=>a≠b/\a∈W/\b∈W) (λa b f e=>?_) (h.nd.imp_of_mem λg d c=>⟨c,g,d⟩);obtain⟨c,g,d⟩:=f;have n:=h.all a g;have m:=h.all b d;have k:a.1=b.1:=by omega
  have j:a.2=b.2:=by omega
  exact c (Prod.ext k j)
 have:=dN 25 _ nd λx i=>by
  obtain⟨p,hp,rfl⟩:=X5.mp i
  have:=h.all p hp
  omega
 rwa [on]at this
theorem Je{g:GΩ}{sz:Int}{W:P1}{L Q:DI Int}{Y:P1}(G:GuildIs g sz W L Q Y)(k:List Int)(v:Int):GuildIs {g with lω:=g.lω.put k v} sz W (L.put k v) Q Y:=
 ⟨G.count,G.way,λj=>by rw[la,la,G.lik],G.wsh,G.shn⟩
theorem Bf(ns:List Int):∃s,Nx ns=.ok true s:=by
 have cell:∀k:Int,0<=k->(nO ns k).res=.ok (fU ns k):=LV ns;obtain⟨f,hf⟩:∃f,f=fU ns 0:=⟨_,rfl⟩;have e1:v3 ⟨ns,none,none,none,none,none,none,none,none,none,none,none⟩=.nx ⟨ns,some f,none,none,none,none,none,none,none,none,none,none⟩:=by simp[v3,cell,hf]
 have r:∀v s,zr ⟨ns,none,none,none,none,none,none,none,none,none,none,none⟩=.rt v s->Nx ns=.ok v s:=λv s h=>by
  unfold Nx;rw[h];rfl
 by_cases q:f / 4%8=5
 ·have m:=EG (6+f / 32%55) (by omega) (by omega);refine⟨_,r true ⟨ns,some f,none,none,none,none,none,none,none,none,none,none⟩ ?_⟩;unfold zr;rw[gM e1];refine rts ?_;simp[p5,pw,q,m]
 have e2:p5 ⟨ns,some f,none,none,none,none,none,none,none,none,none,none⟩=.nx ⟨ns,some f,none,none,none,none,none,none,none,none,none,none⟩:=by simp[p5,q]
 have e3:vZ ⟨ns,some f,none,none,none,none,none,none,none,none,none,none⟩=.nx ⟨ns,some f,some (1+f%4),none,none,none,none,none,none,none,none,none⟩:=by simp[vZ]
 obtain⟨sz,e4,h0,I⟩:∃sz,pZ ⟨ns,some f,some (1+f%4),none,none,none,none,none,none,none,none,none⟩=.nx ⟨ns,some f,some sz,none,none,none,none,none,none,none,none,none⟩/\1<=sz/\sz<=5:=by
  by_cases z:f / 4%4=2
  ·exact⟨5,by simp[pZ,pq,z],by omega,by omega⟩
  ·exact⟨1+f%4,by simp[pZ,z],by omega,by omega⟩
 obtain⟨W,ew,hW⟩:=LH (fU ns 1) sz (by omega) (by omega);obtain⟨i,ef,lf,nf,pf⟩:=LQ (fU ns 2) sz (by omega);obtain⟨j,ed,ld,nd,T⟩:=LU (fU ns 3) sz (by omega) (by omega);obtain⟨sh,es,ls,C,A⟩:=Pa (fU ns 4) sz (by omega);have e5:vY ⟨ns,some f,some sz,none,none,none,none,none,none,none,none,none⟩=.nx ⟨ns,some f,some sz,some W,none,none,none,none,none,none,none,none⟩:=by simp[vY,cell,ew]
 have e6:vX ⟨ns,some f,some sz,some W,none,none,none,none,none,none,none,none⟩=.nx ⟨ns,some f,some sz,some W,some i,none,none,none,none,none,none,none⟩:=by simp[vX,cell,ef]
 have e7:vW ⟨ns,some f,some sz,some W,some i,none,none,none,none,none,none,none⟩=.nx ⟨ns,some f,some sz,some W,some i,some j,none,none,none,none,none,none⟩:=by simp[vW,cell,ed]
 have e8:vV ⟨ns,some f,some sz,some W,some i,some j,none,none,none,none,none,none⟩=.nx ⟨ns,some f,some sz,some W,some i,some j,some sh,none,none,none,none,none⟩:=by simp[vV,cell,es]
 obtain⟨V,d,x,e9,n,ld',D,B⟩:∃V d x,nw ⟨ns,some f,some sz,some W,some i,some j,some sh,none,none,none,none,none⟩=.nx ⟨ns,some f,some sz,some V,some i,some d,some sh,x,none,none,none,none⟩/\WaysOk sz V/\d.length<=6/\DI.nd d/\∀p∈d,RoadOk sz p.1:=by
  by_cases z:fU ns 7 / 4%4=1/\2<sz
  · obtain⟨o,y⟩:=z
    obtain⟨s',e,V,x,rfl,n⟩:=g6 (u:=λa s=>{s with vpq:=some a}) (c:=f8) (λs:S_r9=>∃V x,s=⟨ns,some f,some sz,some V,some i,some j,some sh,x,none,none,none,none⟩/\WaysOk sz V) [((0:Int),(1:Int)),(0,2),(1,2)] ⟨ns,some f,some sz,some W,some i,some j,some sh,none,none,none,none,none⟩ ⟨W,none,rfl,hW⟩ (by
     rintro p s hp ⟨V,x,rfl,n⟩
     have hq:0<=p.1/\p.1<p.2/\p.2<sz:=by
      simp at hp;rcases hp with rfl|rfl|rfl<;>dsimp only<;>omega
     have vl:=Fv n (by omega) I;by_cases w:p∈V
     ·exact⟨⟨ns,some f,some sz,some V,some i,some j,some sh,some p,none,none,none,none⟩,.inl (by simp[f8,w]),V,some p,rfl,n⟩
     · have R:=ia (l:=V) (x:=p) (by unfold am;omega)
       exact⟨⟨ns,some f,some sz,some (V++[p]),some i,some j,some sh,some p,none,none,none,none⟩,.inl (by simp[f8,iw,w,R]),V++[p],some p,rfl,Fw n (by omega) hq w⟩)
    have r1:RoadOk sz [1,2,0]:=⟨by simp,rfl,by decide,λx E=>by simp at E;omega⟩;have r2:RoadOk sz [2,1,0]:=⟨by simp,rfl,by decide,λx E=>by simp at E;omega⟩;have l1:=fX (F:=j) (k:=[1,2,0]) (v:=9);have l2:=fX (F:=j.put [1,2,0] 9) (k:=[2,1,0]) (v:=9);refine⟨V,(j.put [1,2,0] 9).put [2,1,0] 9,x,?_,n,by omega,jr (jr nd),gF (P:=RoadOk sz) (gF (P:=RoadOk sz) T r1) r2⟩;have k1:j.length<1000000:=by omega
    have k2:(j.put [1,2,0] 9).length<1000000:=by omega
    unfold nw pp;simp[cell,o,y,am,e,ph,pe,k1,k2]
  · refine⟨W,j,none,?_,hW,by omega,nd,T⟩;by_cases o:fU ns 7 / 4%4=1
    ·have y:¬ 2<sz:=λw=>z ⟨o,w⟩;simp[nw,cell,o,y]
    ·simp[nw,cell,o]
 have Q:rp ⟨ns,some f,some sz,some V,some i,some d,some sh,x,none,none,none,none⟩=.nx ⟨ns,some f,some sz,some V,some i,some d,some sh,x,none,none,none,none⟩:=by
  unfold rp B7;exact if_pos rfl
 obtain⟨g,eg,t,few,_⟩:=Ep (sz:=sz) (U:=V) (Z:=i) (Y:=d) (X:=sh) ⟨⟨by omega,by omega⟩,n,⟨by omega,nf,pf⟩,⟨by omega,D,B⟩,⟨by omega,C,A⟩⟩;have O:ro ⟨ns,some f,some sz,some V,some i,some d,some sh,x,none,none,none,none⟩=.nx ⟨ns,some f,some sz,some V,some i,some d,some sh,x,none,some g,none,none⟩:=by simp[ro,eg]
 have t1:=tJ t n (by omega) I;have N:rn ⟨ns,some f,some sz,some V,some i,some d,some sh,x,none,some g,none,none⟩=.nx ⟨ns,some f,some sz,some V,some i,some d,some sh,x,none,some g,none,none⟩:=by simp[rn,t1]
 obtain⟨a,H⟩:∃a,a=fU ns 5%sz:=⟨_,rfl⟩;obtain⟨b,G⟩:∃b,b=fU ns 6%sz:=⟨_,rfl⟩;have R:0<=a/\a<sz:=⟨by rw[H];exact X6 _ (by omega),by rw[H];exact XW _ (by omega)⟩;have b1:0<=b/\b<sz:=⟨by rw[G];exact X6 _ (by omega),by rw[G];exact XW _ (by omega)⟩;have S:0<sz:=by omega
 have M:rk ⟨ns,some f,some sz,some V,some i,some d,some sh,x,none,some g,none,none⟩=.nx ⟨ns,some f,some sz,some V,some i,some d,some sh,x,none,some g,some a,none⟩:=by simp[rk,cell,S,H]
 have L:rj ⟨ns,some f,some sz,some V,some i,some d,some sh,x,none,some g,some a,none⟩=.nx ⟨ns,some f,some sz,some V,some i,some d,some sh,x,none,some g,some a,some b⟩:=by simp[rj,cell,S,G]
 obtain⟨v,hv⟩:∃v,v=1+fU ns 7%4:=⟨_,rfl⟩;have el:=BY g a b v (by rw[t.count];exact R) (by rw[t.count];exact b1) (by have:=few.2.1;unfold am;omega)
 have K:ri ⟨ns,some f,some sz,some V,some i,some d,some sh,x,none,some g,some a,some b⟩=.nx ⟨ns,some f,some sz,some V,some i,some d,some sh,x,none,some {g with lω:=g.lω.put [a,b] v},some a,some b⟩:=by
  rw[hv]at el ⊢;simp[ri,cell,el]
 have J:rh ⟨ns,some f,some sz,some V,some i,some d,some sh,x,none,some {g with lω:=g.lω.put [a,b] v},some a,some b⟩=.nx ⟨ns,some f,some sz,some V,some (i.put [a,b] v),some d,some sh,x,none,some {g with lω:=g.lω.put [a,b] v},some a,some b⟩:=by
  have k1:i.length<am:=by unfold am;omega
  rw[hv];simp[rh,cell,k1]
 have t2:=tJ (Je t [a,b] v) n (by omega) I;refine⟨_,r true ⟨ns,some f,some sz,some V,some (i.put [a,b] v),some d,some sh,x,none,some {g with lω:=g.lω.put [a,b] v},some a,some b⟩ ?_⟩;unfold zr;rw[gM e1,gM e2,gM e3,gM e4,gM e5,gM e6,gM e7,gM e8,gM e9,gM Q,gM O,gM N,gM M,gM L,gM K,gM J];simp[yl,t2]
theorem JD(ns:List Int)(a:ns.length<=63):∃T,m_r9 [.scr (ns.map D.int)]=.ok (.bl true) T:=by
 obtain⟨s,e⟩:=Bf ns
 have:=V5 ns
 rw[e]at this;exact⟨_,this⟩
end K22
namespace K22
open PySem L2
theorem cG{K:L0}{x q:Str}{st s2:Stmt}{f:Addr}(h:HD.fnO K f q=HD.fnE x q st)(e:st=s2):∃d,Fun K x q s2 f d:=by
 subst e;have b:=HD.fn_keep h;obtain⟨oc,n,kV,k,pm,an,m,ct,a,l,c⟩:=HD.fn_of h;have j:HD.dA st=nr st:=by cases st<;>rfl
 have i:HD.dB st=dh st:=by cases st<;>rfl
 have g:HD.dS st=ao st:=by cases st<;>rfl
 rw[j,i,g]at l;exact⟨_,Ry l c b⟩
def WP:Tns:=[]
theorem SI{w:World}{K:L0}{h:Heap}{mg:Str->Option Value}{T:Tbs}{o:Addr}(X:K.In h)(G:h.Ns mainGlobals mg)(n:mg "law" = some (.ref o))(TO:TabsOf mg h WP T)(y:HD.obK Uy UB Vl VY Vu Vr Vf K=S7 PySem.Challenge.pw_heraldways_k22_whole_all_settled_tables):∃fd:FuncData,(∀(s:Shared) (v:Value),BindsTo s fd ⟨[v],[]⟩ [("script",v)])/\∀base:Heap,K.In base->base.Ns mainGlobals mg->(∀c P,PySem.W.CodeHd h c P->PySem.W.CodeHd base c P)->FnOk PySem.Challenge.rw_heraldways_k22_whole_all_settled_tables.prog w K mg base Xi 10 o fd ["script"] (Mi.spT K T):=by
 have b:=congrArg (·.1) y;have f:=congrArg (·.2.1) y;have g:=congrArg (·.2.2.1) y;have d:=congrArg (·.2.2.2.1) y;have m:=congrArg (·.2.2.2.2.1) y;have q:=congrArg (·.2.2.2.2.2) y;clear y;have e:=n.symm.trans (Xs X G (HD.nth b 37 rfl rfl));cases e;obtain⟨d_a9,F_a9⟩:=cG (s2:=PU) (HD.nth d 0 rfl rfl) rfl;obtain⟨d_b9,F_b9⟩:=cG (s2:=Gy) (HD.nth d 1 rfl rfl) rfl;obtain⟨d_l9,F_l9⟩:=cG (s2:=L6) (HD.nth d 2 rfl rfl) rfl;obtain⟨d_m9,F_m9⟩:=cG (s2:=Pz) (HD.nth d 3 rfl rfl) rfl;obtain⟨d_u9,F_u9⟩:=cG (s2:=Pu) (HD.nth d 4 rfl rfl) rfl;obtain⟨d_x9,F_x9⟩:=cG (s2:=Pr) (HD.nth d 5 rfl rfl) rfl;obtain⟨d_y9,F_y9⟩:=cG (s2:=Pq) (HD.nth d 6 rfl rfl) rfl;obtain⟨d_bb9,F_bb9⟩:=cG (s2:=Gv) (HD.nth d 7 rfl rfl) rfl;obtain⟨d_bc9,F_bc9⟩:=cG (s2:=Gu) (HD.nth d 8 rfl rfl) rfl;obtain⟨d_bd9,F_bd9⟩:=cG (s2:=xi) (HD.nth d 9 rfl rfl) rfl;obtain⟨d_bi9,F_bi9⟩:=cG (s2:=Gp) (HD.nth d 10 rfl rfl) rfl;obtain⟨d_bk9,F_bk9⟩:=cG (s2:=xg) (HD.nth d 11 rfl rfl) rfl;obtain⟨d_bn9,F_bn9⟩:=cG (s2:=Gk) (HD.nth d 12 rfl rfl) rfl;obtain⟨d_bo9,F_bo9⟩:=cG (s2:=Gj) (HD.nth d 13 rfl rfl) rfl;obtain⟨d_o9,F_o9⟩:=cG (s2:=Px) (HD.nth d 14 rfl rfl) rfl;obtain⟨d_bq9,F_bq9⟩:=cG (s2:=xf) (HD.nth d 15 rfl rfl) rfl;obtain⟨d_bs9,F_bs9⟩:=cG (s2:=Gg) (HD.nth d 16 rfl rfl) rfl;obtain⟨d_bt9,F_bt9⟩:=cG (s2:=Gf) (HD.nth d 17 rfl rfl) rfl;obtain⟨d_bv9,F_bv9⟩:=cG (s2:=B8) (HD.nth d 18 rfl rfl) rfl;obtain⟨d_h9,F_h9⟩:=cG (s2:=PH) (HD.nth d 19 rfl rfl) rfl;obtain⟨d_t9,F_t9⟩:=cG (s2:=L5) (HD.nth d 20 rfl rfl) rfl;obtain⟨d_v9,F_v9⟩:=cG (s2:=Pt) (HD.nth d 21 rfl rfl) rfl;obtain⟨d_be9,F_be9⟩:=cG (s2:=Gs) (HD.nth d 22 rfl rfl) rfl;obtain⟨d_bf9,F_bf9⟩:=cG (s2:=Gr) (HD.nth d 23 rfl rfl) rfl;obtain⟨d_bp9,F_bp9⟩:=cG (s2:=Gi) (HD.nth d 24 rfl rfl) rfl;obtain⟨d_br9,F_br9⟩:=cG (s2:=Gh) (HD.nth d 25 rfl rfl) rfl;obtain⟨d_by9,F_by9⟩:=cG (s2:=xc) (HD.nth d 26 rfl rfl) rfl;obtain⟨d_d9,F_d9⟩:=cG (s2:=PQ) (HD.nth d 27 rfl rfl) rfl;obtain⟨d_e9,F_e9⟩:=cG (s2:=PP) (HD.nth d 28 rfl rfl) rfl;obtain⟨d_f9,F_f9⟩:=cG (s2:=PN) (HD.nth d 29 rfl rfl) rfl;obtain⟨d_i9,F_i9⟩:=cG (s2:=PF) (HD.nth d 30 rfl rfl) rfl;obtain⟨d_j9,F_j9⟩:=cG (s2:=PD) (HD.nth d 31 rfl rfl) rfl;obtain⟨d_z9,F_z9⟩:=cG (s2:=Ew) (HD.nth d 32 rfl rfl) rfl;obtain⟨d_bg9,F_bg9⟩:=cG (s2:=Gq) (HD.nth d 33 rfl rfl) rfl;obtain⟨d_bh9,F_bh9⟩:=cG (s2:=xh) (HD.nth d 34 rfl rfl) rfl;obtain⟨d_bj9,F_bj9⟩:=cG (s2:=Go) (HD.nth d 35 rfl rfl) rfl;obtain⟨d_c9,F_c9⟩:=cG (s2:=PR) (HD.nth d 36 rfl rfl) rfl;obtain⟨d_g9,F_g9⟩:=cG (s2:=PL) (HD.nth d 37 rfl rfl) rfl;obtain⟨d_k9,F_k9⟩:=cG (s2:=PB) (HD.nth d 38 rfl rfl) rfl;obtain⟨d_n9,F_n9⟩:=cG (s2:=Py) (HD.nth d 39 rfl rfl) rfl;obtain⟨d_s9,F_s9⟩:=cG (s2:=Ey) (HD.nth d 40 rfl rfl) rfl;obtain⟨d_w9,F_w9⟩:=cG (s2:=Ps) (HD.nth d 41 rfl rfl) rfl;obtain⟨d_bu9,F_bu9⟩:=cG (s2:=Ge) (HD.nth d 42 rfl rfl) rfl;obtain⟨d_ba9,F_ba9⟩:=cG (s2:=Gx) (HD.nth d 43 rfl rfl) rfl;obtain⟨d_bx9,F_bx9⟩:=cG (s2:=Gb) (HD.nth d 44 rfl rfl) rfl;obtain⟨d_p9,F_p9⟩:=cG (s2:=F7) (HD.nth d 45 rfl rfl) rfl;obtain⟨d_q9,F_q9⟩:=cG (s2:=F6) (HD.nth d 46 rfl rfl) rfl;obtain⟨d_bw9,F_bw9⟩:=cG (s2:=Gc) (HD.nth d 47 rfl rfl) rfl;obtain⟨d_bl9,F_bl9⟩:=cG (s2:=Gn) (HD.nth d 48 rfl rfl) rfl;obtain⟨d_bm9,F_bm9⟩:=cG (s2:=Gm) (HD.nth d 49 rfl rfl) rfl;obtain⟨d_r9,F_r9⟩:=cG (s2:=Pw) (HD.nth d 50 rfl rfl) rfl;obtain⟨j,l,i,mk_Guild,k⟩:=HD.cls_of (HD.nth g 14 rfl rfl)
 have C:∀(s:Shared) (v:Value),BindsTo s d_r9 ⟨[v],[]⟩ [("script",v)]:=by
  obtain⟨oc,L,kV,D,pm,an,F,ct,r,rfl,lk,B⟩:=F_r9.ex;exact λs v=>.of_eq rfl
 refine⟨d_r9,C,λbase _ _ J=>?_⟩
 have I:Txt K mg ⟨228,31,44,56,68,80,103,d_a9,192,d_b9,204,d_l9,110,d_m9,313,d_u9,417,d_x9,365,d_y9,346,d_bb9,403,d_bc9,339,d_bd9,379,d_bi9,391,d_bk9,358,d_bn9,320,d_bo9,270,d_o9,306,d_bq9,89,d_bs9,301,d_bt9,289,d_bv9,211,d_h9,351,d_t9,372,d_v9,410,d_be9,327,d_bf9,263,d_bp9,251,d_br9,294,d_by9,145,d_d9,152,d_e9,117,d_f9,225,d_i9,218,d_j9,427,d_z9,334,d_bg9,396,d_bh9,434,d_bj9,131,d_c9,187,d_g9,159,d_k9,173,d_n9,422,d_s9,441,d_w9,284,d_bu9,386,d_ba9,244,d_bx9,256,d_p9,237,d_q9,277,d_bw9,455,d_bl9,448,d_bm9,462,d_r9⟩ base:={
  cl_Guild:=⟨j,l,i,HD.nth f 14 rfl rfl⟩
  mgC_Guild:=Xs X G (HD.nth b 0 rfl rfl)
  mk_Guild:=⟨mk_Guild,HD.nth f 0 rfl rfl,HD.nth g 0 rfl rfl,k⟩
  n_house_count:=HD.nth f 15 rfl rfl
  n_ways:=HD.nth f 16 rfl rfl
  n_likings:=HD.nth f 17 rfl rfl
  n_shuns:=HD.nth f 18 rfl rfl
  n_wish_ranks:=HD.nth f 19 rfl rfl
  mgC_GuildError:=Xs X G (HD.nth b 53 rfl rfl)
  ek_GuildError:=(XU.mp (YD (HD.nth m 0 rfl rfl)).1).1
  xa_GuildError:=(XU.mp (YD (HD.nth m 0 rfl rfl)).1).2
  mgC_NoHouse:=Xs X G (HD.nth b 54 rfl rfl)
  ek_NoHouse:=(XU.mp (YD (HD.nth m 1 rfl rfl)).1).1
  xa_NoHouse:=(XU.mp (YD (HD.nth m 1 rfl rfl)).1).2
  mgC_WayThere:=Xs X G (HD.nth b 55 rfl rfl)
  ek_WayThere:=(XU.mp (YD (HD.nth m 2 rfl rfl)).1).1
  xa_WayThere:=(XU.mp (YD (HD.nth m 2 rfl rfl)).1).2
  mgC_NoRoad:=Xs X G (HD.nth b 56 rfl rfl)
  ek_NoRoad:=(XU.mp (YD (HD.nth m 3 rfl rfl)).1).1
  xa_NoRoad:=(XU.mp (YD (HD.nth m 3 rfl rfl)).1).2
  mgC_TooMany:=Xs X G (HD.nth b 57 rfl rfl)
  ek_TooMany:=(XU.mp (YD (HD.nth m 4 rfl rfl)).1).1
  xa_TooMany:=(XU.mp (YD (HD.nth m 4 rfl rfl)).1).2
  sb_TooMany_TooMany:=by rw[show qF K 80=_ from(YD (HD.nth m 4 rfl rfl)).2];rfl
  kt_TooMany_GuildError:=HD.nth q 0 rfl rfl
  F_a9:=F_a9
  b_a9:=F_a9.binds λ_ _ _ _ _ _=>L2.dQ λ_ _=>rfl
  F_b9:=F_b9
  b_b9:=F_b9.binds λ_ _ _ _ _ _=>L2.gp λ_ _ _=>rfl
  me_b9:=⟨HD.nth f 1 rfl rfl,HD.nth g 1 rfl rfl,F_b9.kp⟩
  F_l9:=F_l9
  b_l9:=F_l9.binds λ_ _ _ _ _ _=>L2.gp λ_ _ _=>rfl
  me_l9:=⟨HD.nth f 2 rfl rfl,HD.nth g 2 rfl rfl,F_l9.kp⟩
  F_m9:=F_m9
  b_m9:=F_m9.binds λ_ _ _ _ _ _=>L2.lJ λ_=>rfl
  me_m9:=⟨HD.nth f 3 rfl rfl,HD.nth g 3 rfl rfl,F_m9.kp⟩
  F_u9:=F_u9
  b_u9:=F_u9.binds λ_ _ _ _ _ _=>L2.dQ λ_ _=>rfl
  m_u9:=Xs X G (HD.nth b 1 rfl rfl)
  F_x9:=F_x9
  b_x9:=F_x9.binds λ_ _ _ _ _ _=>L2.dQ λ_ _=>rfl
  m_x9:=Xs X G (HD.nth b 2 rfl rfl)
  F_y9:=F_y9
  b_y9:=F_y9.binds λ_ _ _ _ _ _=>L2.dQ λ_ _=>rfl
  m_y9:=Xs X G (HD.nth b 3 rfl rfl)
  F_bb9:=F_bb9
  b_bb9:=F_bb9.binds λ_ _ _ _ _ _=>L2.gp λ_ _ _=>rfl
  m_bb9:=Xs X G (HD.nth b 4 rfl rfl)
  F_bc9:=F_bc9
  b_bc9:=F_bc9.binds λ_ _ _ _ _ _=>L2.lJ λ_=>rfl
  m_bc9:=Xs X G (HD.nth b 5 rfl rfl)
  F_bd9:=F_bd9
  b_bd9:=F_bd9.binds λ_ _ _ _ _ _=>L2.gp λ_ _ _=>rfl
  m_bd9:=Xs X G (HD.nth b 6 rfl rfl)
  F_bi9:=F_bi9
  b_bi9:=F_bi9.binds λ_ _ _ _ _ _=>L2.dQ λ_ _=>rfl
  m_bi9:=Xs X G (HD.nth b 7 rfl rfl)
  F_bk9:=F_bk9
  b_bk9:=F_bk9.binds λ_ _ _ _ _ _=>L2.gp λ_ _ _=>rfl
  m_bk9:=Xs X G (HD.nth b 8 rfl rfl)
  F_bn9:=F_bn9
  b_bn9:=F_bn9.binds λ_ _ _ _ _ _=>L2.dQ λ_ _=>rfl
  m_bn9:=Xs X G (HD.nth b 9 rfl rfl)
  F_bo9:=F_bo9
  b_bo9:=F_bo9.binds λ_ _ _ _ _ _=>L2.lJ λ_=>rfl
  m_bo9:=Xs X G (HD.nth b 10 rfl rfl)
  F_o9:=F_o9
  b_o9:=F_o9.binds λ_ _ _ _ _ _=>L2.dQ λ_ _=>rfl
  m_o9:=Xs X G (HD.nth b 11 rfl rfl)
  F_bq9:=F_bq9
  b_bq9:=F_bq9.binds λ_ _ _ _ _ _=>L2.lJ λ_=>rfl
  m_bq9:=Xs X G (HD.nth b 12 rfl rfl)
  F_bs9:=F_bs9
  b_bs9:=F_bs9.binds λ_ _ _ _ _ _=>L2.dQ λ_ _=>rfl
  m_bs9:=Xs X G (HD.nth b 13 rfl rfl)
  F_bt9:=F_bt9
  b_bt9:=F_bt9.binds λ_ _ _ _ _ _=>L2.dQ λ_ _=>rfl
  m_bt9:=Xs X G (HD.nth b 14 rfl rfl)
  F_bv9:=F_bv9
  b_bv9:=F_bv9.binds λ_ _ _ _ _ _=>L2.dQ λ_ _=>rfl
  m_bv9:=Xs X G (HD.nth b 15 rfl rfl)
  F_h9:=F_h9
  b_h9:=F_h9.binds λ_ _ _ _ _ _=>L2.dQ λ_ _=>rfl
  me_h9:=⟨HD.nth f 4 rfl rfl,HD.nth g 4 rfl rfl,F_h9.kp⟩
  F_t9:=F_t9
  b_t9:=F_t9.binds λ_ _ _ _ _ _=>L2.OH λ_ _ _ _ _=>rfl
  m_t9:=Xs X G (HD.nth b 16 rfl rfl)
  F_v9:=F_v9
  b_v9:=F_v9.binds λ_ _ _ _ _ _=>L2.dQ λ_ _=>rfl
  m_v9:=Xs X G (HD.nth b 17 rfl rfl)
  F_be9:=F_be9
  b_be9:=F_be9.binds λ_ _ _ _ _ _=>L2.dQ λ_ _=>rfl
  m_be9:=Xs X G (HD.nth b 18 rfl rfl)
  F_bf9:=F_bf9
  b_bf9:=F_bf9.binds λ_ _ _ _ _ _=>L2.dQ λ_ _=>rfl
  m_bf9:=Xs X G (HD.nth b 19 rfl rfl)
  F_bp9:=F_bp9
  b_bp9:=F_bp9.binds λ_ _ _ _ _ _=>L2.gp λ_ _ _=>rfl
  m_bp9:=Xs X G (HD.nth b 20 rfl rfl)
  F_br9:=F_br9
  b_br9:=F_br9.binds λ_ _ _ _ _ _=>L2.dQ λ_ _=>rfl
  m_br9:=Xs X G (HD.nth b 21 rfl rfl)
  F_by9:=F_by9
  b_by9:=F_by9.binds λ_ _ _ _ _ _=>L2.lJ λ_=>rfl
  m_by9:=Xs X G (HD.nth b 22 rfl rfl)
  F_d9:=F_d9
  b_d9:=F_d9.binds λ_ _ _ _ _ _=>L2.Jf λ_ _ _ _=>rfl
  me_d9:=⟨HD.nth f 5 rfl rfl,HD.nth g 5 rfl rfl,F_d9.kp⟩
  F_e9:=F_e9
  b_e9:=F_e9.binds λ_ _ _ _ _ _=>L2.gp λ_ _ _=>rfl
  me_e9:=⟨HD.nth f 6 rfl rfl,HD.nth g 6 rfl rfl,F_e9.kp⟩
  F_f9:=F_f9
  b_f9:=F_f9.binds λ_ _ _ _ _ _=>L2.dQ λ_ _=>rfl
  me_f9:=⟨HD.nth f 7 rfl rfl,HD.nth g 7 rfl rfl,F_f9.kp⟩
  F_i9:=F_i9
  b_i9:=F_i9.binds λ_ _ _ _ _ _=>L2.dQ λ_ _=>rfl
  me_i9:=⟨HD.nth f 8 rfl rfl,HD.nth g 8 rfl rfl,F_i9.kp⟩
  F_j9:=F_j9
  b_j9:=F_j9.binds λ_ _ _ _ _ _=>L2.gp λ_ _ _=>rfl
  me_j9:=⟨HD.nth f 9 rfl rfl,HD.nth g 9 rfl rfl,F_j9.kp⟩
  F_z9:=F_z9
  b_z9:=F_z9.binds λ_ _ _ _ _ _=>L2.gp λ_ _ _=>rfl
  m_z9:=Xs X G (HD.nth b 23 rfl rfl)
  F_bg9:=F_bg9
  b_bg9:=F_bg9.binds λ_ _ _ _ _ _=>L2.dQ λ_ _=>rfl
  m_bg9:=Xs X G (HD.nth b 24 rfl rfl)
  F_bh9:=F_bh9
  b_bh9:=F_bh9.binds λ_ _ _ _ _ _=>L2.gp λ_ _ _=>rfl
  m_bh9:=Xs X G (HD.nth b 25 rfl rfl)
  F_bj9:=F_bj9
  b_bj9:=F_bj9.binds λ_ _ _ _ _ _=>L2.dQ λ_ _=>rfl
  m_bj9:=Xs X G (HD.nth b 26 rfl rfl)
  F_c9:=F_c9
  b_c9:=F_c9.binds λ_ _ _ _ _ _=>L2.gp λ_ _ _=>rfl
  me_c9:=⟨HD.nth f 10 rfl rfl,HD.nth g 10 rfl rfl,F_c9.kp⟩
  F_g9:=F_g9
  b_g9:=F_g9.binds λ_ _ _ _ _ _=>L2.dQ λ_ _=>rfl
  me_g9:=⟨HD.nth f 11 rfl rfl,HD.nth g 11 rfl rfl,F_g9.kp⟩
  F_k9:=F_k9
  b_k9:=F_k9.binds λ_ _ _ _ _ _=>L2.gp λ_ _ _=>rfl
  me_k9:=⟨HD.nth f 12 rfl rfl,HD.nth g 12 rfl rfl,F_k9.kp⟩
  F_n9:=F_n9
  b_n9:=F_n9.binds λ_ _ _ _ _ _=>L2.gp λ_ _ _=>rfl
  me_n9:=⟨HD.nth f 13 rfl rfl,HD.nth g 13 rfl rfl,F_n9.kp⟩
  F_s9:=F_s9
  b_s9:=F_s9.binds λ_ _ _ _ _ _=>L2.gp λ_ _ _=>rfl
  m_s9:=Xs X G (HD.nth b 27 rfl rfl)
  F_w9:=F_w9
  b_w9:=F_w9.binds λ_ _ _ _ _ _=>L2.gp λ_ _ _=>rfl
  m_w9:=Xs X G (HD.nth b 28 rfl rfl)
  F_bu9:=F_bu9
  b_bu9:=F_bu9.binds λ_ _ _ _ _ _=>L2.lJ λ_=>rfl
  m_bu9:=Xs X G (HD.nth b 29 rfl rfl)
  F_ba9:=F_ba9
  b_ba9:=F_ba9.binds λ_ _ _ _ _ _=>L2.OH λ_ _ _ _ _=>rfl
  m_ba9:=Xs X G (HD.nth b 30 rfl rfl)
  F_bx9:=F_bx9
  b_bx9:=F_bx9.binds λ_ _ _ _ _ _=>L2.dQ λ_ _=>rfl
  m_bx9:=Xs X G (HD.nth b 31 rfl rfl)
  F_p9:=F_p9
  b_p9:=F_p9.binds λ_ _ _ _ _ _=>L2.gp λ_ _ _=>rfl
  m_p9:=Xs X G (HD.nth b 32 rfl rfl)
  F_q9:=F_q9
  b_q9:=F_q9.binds λ_ _ _ _ _ _=>L2.dQ λ_ _=>rfl
  m_q9:=Xs X G (HD.nth b 33 rfl rfl)
  F_bw9:=F_bw9
  b_bw9:=F_bw9.binds λ_ _ _ _ _ _=>L2.lJ λ_=>rfl
  m_bw9:=Xs X G (HD.nth b 34 rfl rfl)
  F_bl9:=F_bl9
  b_bl9:=F_bl9.binds λ_ _ _ _ _ _=>L2.Jf λ_ _ _ _=>rfl
  m_bl9:=Xs X G (HD.nth b 35 rfl rfl)
  F_bm9:=F_bm9
  b_bm9:=F_bm9.binds λ_ _ _ _ _ _=>L2.lJ λ_=>rfl
  m_bm9:=Xs X G (HD.nth b 36 rfl rfl)
  F_r9:=F_r9
  b_r9:=F_r9.binds λ_ _ _ _ _ _=>L2.lJ λ_=>rfl
  m_r9:=Xs X G (HD.nth b 37 rfl rfl)
  g_SEAT:=⟨_,Xs X G (HD.nth b 38 rfl rfl)⟩
  g_MOST_HOUSES:=⟨_,Xs X G (HD.nth b 39 rfl rfl)⟩
  g_MOST_FOR_TABLES:=⟨_,Xs X G (HD.nth b 40 rfl rfl)⟩
  z_len:=XX X G (HD.nth b 41 rfl rfl)
  z_range:=XX X G (HD.nth b 42 rfl rfl)
  z_min:=XX X G (HD.nth b 43 rfl rfl)
  z_max:=XX X G (HD.nth b 44 rfl rfl)
  z_set:=XX X G (HD.nth b 45 rfl rfl)
  z_list:=XX X G (HD.nth b 46 rfl rfl)
  z_tuple:=XX X G (HD.nth b 47 rfl rfl)
  z_isinstance:=XX X G (HD.nth b 48 rfl rfl)
  z_any:=XX X G (HD.nth b 49 rfl rfl)
  z_bool:=XX X G (HD.nth b 50 rfl rfl)
  z_int:=XX X G (HD.nth b 51 rfl rfl)
  z_ValueError:=XX X G (HD.nth b 52 rfl rfl)
 }
 refine(Ua I).calm.imp λvs H Q E u=>?_;obtain⟨a,xs,t,x,z,M,A⟩:=u;refine Mi.Rp JD t x z (λp hp=>?_) A;cases hp
theorem WO{K:L0}{q:Program}{loose:List Str}{XP:(Str->Option Value)->Heap->Prop}{d:DefRec}(e:d.params.defaults=[])(b:d.name = "law")(y:HD.obK Uy UB Vl VY Vu Vr Vf K=S7 PySem.Challenge.pw_heraldways_k22_whole_all_settled_tables):PySem.W.WalkO q loose XP (λ_ h=>K.In h) PySem.Challenge.rw_heraldways_k22_whole_all_settled_tables.row.toRowW d [] (λf vs=>PySem.call f vs):=
 L2.Lv (l:=PySem.Challenge.rw_heraldways_k22_whole_all_settled_tables) (K:=λ_=>K) (n:=63) (k:=10) (x := "script") (CX:=λ_=>Xi) (sp:=λ_ T=>Mi.spT K T) WP rfl (by decide) e ⟨rfl,by decide,by decide⟩ (λ_ _ Y=>Y) (λ_ h=>absurd rfl h) (λ_ h=>(nomatch h)) (by unfold Tns.ok WP;decide) (λw mg j h T X G c TO=>SI X G (b▸c) TO y) (λw T H a ns g hO i=>⟨a,ns,rfl,Mi.O9 hO i,g,Mi.Ta hO,λ_=>rfl⟩) λ_ _ _ _ _ z=>z
end K22
open PySem PySem.W PyProof.Rows
set_option maxRecDepth 100000 in
set_option maxHeartbeats 0 in
theorem PySem.Challenge.cw_heraldways_k22_whole_all_settled_tables_holds : PySem.Challenge.rw_heraldways_k22_whole_all_settled_tables.Holds := by
 refine K22.hd0 λsaid=>?_;refine holds_openX (q:=K22.qP PySem.Challenge.pw_heraldways_k22_whole_all_settled_tables) (loose:=[]) (Xt:=λs=>xlAt (K22.qP PySem.Challenge.pw_heraldways_k22_whole_all_settled_tables) [] s&&recOk (RowW.records PySem.Challenge.rw_heraldways_k22_whole_all_settled_tables.row.toRowW) s) (XP:=XL (K22.qP PySem.Challenge.pw_heraldways_k22_whole_all_settled_tables) []) (Yf:=HD.ob K22.W8 K22.Uy K22.UB K22.Vl K22.VY K22.Vu K22.Vr K22.Vf) (Ya:=λ_=>K22.S7 PySem.Challenge.pw_heraldways_k22_whole_all_settled_tables) (N:=6266) (λw=>HD.two (K22.Ve w) (K22.Vd w)) (λs e=>xl_of s (XU.mp e).1) XL.keeps (by rfl) (by rfl) (by rfl) (λs e=>recFacts_of (XU.mp e).2) (by rfl) said (by decide +kernel) ⟨rfl,rfl,rfl,rfl,rfl,by decide +kernel⟩ ?hw (HD.walkX λK y=>K22.WO rfl rfl y)
 case hw=>w_witness2
