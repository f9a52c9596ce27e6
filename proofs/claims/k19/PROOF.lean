import PyProof.Rows.All
import Wide.All
import Wide.FinOn
import OpenK.XOpen
import OpenK.KWalk
import OpenK.KMake
import OpenK.KOwn
import OpenK.KRaiseN
import OpenK.Peek
import OpenK.KCall
import OpenK.KGet
import KE.KIsAll
import KE.KBytesAny
import KE.BytesK
import KE.KxBytes
import KE.KDictOf
import KE.KItem
import Lean
import PyProof.EqAt
import PyProof.EqKinds
import PyProof.TupleCall
import KE.KLam
import KE.KMinKey
import KE.KDictList
import KE.KRevIter
import PyProof.WalksMore
import PyProof.Rows.SetFrom
import KE.KSortTup
import KE.KDictSum
import PyProof.DictUpdate
import Open.Tops
import PySem.Challenge.RW_heraldways_k19_whole_a_plain_guild_comes
set_option Elab.async false
set_option linter.all false
set_option maxRecDepth 100000
abbrev F0:=PySem.W.Frag
abbrev L9:=List (PySem.Addr×PySem.Obj)
abbrev LV:=PySem.Value->PySem.Shared->Prop
abbrev P0:=List (Int×Int)
local macro_rules|`(tactic|ac_rfl)=>`(tactic|(constructor<;>first|rfl|decide +kernel))
local macro_rules|`(command|def $i:declId $s:optDeclSig $v:declVal)=>`(command|noncomputable def $i:declId $s:optDeclSig $v:declVal)
local macro_rules|`(command|@[simp]def $i:declId $s:optDeclSig $v:declVal)=>`(command|@[simp]noncomputable def $i:declId $s:optDeclSig $v:declVal)
local macro_rules|`(command|abbrev $i:declId $s:optDeclSig $v:declVal)=>`(command|noncomputable abbrev $i:declId $s:optDeclSig $v:declVal)
def on:=@if_neg
def VL:=@if_pos
def VM:=@PySem.wpAny_bind
def VN:=@List.map_cons
def VO:=@List.length_map
def VP:=@List.mem_cons_self
def VQ:=@List.length_append
def VR:=@List.mem_cons_of_mem
def VS:=@List.mem_append_right
def VT:=@PySem.Heap.get?_push_of_some
def VU:=@List.mem_singleton
def VV:=@List.length_cons
def VW:=@List.mem_append
def VX:=@PySem.wpAny_pure
def VY:=@List.mem_cons
def VZ:=@PySem.Heap.lt_size
def V0:=@List.mem_append_left
def V1:=@Bool.false_ne_true
def V2:=@Nat.le_refl
def V3:=@List.size_toArray
def V4:=@List.getElem?_eq_getElem
def V5:=@List.getD_eq_getElem?_getD
def V6:=@List.getElem?_eq_some_iff
def V7:=@Option.map_eq_some_iff
def V8:=@PySem.Heap.get?_push_size
def V9:=@List.getElem?_map
def Wa:=@Option.some.inj
def Wb:=@List.getElem?_eq_none
def Wc:=@List.nodup_cons
def Wd:=@List.length_set
def We:=@List.mem_map
def Wg:=@decide_eq_true_iff
def Wh:=@List.append_nil
def Wi:=@decide_eq_false
def Wj:=@Nat.lt_of_lt_of_le
def Wk:=@Nat.ne_of_lt
def Wl:=@Nat.le_trans
def Wm:=@List.map_append
def Wn:=@List.replicate_succ
def Wo:=@PySem.Heap.get?_update_other
def Wp:=@List.lookup_cons
def Wq:=@List.nodup_append
def Wr:=@PySem.Heap.get?_update_self
def Ws:=@List.map_map
def Wt:=@beq_eq_false_iff_ne
def Wu:=@Array.length_toList
def Wv:=@decide_eq_true
def Ww:=@List.getElem?_append_right
def Wx:=@List.length_eq_zero_iff
def Wy:=@List.append_assoc
def Wz:=@List.mem_of_getElem?
def WA:=@PySem.Obj.data_mapDictKeys
def WB:=@List.getElem?_append_left
def WC:=@PySem.Calls.spliced_cons
def WD:=@PySem.wpAny_passesOwn
def WE:=@List.nodup_nil
def WF:=@List.flatten_cons
def WG:=@PySem.F.plainAttrs_dict
def WH:=@List.eraseIdx_cons_succ
def WI:=@Nat.lt_irrefl
def WJ:=@PySem.W.kia_one
def WK:=@PySem.Calls.callWith_builtin
def WL:=@Array.getElem?_eq_getElem
def WM:=@List.map_congr_left
def WN:=@List.length_replicate
def WO:=@List.map_nil
def WP:=@Nat.zero_le
def WQ:=@List.filter_cons
def WR:=@PySem.Around.under_plainId
def WS:=@List.mem_filter
def WT:=@List.find?_cons
def WU:=@List.eraseIdxIfInBounds_toArray
def WV:=@PySem.F.slot_dict_get
def WW:=@List.all_eq_true
def WX:=@PySem.Paired.length
def WY:=@Nat.le_of_lt
def WZ:=@PySem.Calls.evalArgs_plain
def W3:=@PySem.wpAny_typeNameOfWhole_keyiter
def W4:=@PySem.wpAny_truthy_bool
def W5:=@PySem.Calls.spliced_nil
def W6:=@PySem.mem_of_lookup
def W7:=@PySem.Obj.isFreed_of_dict
def W8:=@List.getD_cons_succ
def W9:=@PyProof.Rows.callWith_type1
def Xa:=@PySem.wpAny_holding
def Xb:=@beq_self_eq_true
def Xc:=@PySem.wpAny_Call_Name_kw
def Xd:=@PySem.tupleKind_room_in1
def Xe:=@Int.emod_lt_of_pos
def Xf:=@PySem.F.slot_dict_pop
def Xg:=@Array.getElem?_toList
def Xh:=@List.getElem?_eq_none_iff
def Xi:=@List.mem_or_eq_of_mem_set
def Xj:=@PySem.codeAny_builtin
def Xk:=@Int.emod_nonneg
def Xl:=@PySem.wpAny_dictEntries
def Xm:=@Option.isSome_iff_exists
def Xn:=@PySem.plainId_quiet
def Xo:=@PySem.wpAny_typeNameOf_keyiter
def Xp:=@Ne.symm
def Xq:=@List.getElem?_replicate
def Xr:=@Bool.and_eq_true
def Xs:=@List.cons_append
def Xu:=@List.getElem?_cons_succ
def Xv:=@List.getElem?_set_self
def Xw:=@PySem.F.entry_dict_get
def Xx:=@Nat.lt_of_le_of_lt
def Xy:=@Bool.false_eq_true
def Xz:=@PySem.SeqAt.canLay_of_shaped
def XA:=@List.foldl_cons
def XB:=@Option.map_some
def XC:=@List.any_cons
def XD:=@List.length_singleton
def XE:=@PySem.wpAny_Call_method
def XF:=@of_decide_eq_true
def XG:=@PySem.Heap.size_push
def XH:=@Nat.lt_succ_self
def XI:=@PySem.call_meetsIn
def XJ:=@List.drop_eq_getElem_cons
def XM:=@List.getElem?_range
def XN:=@PySem.Heap.SameBut.update
def XO:=@Prod.mk.injEq
def XQ:=@PySem.wpAny_execs_nil
def XR:=@List.mem_replicate
def XS:=@PySem.wpAny_letGo
def XT:=@Option.bind_eq_some_iff
def XU:=@PySem.wpAny_pyIter_list
def XV:=@PySem.wpAny_tryCatch
def XW:=@List.length_range
def XX:=@PySem.F.type_dict_pop
def XY:=@Bool.beq_eq_decide_eq
def XZ:=@PySem.wpAny_mono
def X0:=@List.getElem?_set_ne
def X3:=@Array.mem_toList_iff
def X4:=@Bool.eq_iff_iff
def X5:=@PySem.W.plainGet_of
def X6:=@List.getElem_of_mem
def X7:=@PySem.W.shaped_ints
def X8:=@Nat.succ.inj
def X9:=@Nat.sub_self
def Yb:=@PySem.Calls.Name_function_global
def Yc:=@Int.fdiv_eq_ediv_of_nonneg
def Yd:=@beq_iff_eq
def Ye:=@PySem.W.callWith_K
def Yg:=@Option.isSome_some
def Yh:=@if_false
def Yi:=@List.set_cons_zero
def Yj:=@List.set_cons_succ
def Yl:=@List.exists_mem_of_ne_nil
def Ym:=@Sum.inl.inj
def Yn:=@Option.isSome_map
def Yo:=@Nat.lt_succ_of_lt
def Yp:=@PySem.wpAny_newObj_type
def Yq:=@List.ext_getElem?
def Yr:=@Nat.le_succ_of_le
def Ys:=@Int.max_def
def Yt:=@PySem.F.slot_list_remove
def Yu:=@List.set_eq_of_length_le
def Yv:=@PySem.F.slot_dict_values
def Yw:=@List.length_take
def Yx:=@PySem.F.args_dict_pop_3
def Yy:=@PySem.F.args_dict_get_2
def Yz:=@PySem.F.args_dict_get_3
def YA:=@List.getElem_mem
def YB:=@List.drop_length
def YC:=@PySem.codeAny_mono
def YD:=@PySem.W.cellsFrom_some
def YE:=@PySem.F.entry_dict_pop
def YG:=@if_true
def YH:=@PySem.call_meets
def YJ:=@List.drop_eq_nil_of_le
def YK:=@decide_false
def YL:=@List.all_map
def YM:=@PySem.wpAny_updateSeq
def YN:=@PySem.wpAny_dictEpoch
def YO:=@Nat.not_lt_zero
def YQ:=@PySem.PassesOwn.never
def YS:=@PySem.W.methodCall_KW
def YT:=@List.length_filter_le
def YU:=@PySem.F.type_dict_get
def YV:=@List.getElem?_toArray
def YX:=@PySem.F.slot_dict_len
def YY:=@congrFun
def YZ:=@List.mem_range
def Y1:=@PySem.sizeLine_eq
def Y4:=@Array.getElem_toList
def Y8:=@Int.min_def
def Y9:=@Bool.and_eq_true_iff
def Zx:=@Nat.zero_add
def ZA:=@List.map_set
namespace HD
open PySem PySem.W PyProof.Rows
def top(p:Program)(i:Nat):Stmt:=p.main.body.getD i (.Pass ⟨0,0,0,0⟩)
def iC(s:Stmt)(j:Nat):Stmt:=match s with
 |.ClassDef _ _ _ a _ _ _ _ _ _ _=>a.getD j (.Pass ⟨0,0,0,0⟩)
 |_=> .Pass ⟨0,0,0,0⟩
def dA(s:Stmt):Arguments:=match s with
 |.FunctionDef _ a _ _ _ _ _ _ _ _=>a
 |_=>{posonlyargs:=[],args:=[],vararg:=none,kwonlyargs:=[],kw_defaults:=[],kwarg:=none,defaults:=[]}
def dB(s:Stmt):List Stmt:=match s with
 |.FunctionDef _ _ b _ _ _ _ _ _ _=>b
 |_=>[]
def dS(s:Stmt):Scope:=match s with
 |.FunctionDef _ _ _ _ _ _ sc _ _ _=>sc
 |_=>{kind:=.function,names:=[],isGenerator:=false,isCoroutine:=false}
def Jd(b:List Addr)(h:Heap):Frag:=b.filterMap λa=>(h.get? a).map λo=>(a,o)
theorem Jc(c:List Addr)(h:Heap):(Jd c h).In h:=by
 intro a o e
 induction c with
 |nil=>cases e
 |cons b c d=>
   unfold Jd at e;rw[List.filterMap_cons]at e;cases q:h.get? b with
   |none=>
     rw[q]at e;exact d e
   |some x=>
     rw[q]at e;replace e:List.lookup a ((b,x)::Jd c h)=some o:=e;rw[Wp]at e;by_cases z:a=b
     ·subst z;rw[Xb a]at e;cases e;exact q
     ·rw[Wt.mpr z]at e;exact d e
abbrev VJ:=Str×Str×Arguments×FuncBody×Scope×Addr×List (Str×Addr)×Value×Addr×Bool
def fnO(K:Frag)(f:Addr)(q:Str):Option VJ:=match K.lookup f with
 |some ⟨_,_,.func fd,_⟩=>some (fd.name,fd.qualname,fd.params,fd.body,fd.scope,fd.globals,fd.closure,fd.defaults,fd.builtins,codeIn K fd.code q)
 |_=>none
def fnE(x q:Str)(st:Stmt):Option VJ:=some (x,q,dA st,.stmts (dB st),dS st,mainGlobals,[],.none,builtinsNs,true)
theorem fn_of{K:Frag}{f:Addr}{x q:Str}{st:Stmt}(h:fnO K f q=fnE x q st):∃(oc:Value) (c:Option Addr) (kV d pm:Value) (an:Option Addr) (b ct:Value) (a:Array (Option Value)),
 K.lookup f=some ⟨oc,c,.func (fnOf x q (dA st) (dB st) (dS st) .none kV d pm an b ct),a⟩/\codeIn K b q=true:=by
 unfold fnO at h;split at h
 · next oc c fd a e=>
   obtain⟨n,l,m,bd,sc,o,r,p,g,j,pm,an,k,ct,s⟩:=fd;unfold fnE at h;simp only[Option.some.injEq,Prod.mk.injEq]at h;obtain⟨rfl,rfl,rfl,rfl,rfl,rfl,rfl,rfl,rfl,i⟩:=h;exact⟨oc,c,g,j,pm,an,k,ct,a,e,i⟩
 ·exact nomatch h
theorem fn_keep{K:Frag}{f:Addr}{x q:Str}{st:Stmt}(h:fnO K f q=fnE x q st):keepIn K (.ref f)=true:=by
 obtain⟨oc,d,kV,b,pm,an,c,ct,a,e,_⟩:=fn_of h;show(match K.lookup f with|some ⟨_,_,.func _,_⟩=>true|some ⟨_,_,.cls _,_⟩=>specialIn K (.ref f) "__call__" == some (some (.builtin "type.__call__"))|_=>false)=true;rw[e]
def SX(K:Frag)(C:Addr):List Value:=match K.lookup C with
 |some ⟨_,_,.cls a,_⟩=>a.mro
 |_=>[]
def Tl(K:Frag)(C:Addr):Bool:=excIn K C [.type "ValueError",.type "Exception",.type "BaseException",.type "object"] "ValueError.__new__"
def Lh(K:Frag)(D:Addr):Bool:=findIn K (.ref D) "__getattribute__" == some (some (.builtin "BaseException.__getattribute__"))&&(findIn K (.ref D) "__getattr__" == some none&&(findIn K (.ref D) "__class__" == some (some (.builtin "object.__class__")) &&
 (specialIn K (.builtin "object.__class__") "__get__" == some (some (.builtin "getset_descriptor.__get__"))&&(takesIn K (.builtin "object.__class__")==some true&&(mroIn K D (.type "object")==some true&&(mroIn K D (.type "BaseException")==some true&&(clsIn K D).isSome))))))
abbrev Ob:=List (Option (Option Value))×List (Option (Option Value))×List Bool×List (Option VJ)×List (Bool×List Value)×List (Option Bool)
def cls(K:Frag)(C:Addr):Bool:=plainGet K C Str.empty&&(hasDictIn K C&&(plainOver K C&&(makesIn K C&&keepIn K (.ref C))))
def obK(ns:List Str)(M:List (Addr×Str))(fs cs:List Addr)(ds:List (Addr×Str))(b:List Addr)(a:List (Addr×Value))(K:Frag):Ob:=
 (ns.map (nsIn K mainGlobals),M.map (λp=>findIn K (.ref p.1) p.2),(fs.map λf=>isFn K (.ref f))++cs.map (cls K),ds.map (λp=>fnO K p.1 p.2),b.map (λC=>(Tl K C&&Lh K C,SX K C)),a.map λp=>kitOne K (.ref p.1) p.2)
def ob(n:List Addr)(ns:List Str)(M:List (Addr×Str))(fs cs:List Addr)(ds:List (Addr×Str))(b:List Addr)(a:List (Addr×Value))(s:Shared):Ob:=obK ns M fs cs ds b a (Jd n s.heap)
theorem two{W X L:Type}{o:Option W}{f:W->X}{g:W->L}{a:X}{b:L}(c:o.map f=some a)(d:o.map g=some b):o.map (λs=>(f s,g s))=some (a,b):=by
 cases o with
 |none=>cases c
 |some s=>cases c;cases d;rfl
theorem nth{W:Type}{l m:List W}(h:l=m)(i:Nat){a b:W}(d:l[i]?=some a)(c:m[i]?=some b):a=b:=by
 subst h;rw[d]at c;exact Wa c
theorem cls_of{K:Frag}{C:Addr}(h:cls K C=true):plainGet K C Str.empty=true/\hasDictIn K C=true/\plainOver K C=true/\makesIn K C=true/\keepIn K (.ref C)=true:=by
 unfold cls at h;simpa only[Bool.and_eq_true] using h
theorem walkX{q:Program}{loose:List Str}{XP:(Str->Option Value)->Heap->Prop}{n:List Addr}{ns:List Str}{M:List (Addr×Str)}{fs cs:List Addr}{ds:List (Addr×Str)}{i:List Addr}{g:List (Addr×Value)}{E:Ob}{r:RowW}{d:DefRec}{c:List (Str×Expr)}{run:Value->List Value->Sem Value}
 (W:∀K:Frag,obK ns M fs cs ds i g K=E->WalkO q loose XP (λ_ h=>K.In h) r d c run):WalkX q loose XP (ob n ns M fs cs ds i g) (λ_=>E) r d c run:=
 λw s0 j mg k G y a o pm x e v kV u t s p m l args b f L D C B A z=>W _ y w s0 j mg k G ((Jc _ _).keeps L.keeps) a o pm x e v kV u t s p m l args b f D C B A z
end HD
namespace HS
open PySem PySem.W PyProof.Rows
noncomputable def s0(w:World)(os:OsState):Shared:=⟨boot_heap w.params,Array.mk [],boot_drawn,boot_toks,os⟩
def mid(x:Shared):Option (Shared×Thread)->Shared
 |some (s,_)=>s
 |none=>x
def lz(x:SharedT):Option (Flow×SharedT×Code×Pos)->SharedT
 |some (_,s,_)=>s
 |none=>x
noncomputable def look{W:Type}(p:Program)(w:World)(f:Shared->W)(o:Option Shared):Option W:=o.bind λa=>match staticsOk (importedModules p.main.body) (boot_heap w.params) a.heap&&namesBound p a.heap&&gensDone a&&laidKept (boot_heap w.params) a.heap with
 |true=>some (f a)
 |false=>none
section
variable{p:Program}{w:World}{os:OsState}{m0:Nat}{ann:Option Value}{env:PySem.Env}{q posA posB pos1 pos2:Pos}{b l1 l2:List Stmt}{sA:Shared}{sB s1 s2:SharedT}{k0 kb k1 k2:Nat}
theorem first(pre:topGo treeTable p w m0 ann k0 (s0 w os) (topStub p)=some (sA,⟨denote treeTable (.body b env),.body b env,posA,[topFrame q]⟩))
 (Lw:segRun treeTable p w m0 ann 1 kb sA (blockOf b env (.body b env) posA [topFrame q])=some (.next,sB.abs,.body b env,posB)) {N:Nat} {r:Shared} (h:topRun treeTable p w m0 ann N sB.abs (restOf b env (.body b env) posB [topFrame q])=some r):
 topRun treeTable p w m0 ann (k0+(kb+N)) (s0 w os) (topStub p)=some r:=go_top pre (piece_block Lw h)
theorem Rw{c:Code}(g:segRunT treeTable p w m0 ann 1 k1 s1 (piecesOf l1 env c pos1 [topFrame q])=some (.next,s2,c,pos2)){N:Nat}{r:Shared}(h:topRun treeTable p w m0 ann N s2.abs (restOf l2 env c pos2 [topFrame q])=some r):
 topRun treeTable p w m0 ann (k1+N) s1.abs (restOf (l1++l2) env c pos1 [topFrame q])=some r:=piece_app (segRun_of g) h
end
theorem ends{p:Program}{N M i:Nat}{g:Option Value}{W:Type}{f:Shared->W}{good:World->W}
 (b:∀w:World,(fencedOpening treeTable p w N).map (λs=>(s.heap,s.gens,s.drawn,s.toks))=some (boot_heap w.params,Array.mk [],boot_drawn,boot_toks))
 (size:∀w:World,((boot_heap w.params).isNs mainGlobals && (Array.mk []:Array GenState).size == 0,(boot_heap w.params).objs.size,(boot_heap w.params).nsMap mainGlobals "__annotations__")=(true,i,g))
 (run:∀(w:World) (os:OsState),∃a,topRun treeTable p w i g M (s0 w os) (topStub p)=some a/\look p w f (some a)=some (good w)) (le:M<=N):∀w:World,(openEnds treeTable p w N).map f=some (good w):=λw=>by
 obtain⟨⟨h,n,d,k,os⟩,e,o⟩:=V7.mp (b w);obtain⟨rfl,rfl,rfl,rfl⟩:h=boot_heap w.params/\n=Array.mk []/\d=boot_drawn/\k=boot_toks:=by simpa using o
 obtain⟨m,l,j⟩:_/\_/\_:=by simpa only[XO] using size w
 obtain⟨a,r,lk⟩:=run w os;have r:=topRun_mono (N-M) _ _ _ _ r;rw[show M+(N-M)=N by omega]at r;unfold openEnds;rw[e];show(topFrom treeTable p w N _).map f=_;unfold topFrom;dsimp only;rw[m,l,j];show((topRun treeTable p w i g N (s0 w os) (topStub p)).bind _).map f=_;rw[r];unfold look at lk;dsimp only[Option.bind]at lk ⊢;cases c:staticsOk (importedModules p.main.body) (boot_heap w.params) a.heap&&namesBound p a.heap&&gensDone a&&laidKept (boot_heap w.params) a.heap with
 |true=>rw[c]at lk;exact lk
 |false=>rw[c]at lk;cases lk
theorem run{W X:Type}{p:Program}{d t s o m M:Nat}{a:Option Value}{env:PySem.Env}{q j i h c:Pos}{b eM:List Stmt}{GK:World->OsState->Shared}{JU GJ fz:World->OsState->SharedT}{f:Shared->W}{g:Shared->X}{good:World->W}{k:World->X}
 (pre:∀w:World,(λos=>topGo treeTable p w d a t (s0 w os) (topStub p))=λos=>some (GK w os,⟨denote treeTable (.body b env),.body b env,j,[topFrame q]⟩))
 (Lw:∀w:World,(λos=>segRun treeTable p w d a 1 s (GK w os) (blockOf b env (.body b env) j [topFrame q]))=λos=>some (.next,(JU w os).abs,.body b env,i))
 (ch:∀(w:World) (os:OsState) (r:Shared),topRun treeTable p w d a (o+m) (GJ w os).abs (restOf eM env (.body b env) h [topFrame q])=some r->topRun treeTable p w d a M (JU w os).abs (restOf b env (.body b env) i [topFrame q])=some r)
 (x:∀w:World,(λos=>(segRunT treeTable p w d a 1 o (GJ w os) (piecesOf eM env (.body b env) h [topFrame q]),look p w f (topRun treeTable p w d a m (fz w os).abs ⟨doneF .next,.body b env,c,[topFrame q]⟩),look p w g (topRun treeTable p w d a m (fz w os).abs ⟨doneF .next,.body b env,c,[topFrame q]⟩)))=λos=>(some (.next,fz w os,.body b env,c),some (good w),some (k w))) (w:World) (os:OsState):
 ∃l,topRun treeTable p w d a (t+(s+M)) (s0 w os) (topStub p)=some l/\look p w f (some l)=some (good w)/\look p w g (some l)=some (k w):=by
 obtain⟨v,n,u⟩:_/\_/\_:=by simpa only[XO] using YY (x w) os
 cases e:topRun treeTable p w d a m (fz w os).abs ⟨doneF .next,.body b env,c,[topFrame q]⟩ with
 |none=>rw[e]at n;cases n
 |some l=>
   rw[e]at n u;refine⟨l,first (YY (pre w) os) (YY (Lw w) os) (ch w os l ?_),n,u⟩
   have:=Rw (l2:=[]) v (piece_nil e)
   rw[Wh]at this;exact this
theorem run1{W:Type}{p:Program}{i o n m l M:Nat}{a:Option Value}{env:PySem.Env}{q h g d c:Pos}{b eM:List Stmt}{GK:World->OsState->Shared}{JU GJ fz:World->OsState->SharedT}{f:Shared->W}{good:World->W}
 (pre:∀w:World,(λos=>topGo treeTable p w i a o (s0 w os) (topStub p))=λos=>some (GK w os,⟨denote treeTable (.body b env),.body b env,h,[topFrame q]⟩))
 (Lw:∀w:World,(λos=>segRun treeTable p w i a 1 n (GK w os) (blockOf b env (.body b env) h [topFrame q]))=λos=>some (.next,(JU w os).abs,.body b env,g))
 (ch:∀(w:World) (os:OsState) (r:Shared),topRun treeTable p w i a (m+l) (GJ w os).abs (restOf eM env (.body b env) d [topFrame q])=some r->topRun treeTable p w i a M (JU w os).abs (restOf b env (.body b env) g [topFrame q])=some r)
 (t:∀w:World,(λos=>(segRunT treeTable p w i a 1 m (GJ w os) (piecesOf eM env (.body b env) d [topFrame q]),look p w f (topRun treeTable p w i a l (fz w os).abs ⟨doneF .next,.body b env,c,[topFrame q]⟩)))=λos=>(some (.next,fz w os,.body b env,c),some (good w))) (w:World) (os:OsState):
 ∃j,topRun treeTable p w i a (o+(n+M)) (s0 w os) (topStub p)=some j/\look p w f (some j)=some (good w):=by
 obtain⟨s,k⟩:_/\_:=by simpa only[XO] using YY (t w) os
 cases e:topRun treeTable p w i a l (fz w os).abs ⟨doneF .next,.body b env,c,[topFrame q]⟩ with
 |none=>rw[e]at k;cases k
 |some j=>
   rw[e]at k;refine⟨j,first (YY (pre w) os) (YY (Lw w) os) (ch w os j ?_),k⟩
   have:=Rw (l2:=[]) s (piece_nil e)
   rw[Wh]at this;exact this
end HS
set_option maxHeartbeats 4000000
namespace K19
open PySem PySem.W PyProof.Rows
theorem hd0(h:PySem.Challenge.rw_heraldways_k19_whole_a_plain_guild_comes.row.wellSaid=true->PySem.Challenge.rw_heraldways_k19_whole_a_plain_guild_comes.row.Holds):PySem.Challenge.rw_heraldways_k19_whole_a_plain_guild_comes.Holds:=by
 w_on;o_law;exact h (by assumption)
abbrev qP(p:Program):Program:=view p [0,2,3,4,5,6,7,9,10,11,12,14,15,16,18,19,21,23,24,25,26,27,28,29,30,31,32]
def VB:List Addr:=List.range 479
def Qy:List Str := "Guild"::"Post"::"_law_cell_at"::"_law_ways_by"::"_law_whole"::"_law_wide_by"::"best_road"::"copied"::"require_within"::"_law_by_ways"::"may_take"::"_law_good"::"_law_lengths"::"nearest"::"_law_guild_by"::"standing"::"_law_deed_done"::"law"::"SEAT"::"MOST_HOUSES"::"len"::"range"::"min"::"max"::"set"::"list"::"tuple"::"isinstance"::"bool"::"int"::"any"::"abs" :: []
def Qz:List (Addr×Str):=(240,"__init__")::(240,"houses_paired")::(240,"shuns_one_of")::(240,"size")::(397,"first_of_line")::(397,"forget")::(397,"write_road")::(240,"require_houses")::(397,"waiting")::(240,"like")::(240,"liking")::(240,"neighbours")::(240,"require_long_road")::(240,"require_two_houses")::(240,"twin")::(397,"road")::(240,"lay_way")::(240,"lift_way")::(240,"rank_of")::(240,"shun")::(240,"wish")::(397,"write_to_all")::(397,"__init__")::(397,"choose_anew")::(397,"rise")::(397,"fall")::(397,"hear")::(397,"carry")::(397,"carry_next")::(397,"settle")::(240,"__setattr__")::(397,"__setattr__")::(240,"house_count")::(240,"ways")::(240,"likings")::(240,"shuns")::(240,"wish_ranks")::(397,"guild")::(397,"roads")::(397,"told_last")::(397,"written_last")::(397,"letters")::(397,"standings")::[]
def QB:List Addr:=[115,204,216,122,359,387,366,223,310,157,164,129,237,230,211,291,143,150,199,171,185,373,284,394,352,345,380,324,331,338]
def QF:List Addr:=[240,397]
def QD:List (Addr×Str):=(115,"Guild.__init__")::(204,"Guild.houses_paired")::(216,"Guild.shuns_one_of")::(122,"Guild.size")::(359,"Post.first_of_line")::(387,"Post.forget")::(366,"Post.write_road")::(415,"_law_cell_at")::(429,"_law_ways_by")::(422,"_law_whole")::(471,"_law_wide_by")::(265,"best_road")::(272,"copied")::(101,"require_within")::(223,"Guild.require_houses")::(310,"Post.waiting")::(450,"_law_by_ways")::(258,"may_take")::(157,"Guild.like")::(164,"Guild.liking")::(129,"Guild.neighbours")::(237,"Guild.require_long_road")::(230,"Guild.require_two_houses")::(211,"Guild.twin")::(291,"Post.road")::(143,"Guild.lay_way")::(150,"Guild.lift_way")::(199,"Guild.rank_of")::(171,"Guild.shun")::(185,"Guild.wish")::(373,"Post.write_to_all")::(457,"_law_good")::(464,"_law_lengths")::(408,"nearest")::(284,"Post.__init__")::(394,"Post.choose_anew")::(352,"Post.rise")::(436,"_law_guild_by")::(251,"standing")::(345,"Post.fall")::(380,"Post.hear")::(324,"Post.carry")::(331,"Post.carry_next")::(443,"_law_deed_done")::(338,"Post.settle")::(478,"law")::[]
def QC:List Addr:=[]
def QA:List (Addr×Value):=[]
abbrev rf(n:Nat):Option (Option Value):=some (some (.ref n))
def Qv(p:Program):HD.Ob:=(rf 240::rf 397::rf 415::rf 429::rf 422::rf 471::rf 265::rf 272::rf 101::rf 450::rf 258::rf 457::rf 464::rf 408::rf 436::rf 251::rf 443::rf 478::some (some (.int 0 296))::some (some (.int 60 298))::some none::some none::some none::some none::some none::some none::some none::some none::some none::some none::some none::some none::[],rf 115::rf 204::rf 216::rf 122::rf 359::rf 387::rf 366::rf 223::rf 310::rf 157::rf 164::rf 129::rf 237::rf 230::rf 211::rf 291::rf 143::rf 150::rf 199::rf 171::rf 185::rf 373::rf 284::rf 394::rf 352::rf 345::rf 380::rf 324::rf 331::rf 338::some (some (.builtin "object.__setattr__"))::some (some (.builtin "object.__setattr__"))::some none::some none::some none::some none::some none::some none::some none::some none::some none::some none::some none::[],true::true::true::true::true::true::true::true::true::true::true::true::true::true::true::true::true::true::true::true::true::true::true::true::true::true::true::true::true::true::true::true::[],HD.fnE "__init__" "Guild.__init__" (HD.iC (HD.top p 12) 0)::HD.fnE "houses_paired" "Guild.houses_paired" (HD.iC (HD.top p 12) 13)::HD.fnE "shuns_one_of" "Guild.shuns_one_of" (HD.iC (HD.top p 12) 15)::HD.fnE "size" "Guild.size" (HD.iC (HD.top p 12) 1)::HD.fnE "first_of_line" "Post.first_of_line" (HD.iC (HD.top p 19) 11)::HD.fnE "forget" "Post.forget" (HD.iC (HD.top p 19) 15)::HD.fnE "write_road" "Post.write_road" (HD.iC (HD.top p 19) 12)::HD.fnE "_law_cell_at" "_law_cell_at" (HD.top p 23)::HD.fnE "_law_ways_by" "_law_ways_by" (HD.top p 25)::HD.fnE "_law_whole" "_law_whole" (HD.top p 24)::HD.fnE "_law_wide_by" "_law_wide_by" (HD.top p 31)::HD.fnE "best_road" "best_road" (HD.top p 16)::HD.fnE "copied" "copied" (HD.top p 18)::HD.fnE "require_within" "require_within" (HD.top p 11)::HD.fnE "require_houses" "Guild.require_houses" (HD.iC (HD.top p 12) 16)::HD.fnE "waiting" "Post.waiting" (HD.iC (HD.top p 19) 4)::HD.fnE "_law_by_ways" "_law_by_ways" (HD.top p 28)::HD.fnE "may_take" "may_take" (HD.top p 15)::HD.fnE "like" "Guild.like" (HD.iC (HD.top p 12) 6)::HD.fnE "liking" "Guild.liking" (HD.iC (HD.top p 12) 7)::HD.fnE "neighbours" "Guild.neighbours" (HD.iC (HD.top p 12) 2)::HD.fnE "require_long_road" "Guild.require_long_road" (HD.iC (HD.top p 12) 18)::HD.fnE "require_two_houses" "Guild.require_two_houses" (HD.iC (HD.top p 12) 17)::HD.fnE "twin" "Guild.twin" (HD.iC (HD.top p 12) 14)::HD.fnE "road" "Post.road" (HD.iC (HD.top p 19) 1)::HD.fnE "lay_way" "Guild.lay_way" (HD.iC (HD.top p 12) 4)::HD.fnE "lift_way" "Guild.lift_way" (HD.iC (HD.top p 12) 5)::HD.fnE "rank_of" "Guild.rank_of" (HD.iC (HD.top p 12) 12)::HD.fnE "shun" "Guild.shun" (HD.iC (HD.top p 12) 8)::HD.fnE "wish" "Guild.wish" (HD.iC (HD.top p 12) 10)::HD.fnE "write_to_all" "Post.write_to_all" (HD.iC (HD.top p 19) 13)::HD.fnE "_law_good" "_law_good" (HD.top p 29)::HD.fnE "_law_lengths" "_law_lengths" (HD.top p 30)::HD.fnE "nearest" "nearest" (HD.top p 21)::HD.fnE "__init__" "Post.__init__" (HD.iC (HD.top p 19) 0)::HD.fnE "choose_anew" "Post.choose_anew" (HD.iC (HD.top p 19) 16)::HD.fnE "rise" "Post.rise" (HD.iC (HD.top p 19) 10)::HD.fnE "_law_guild_by" "_law_guild_by" (HD.top p 26)::HD.fnE "standing" "standing" (HD.top p 14)::HD.fnE "fall" "Post.fall" (HD.iC (HD.top p 19) 9)::HD.fnE "hear" "Post.hear" (HD.iC (HD.top p 19) 14)::HD.fnE "carry" "Post.carry" (HD.iC (HD.top p 19) 6)::HD.fnE "carry_next" "Post.carry_next" (HD.iC (HD.top p 19) 7)::HD.fnE "_law_deed_done" "_law_deed_done" (HD.top p 27)::HD.fnE "settle" "Post.settle" (HD.iC (HD.top p 19) 8)::HD.fnE "law" "law" (HD.top p 32)::[],[],[])
open_shared sh for PySem.Challenge.pw_heraldways_k19_whole_a_plain_guild_comes leaving 25
noncomputable section
noncomputable abbrev pg:Program:=PySem.Challenge.pw_heraldways_k19_whole_a_plain_guild_comes
noncomputable abbrev bd:List Stmt:=behindTheImports pg
noncomputable abbrev cE:Code:=.body bd sh.env_1
noncomputable abbrev BB:List Frame:=[topFrame ⟨0,0,0,0⟩]
abbrev nK:Nat:=2133+2
noncomputable def GK(w:World)(os:OsState):Shared:=HS.mid (HS.s0 w os) (topGo treeTable pg w 11 (some (.ref 6)) 12 (HS.s0 w os) (topStub pg))
noncomputable abbrev JU(w:World)(os:OsState):SharedT:=({tree:=sh.tree_4 w.params,n:=15,life:={},gens:={toList:=[]},drawn:={},toks:=187,os:=os}:SharedT)
noncomputable abbrev GJ(w:World)(os:OsState):SharedT:=({tree:=sh.tree_106 w.params,n:=95,life:={},gens:={toList:=[]},drawn:={},toks:=294,os:=os}:SharedT)
theorem pre(w:World):(λos=>topGo treeTable pg w 11 (some (.ref 6)) 12 (HS.s0 w os) (topStub pg))=λos=>some (GK w os,⟨denote treeTable cE,cE,⟨0,0,0,0⟩,BB⟩):=by
 unfold GK cE bd pg;rw[Fast.te14364793385576792824,Fast.te17143054524329271013]
 kernel_rfl
theorem Lw(w:World):(λos=>segRun treeTable pg w 11 (some (.ref 6)) 1 1 (GK w os) (blockOf bd sh.env_1 cE ⟨0,0,0,0⟩ BB))=λos=>some (.next,(JU w os).abs,cE,⟨0,0,0,0⟩):=by
 unfold GK cE bd pg;rw[Fast.te14364793385576792824,Fast.te17143054524329271013]
 kernel_rfl
theorem bdE:sh.sts_4++(sh.sts_28++(sh.sts_44++(sh.sts_60++(sh.sts_76++(sh.sts_92++bd.drop 8)))))=bd:=by
 unfold bd pg;rw[Fast.te17143054524329271013]
 kernel_rfl
theorem chn(w:World)(os:OsState)(r:Shared)(h:topRun treeTable pg w 11 (some (.ref 6)) nK (GJ w os).abs (restOf (bd.drop 8) sh.env_1 cE ⟨15,0,16,8⟩ BB)=some r):topRun treeTable pg w 11 (some (.ref 6)) (Nat.add 225 (Nat.add 214 (Nat.add 214 (Nat.add 214 (Nat.add 214 (Nat.add 214 nK)))))) (JU w os).abs (restOf bd sh.env_1 cE ⟨0,0,0,0⟩ BB)=some r:=by
 have h:=sh.chain pg bd w os (bd.drop 8) nK r h;rw[bdE]at h;exact h
noncomputable def fz(w:World)(os:OsState):SharedT:=HS.lz (GJ w os) (segRunT treeTable pg w 11 (some (.ref 6)) 1 2133 (GJ w os) (piecesOf (bd.drop 8) sh.env_1 cE ⟨15,0,16,8⟩ BB))
noncomputable abbrev gQ{W:Type}(f:Shared->W)(g:W):Prop:=∀w:World,(λos=>(segRunT treeTable pg w 11 (some (.ref 6)) 1 2133 (GJ w os) (piecesOf (bd.drop 8) sh.env_1 cE ⟨15,0,16,8⟩ BB),HS.look pg w f (topRun treeTable pg w 11 (some (.ref 6)) 2 (fz w os).abs ⟨doneF .next,cE,⟨333,0,346,74⟩,BB⟩)))=λos=>(some (.next,fz w os,cE,⟨333,0,346,74⟩),some g)
theorem gZ1:gQ (openSeen (qP pg) [] (importedModules pg.main.body) (λs=>xlAt (qP pg) [] s&&recOk (RowW.records PySem.Challenge.rw_heraldways_k19_whole_a_plain_guild_comes.row.toRowW) s) true) (openGood (qP pg) []):=by
 intro w;unfold fz cE bd pg;rw[Fast.te10110043849684766642,Fast.te14082659384304107361,Fast.te14364793385576792824,Fast.te4187177175401517315,Fast.te5923862056798008813,Fast.te17143054524329271013]
 kernel_rfl
theorem gZ2:gQ (HD.ob VB Qy Qz QB QF QD QC QA) (Qv pg):=by
 intro w;unfold fz cE bd pg;rw[Fast.te10110043849684766642,Fast.te14082659384304107361,Fast.te14364793385576792824]
 kernel_rfl
theorem opn(w:World):(fencedOpening treeTable pg w 6968).map (λs=>(s.heap,s.gens,s.drawn,s.toks))=some (boot_heap w.params,Array.mk [],boot_drawn,boot_toks):=by
 unfold pg;rw[Fast.te14364793385576792824,Fast.te17143054524329271013]
 kernel_rfl
theorem siz(w:World):((boot_heap w.params).isNs mainGlobals && (Array.mk []:Array GenState).size == 0,(boot_heap w.params).objs.size,(boot_heap w.params).nsMap mainGlobals "__annotations__")=(true,11,(some (.ref 6))):=by
 kernel_rfl
theorem S8(w:World):(openEnds treeTable PySem.Challenge.pw_heraldways_k19_whole_a_plain_guild_comes w 6968).map (openSeen (qP PySem.Challenge.pw_heraldways_k19_whole_a_plain_guild_comes) [] (importedModules PySem.Challenge.pw_heraldways_k19_whole_a_plain_guild_comes.main.body) (λs=>xlAt (qP PySem.Challenge.pw_heraldways_k19_whole_a_plain_guild_comes) [] s&&recOk (RowW.records PySem.Challenge.rw_heraldways_k19_whole_a_plain_guild_comes.row.toRowW) s) true)=some (openGood (qP PySem.Challenge.pw_heraldways_k19_whole_a_plain_guild_comes) []):=HS.ends (good:=λ_=>_) opn siz (HS.run1 pre Lw chn gZ1) (by decide +kernel) w
theorem S7(w:World):(openEnds treeTable PySem.Challenge.pw_heraldways_k19_whole_a_plain_guild_comes w 6968).map (HD.ob VB Qy Qz QB QF QD QC QA)=some (Qv PySem.Challenge.pw_heraldways_k19_whole_a_plain_guild_comes):=HS.ends (good:=λ_=>_) opn siz (HS.run1 pre Lw chn gZ2) (by decide +kernel) w
end
end K19
namespace L2
open PySem PySem.Spec PyProof.Rows
abbrev ay:=Sum Int Str
def qr:ay->Value->Bool
 |.inl k,v=>Value.isInt k v
 |.inr x,v=>Value.isStrOf x v
def Ta(w:World):ay->Int
 |.inl k=>hashInt k
 |.inr x=>hashStr w x
theorem bG:∀{k:ay} {v:Value},qr k v=true->(∃i t,k=Sum.inl i/\v=Value.int i t)\/(∃x t,k=Sum.inr x/\v=Value.str x t)
 | .inl i,v,h=>by
   obtain⟨t,e⟩:=Value.isInt_shape (k:=i) (v:=v) h;exact .inl ⟨i,t,rfl,e⟩
 | .inr x,v,h=>by
   obtain⟨t,e⟩:=Value.isStrOf_shape (x:=x) (v:=v) h;exact .inr ⟨x,t,rfl,e⟩
theorem A7(i:Int)(t:Tok):qr (.inl i) (.int i t)=true:=by simp[qr,Value.isInt]
theorem A6(x:Str)(t:Tok):qr (.inr x) (.str x t)=true:=by simp[qr,Value.isStrOf]
theorem OV(a b:Int):decide ((Sum.inl a:ay)=Sum.inl b)=(a==b):=by
 by_cases e:a=b
 ·subst e;simp
 ·have h:¬ (Sum.inl a:ay)=Sum.inl b:=λq=>e (Ym q);rw[Wi h];exact(Wt.mpr e).symm
theorem OS(a b:Str):decide ((Sum.inr a:ay)=Sum.inr b)=decide (a=b):=by
 by_cases e:a=b
 ·subst e;simp
 ·have h:¬ (Sum.inr a:ay)=Sum.inr b:=λq=>e (Sum.inr.inj q);rw[Wi h,Wi e]
theorem OU(a:Int)(b:Str):decide ((Sum.inl a:ay)=Sum.inr b)=false:=Wi (λq=>nomatch q)
theorem OT(a:Str)(b:Int):decide ((Sum.inr a:ay)=Sum.inl b)=false:=Wi (λq=>nomatch q)
def aq(prog:Program)(w:World):PySem.KeyKind prog w ay where
 is:=qr
 hash:=Ta w
 inj:=λv a b g d=>by
  rcases bG g with ⟨i,t,rfl,rfl⟩|⟨x,t,rfl,rfl⟩
  · rcases bG d with ⟨j,u,rfl,e⟩|⟨y,u,rfl,e⟩
    ·injection e with e1 _;rw[e1]
    ·exact nomatch e
  · rcases bG d with ⟨j,u,rfl,e⟩|⟨y,u,rfl,e⟩
    ·exact nomatch e
    ·injection e with e1 _;rw[e1]
 byValue:=λk v h=>by
  rcases bG h with ⟨i,t,rfl,rfl⟩|⟨x,t,rfl,rfl⟩<;>rfl
 pyHash:=λc h=>by
  rcases bG c with ⟨i,t,rfl,rfl⟩|⟨x,t,rfl,rfl⟩
  ·exact wpAny_pyHash_int h
  ·exact wpAny_pyHash_str h
 eqBool:=λf c h=>by
  rcases bG f with ⟨i,t,rfl,rfl⟩|⟨x,t,rfl,rfl⟩
  · rcases bG c with ⟨j,u,rfl,rfl⟩|⟨y,u,rfl,rfl⟩
    ·rw[OV]at h;exact wpAny_eqBool_int h
    ·rw[OU]at h;exact SeqAt.EqAt.int_str i t y u _ _ _ _ h
  · rcases bG c with ⟨j,u,rfl,rfl⟩|⟨y,u,rfl,rfl⟩
    ·rw[OT]at h;exact SeqAt.EqAt.str_int x t j u _ _ _ _ h
    ·rw[OS]at h;exact wpAny_eqBool_str h
 «strs»:=λk x t v h=>by
  rcases bG h with ⟨i,u,rfl,e⟩|⟨y,u,rfl,e⟩
  ·exact nomatch e
  · injection e with e1 _
    subst e1;cases v<;>rfl
theorem t7(prog:Program)(w:World)(i:Int)(t:Tok):(aq prog w).is (.inl i) (.int i t)=true:=A7 i t
theorem t6(prog:Program)(w:World)(x:Str)(t:Tok):(aq prog w).is (.inr x) (.str x t)=true:=A6 x t
inductive V where
 |non|bl (b:Bool)|int (i:Int)|str (x:Str)|byt (b:Array UInt8)|flt (b:UInt64)|ref (a:Addr)|ty (n:String)
 deriving DecidableEq
def RelV:V->Value->Prop
 |.non,u=>u=Value.none
 |.bl b,u=>u=Value.bool b
 |.int i,u=>∃t,u=Value.int i t
 |.str x,u=>∃t,u=Value.str x t
 |.byt b,u=>∃t,u=Value.bytes b t
 |.flt b,u=>∃t,u=Value.float b t
 |.ref a,u=>u=Value.ref a
 |.ty n,u=>u=Value.type n
abbrev Vals:List V->List Value->Prop:=Paired RelV
theorem Vals.length{xs:List V}{us:List Value}(r:Vals xs us):xs.length=us.length:=WX r
theorem Vals.get:∀{xs:List V} {us:List Value} {i:Nat} {x:V},Vals xs us->xs[i]?=some x->∃u,us[i]?=some u/\RelV x u
 |_,_,_,_,.nil,e=>by simp at e
 |_,_,0,_,.cons r _,e=>by simp at e;subst e;exact⟨_,rfl,r⟩
 | _,_,i+1,x,.cons _ t,e=>by
   obtain⟨u,b,a⟩:=Vals.get (i:=i) (x:=x) t (by simpa using e);exact⟨u,by simpa using b,a⟩
theorem Vals.set{x:V}{u:Value}(r:RelV x u):∀{xs:List V} {us:List Value} (i:Nat),Vals xs us->Vals (xs.set i x) (us.set i u)
 |_,_,_,.nil=>.nil
 |_,_,0,.cons _ t=>.cons r t
 |_,_,i+1,.cons q t=>.cons q (Vals.set r i t)
theorem Vals.append:∀{xs a:List V} {us b:List Value},Vals xs us->Vals a b->Vals (xs++a) (us++b)
 |_,_,_,_,.nil,s=>s
 |_,_,_,_,.cons r t,s=>.cons r (Vals.append t s)
theorem Vals.take:∀{xs:List V} {us:List Value} (n:Nat),Vals xs us->Vals (xs.take n) (us.take n)
 |_,_,0,_=>.nil
 |_,_,_+1,.nil=>.nil
 |_,_,n+1,.cons r t=>.cons r (Vals.take n t)
theorem Vals.drop:∀{xs:List V} {us:List Value} (n:Nat),Vals xs us->Vals (xs.drop n) (us.drop n)
 |_,_,0,r=>r
 |_,_,_+1,.nil=>.nil
 |_,_,n+1,.cons _ t=>Vals.drop n t
def RelO:Option V->Option Value->Prop
 |some v,some u=>RelV v u
 |none,none=>True
 |_,_=>False
def KV{W:Type}:List (W×V)->List (W×Value)->Prop:=Paired λ(p:W×V) (q:W×Value)=>p.1=q.1/\RelV p.2 q.2
def kV:ay->V
 |.inl i=>.int i
 |.inr x=>.str x
inductive HO where
 /-- a list -/
 |lst (xs:List V)
 /-- a tuple (never changes) -/
 |tup (xs:List V)
 /-- a dict whose keys are ints and texts;one whose keys are tuples of ints and texts (the empty one is both) -/
 |dK (kvs:List (ay×V))|dT (kvs:List (List ay×V))
 /-- a set of ints: its members,its size -/
 |set (S:Int->Bool) (n:Nat)
 /-- an instance of the class at C,its dict at dx,its attributes -/
 |ins (C dx:Addr) (fs:List (Str×V))
 /-- the dict of the instance at x -/
 |own (x:Addr)
 /-- the dict of an exception -/
 |xd (fs:List (Str×V))
 /-- a bound method,f of x -/
 |met (f x:Addr)
 /-- a range object lo,lo+1,.. below hi -/
 |rng (lo hi:Int)
 /-- a thing that is known to the object (the script;a dict while a loop walks it): read,never written while it is so -/
 |frz (o:Obj) (u:HO)
 /-- a code object's table: at each of these places nothing,or a code of that name -/
 |tbl (l:List (Pos×Str))
 /-- any other thing,by what is true of its one object (a def of one's own: SetO a S n:=HO.ext λh=> ..) -/
 |ext (φ:Heap->Prop)
abbrev Hp:=Addr->Option HO
def upd(H:Hp)(a:Addr)(o:HO):Hp:=λb=>if b=a then some o else H b
theorem az{H:Hp}{a:Addr}{o:HO}:upd H a o a=some o:=by unfold upd;rw[if_pos rfl]
theorem ao{H:Hp}{a b:Addr}{o:HO}(h:b≠a):upd H a o b=H b:=by unfold upd;rw[if_neg h]
theorem DH{H:Hp}{a b:Addr}{o u:HO}(h:H a=some o)(h':H b=some u)(d:o≠u):a≠b:=by
 intro e;subst e;rw[h]at h';exact d (Wa h')
theorem aR{H:Hp}{a b:Addr}{o:HO}(h:H a=some o)(h':H b=none):a≠b:=by
 intro e;subst e;rw[h]at h';cases h'
section
variable(P:Program)(w:World)
def ObjOk(H:Hp)(h:Heap)(a:Addr):HO->Prop
 |.lst xs=>xs.length<=sizeLine/\∃(its:List Value) (n:Nat),Vals xs its/\h.get? a=some {cls:=.type "list",data:=.seq its.toArray n}
 |.tup xs=>xs.length<=sizeLine/\∃its:List Value,Vals xs its/\IsTup h a its.toArray
 |.dK kvs=>kvs.length<=sizeLine/\(a==sysModules)=false/\∃vs,KV kvs vs/\h.DictOf (aq P w) a vs
 | .dT kvs=>kvs.length<=sizeLine/\(a==sysModules)=false/\∃xs:List (List ay×Addr×Value),
    Paired (λ(p:List ay×V) (q:List ay×Addr×Value)=>p.1=q.1/\H q.2.1=some (.tup (p.1.map kV))/\RelV p.2 q.2.2) kvs xs/\
    ∃o i ep,h.get? a=some o/\o.ExactDict/\o.data=.dict i ep/\i.toList=xs.map (entryOfKey (tupleKind (aq P w)))/\(xs.map (·.1)).Nodup
 |.set S n=>h.SetOf (intKind P w) a S n
 | .ins C dx fs=>H dx=some (.own a)/\fs.length<=1000/\dx≠a/\h.get? a=some (PySem.W.instObj C dx)/\
    ∃b,h.Ns1 dx b/\(∀f,RelO (fs.lookup f) (b f))/\PySem.Within b (fs.map (·.1))
 |.own _=>∃o,h.get? a=some o
 |.xd fs=>∃b,h.Ns1 a b/\∀f,RelO (fs.lookup f) (b f)
 |.rng lo hi=>∃t u v,h.get? a=some {cls:=.type "range",data:=.fields #[.int lo t,.int hi u,.int 1 v]}
 |.frz o u=>h.get? a=some o/\ObjOk H h a u
 |.tbl l=>(∀y∈l,∀z∈l,y.1.line=z.1.line->y.1.col=z.1.col->y.2=z.2)/\∃ps:Array Value,h.get? a=some {cls:=.none,data:=.fields ps}/\TriplesOk ps.toList/\∀x∈l,codeAmong x.1 ps.toList=none\/∃c,codeAmong x.1 ps.toList=some (.ref c)/\H c=some (.own a)/\h.CodeRec (.ref c) x.2
 |.met f x=>h.get? a=some (PySem.W.methodObj (.ref f) (.ref x))
 |.ext d=>d h/\(∃o,h.get? a=some o)/\∀g e:Heap,d g->(∀o,g.get? a=some o->e.get? a=some o)->d e
def HOk(H:Hp)(h:Heap):Prop:=∀a o,H a=some o->ObjOk P w H h a o
end
section
variable{P:Program}{w:World}{H H':Hp}{h h':Heap}{a:Addr}{o:HO}
theorem ObjOk.lt(x:ObjOk P w H h a o):a<h.objs.size:=by
 cases o with
 |lst xs=>obtain⟨_,_,_,_,e⟩:=x;exact VZ e
 |tup xs=>obtain⟨_,_,_,p⟩:=x;exact p.lt
 |dK kvs=>obtain⟨_,_,_,_,o,_,_,e,_⟩:=x;exact VZ e
 |dT kvs=>obtain⟨_,_,_,_,o,_,_,e,_⟩:=x;exact VZ e
 |set S n=>obtain⟨o,_,_,_,e,_⟩:=x;exact VZ e
 |ins C dx fs=>obtain⟨_,_,_,e,_⟩:=x;exact VZ e
 |own y=>obtain⟨_,e⟩:=x;exact VZ e
 |xd fs=>obtain⟨_,⟨_,_,_,e,_⟩,_⟩:=x;exact VZ e
 |rng lo hi=>obtain⟨_,_,_,e⟩:=x;exact VZ e
 |frz ob u=>obtain⟨e,_⟩:=x;exact VZ e
 |tbl l=>obtain⟨_,_,e,_⟩:=x;exact VZ e
 |met f y=>exact VZ (show h.get? a=some _ from x)
 |ext b=>obtain⟨_,⟨_,e⟩,_⟩:=x;exact VZ e
theorem Paired.mapP{W X:Type}{F G:W->X->Prop}:∀{d:List W} {c:List X},Paired F d c->(∀a b,F a b->G a b)->Paired G d c
 |_,_,.nil,_=>.nil
 |_,_,.cons r t,f=>.cons (f _ _ r) (Paired.mapP t f)
theorem ObjOk.stay(x:ObjOk P w H h a o)(k:∀b u,(b=a\/H b=some (.own a))->h.get? b=some u->h'.get? b=some u)
 (s:∀b,H b=some (.own a)->H' b=some (.own a)) (F:∀b xs,H b=some (.tup xs)->H' b=some (.tup xs)):ObjOk P w H' h' a o:=by
 induction o with
 |lst xs=>obtain⟨z,its,n,r,e⟩:=x;exact⟨z,its,n,r,k _ _ (.inl rfl) e⟩
 |tup xs=>obtain⟨z,its,r,ob,e,c⟩:=x;exact⟨z,its,r,ob,k _ _ (.inl rfl) e,c⟩
 |dK kvs=>obtain⟨z,y,vs,r,ob,i,ep,e,c⟩:=x;exact⟨z,y,vs,r,ob,i,ep,k _ _ (.inl rfl) e,c⟩
 |dT kvs=>
   obtain⟨z,y,xs,r,ob,i,ep,e,c⟩:=x;exact⟨z,y,xs,Paired.mapP r λp q z=>⟨z.1,F _ _ z.2.1,z.2.2⟩,ob,i,ep,k _ _ (.inl rfl) e,c⟩
 |set S n=>obtain⟨ob,i,ep,t,e,c⟩:=x;exact⟨ob,i,ep,t,k _ _ (.inl rfl) e,c⟩
 |ins C dx fs=>
   obtain⟨d,z,ne,e,m,⟨j,i,ep,I,c⟩,r⟩:=x;exact⟨s _ d,z,ne,k _ _ (.inl rfl) e,m,⟨j,i,ep,k _ _ (.inr d) I,c⟩,r⟩
 |own y=>obtain⟨ob,e⟩:=x;exact⟨ob,k _ _ (.inl rfl) e⟩
 |xd fs=>obtain⟨m,⟨j,i,ep,e,c⟩,r⟩:=x;exact⟨m,⟨j,i,ep,k _ _ (.inl rfl) e,c⟩,r⟩
 |rng lo hi=>obtain⟨t,u,v,e⟩:=x;exact⟨t,u,v,k _ _ (.inl rfl) e⟩
 |frz ob u D=>obtain⟨e,q⟩:=x;exact⟨k _ _ (.inl rfl) e,D q⟩
 |tbl l=>
   obtain⟨J,ps,e,t,q⟩:=x;refine⟨J,ps,k _ _ (.inl rfl) e,t,λy E=>?_⟩;rcases q y E with z|⟨c,z,A,⟨L,o,vs,B,G,g,r⟩⟩
   ·exact .inl z
   ·cases G;exact .inr ⟨c,z,s _ A,⟨c,o,vs,B,rfl,k _ _ (.inr A) g,r⟩⟩
 |met f y=>
   have e:h.get? a=some (PySem.W.methodObj (.ref f) (.ref y)):=x;show h'.get? a=some (PySem.W.methodObj (.ref f) (.ref y));exact k a _ (.inl rfl) e
 |ext K=>obtain⟨p,⟨o,e⟩,st⟩:=x;exact⟨st _ _ p λo q=>k _ _ (.inl rfl) q,⟨o,k _ _ (.inl rfl) e⟩,st⟩
theorem HOk.lt(x:HOk P w H h)(e:H a=some o):a<h.objs.size:=(x a o e).lt
theorem HOk.fresh(x:HOk P w H h)(e:h.objs.size<=a):H a=none:=by
 cases q:H a with
 |none=>rfl
 |some u=>exact absurd (Wj (x.lt q) e) (WI _)
theorem HOk.kept(x:HOk P w H h)(k:∀b u,h.get? b=some u->h'.get? b=some u):HOk P w H h':=λa o e=>
 (x a o e).stay (λb u _ q=>k b u q) (λ_ q=>q) λ_ _ q=>q
theorem HOk.laid(x:HOk P w H h)(k:∀b u,h.get? b=some u->h'.get? b=some u)(hp:h.objs.size<=a)(new:ObjOk P w (upd H a o) h' a o):HOk P w (upd H a o) h':=λb u e=>by
 have d:=x.fresh hp;by_cases f:b=a
 ·subst f;rw[az]at e;cases e;exact new
 ·rw[ao f]at e;exact(x b u e).stay (λc v _ q=>k c v q) (λc q=>by rw[ao (aR q d)];exact q) λc xs q=>by rw[ao (aR q d)];exact q
end
def Rd(H:Hp)(a:Addr)(u:HO):Prop:=H a=some u\/∃o,H a=some (.frz o u)
theorem Rd.ok{P:Program}{w:World}{H:Hp}{h:Heap}{a:Addr}{u:HO}(r:Rd H a u)(x:HOk P w H h):ObjOk P w H h a u:=by
 rcases r with r|⟨o,r⟩
 ·exact x a u r
 ·obtain⟨_,q⟩:=x a _ r;exact q
def Uu:Option HO->Prop
 |some (.lst _)=>True
 |some (.dK _)=>True
 |some (.dT _)=>True
 |some (.set _ _)=>True
 |some (.ins _ _ _)=>True
 |some (.ext _)=>True
 |_=>False
section
variable{P:Program}{w:World}{H:Hp}{h h':Heap}{x e:Addr}{o':HO}
theorem HOk.write(ok:HOk P w H h)(g:Uu (H x))(n:e=x\/H e=some (.own x))(k:∀b u,b≠e->h.get? b=some u->h'.get? b=some u)(l:∃u,h'.get? e=some u)
 (new:ObjOk P w (upd H x o') h' x o'):HOk P w (upd H x o') h':=λb u q=>by
 have d:∀c y,H c=some (.own y)->c≠x:=λc y r z=>by subst z;rw[r]at g;exact g
 have f:∀c xs,H c=some (.tup xs)->c≠x:=λc xs r z=>by subst z;rw[r]at g;exact g
 by_cases j:b=x
 ·subst j;rw[az]at q;cases q;exact new
 · rw[ao j]at q;by_cases a:b=e
   · have m:H b=some (.own x):=by
      rcases n with z|z
      ·exact absurd (a.trans z) j
      ·rw[a];exact z
     rw[q]at m;cases m;obtain⟨v,o⟩:=l;exact⟨v,by rw[a];exact o⟩
   · refine(ok b u q).stay (λc v i r=>k c v ?_ r) (λc r=>by rw[ao (d c b r)];exact r) λc xs r=>by rw[ao (f c xs r)];exact r
     rcases i with rfl|i
     ·exact a
     · rintro rfl;rcases n with z|z
       ·exact d c b i z
       ·rw[i]at z;cases z;exact j rfl
end
structure Un (fs ex:List Addr) (H H':Hp) (h h':Heap):Prop where
 keep:∀b o,h.get? b=some o->H b=none->b∉fs->b∉ex->h'.get? b=some o
 slot:∀b o,h.get? b=some o->H b=none->b∈fs->b∉ex->∃sl,h'.get? b=some {o with slots:=sl}
 free:∀b o,h.get? b=some o->H b=none->b∉ex->H' b=none
 there:∀b o,h.get? b=some o->b∉ex->∃o',h'.get? b=some o'
 tups:∀b xs,H b=some (.tup xs)->H' b=some (.tup xs)
 frzs:∀b o u,H b=some (.frz o u)->H' b=some (.frz o u)
 tbls:∀b l,H b=some (.tbl l)->H' b=some (.tbl l)/\∀c o,H c=some (.own b)->h.get? c=some o->H' c=some (.own b)/\h'.get? c=some o
section
variable{fs fs' ex ex':List Addr}{H H1 H2:Hp}{h h1 h2 h':Heap}{a x e:Addr}{o:HO}
theorem Un.any(u:Un fs ex H H1 h h1){b:Addr}{ob:Obj}(q:h.get? b=some ob)(n:H b=none)(a:b∉ex):∃d,h1.get? b=some {ob with slots:=d}:=by
 by_cases c:b∈fs
 ·exact u.slot b ob q n c a
 ·exact⟨ob.slots,u.keep b ob q n c a⟩
theorem Un.kept(k:∀b u,h.get? b=some u->h'.get? b=some u):Un fs ex H H h h':=
 ⟨λb ob q _ _ _=>k b ob q,λb ob q _ _ _=>⟨ob.slots,k b ob q⟩,λ_ _ _ n _=>n,λb ob q _=>⟨ob,k b ob q⟩,λ_ _ q=>q,λ_ _ _ q=>q,λ_ _ q=>⟨q,λc o e1 a=>⟨e1,k c o a⟩⟩⟩
theorem Un.refl:Un fs ex H H h h:=Un.kept λ_ _ q=>q
theorem Un.laid(k:∀b u,h.get? b=some u->h'.get? b=some u)(hp:h.objs.size<=a)(d:H a=none):Un fs ex H (upd H a o) h h' where
 keep:=λb u q _ _ _=>k b u q
 slot:=λb u q _ _ _=>⟨u.slots,k b u q⟩
 free:=λb u q n _=>by rw[ao (Wk (Wj (VZ q) hp))];exact n
 there:=λb u q _=>⟨u,k b u q⟩
 tups:=λb xs q=>by rw[ao (aR q d)];exact q
 frzs:=λb u xs q=>by rw[ao (aR q d)];exact q
 tbls:=λb xs q=>⟨by rw[ao (aR q d)];exact q,λc o e1 e=>⟨by rw[ao (aR e1 d)];exact e1,k c o e⟩⟩
theorem Un.write(a:Uu (H x))(j:e=x\/H e=some (.own x))(k:∀b u,b≠e->h.get? b=some u->h'.get? b=some u)(g:∃u,h'.get? e=some u):Un fs ex H (upd H x o) h h':=by
 have i:∀b,H b=none->b≠x:=λb n z=>by subst z;rw[n]at a;exact a
 have l:∀b,H b=none->b≠e:=λb n z=>by
  subst z;rcases j with r|r
  ·exact i b n r
  ·rw[n]at r;cases r
 have d:∀b u,H b=some u->¬ Uu (some u)->b≠x:=λb u q m z=>by subst z;rw[q]at a;exact m a
 refine⟨λb u q n _ _=>k b u (l b n) q,λb u q n _ _=>⟨u.slots,k b u (l b n) q⟩,λb u q n _=>by rw[ao (i b n)];exact n,λb u q _=>?_,
  λb xs q=>by rw[ao (d b _ q λz=>z)];exact q,λb u xs q=>by rw[ao (d b _ q λz=>z)];exact q,λb ps q=>⟨by rw[ao (d b _ q λz=>z)];exact q,λc o e1 p=>⟨by rw[ao (d c _ e1 λz=>z)];exact e1,k c o (λz=>by
   rcases j with r|r
   ·exact d c _ e1 (λz=>z) (z.trans r)
   ·rw[<-z,e1]at r;cases r;rw[q]at a;exact a) p⟩⟩⟩
 by_cases f:b=e
 ·subst f;exact g
 ·exact⟨u,k b u f q⟩
end
def Uw(h:Heap)(H:Hp):List Addr:=(List.range h.objs.size).filter λa=>(H a).isSome
def nG(h:Heap)(H:Hp):Heap:=PySem.W.hideAll h (Uw h H)
theorem Bb(h:Heap)(H:Hp):(nG h H).objs.size=h.objs.size:=PySem.W.hideAll_size _ _
theorem Fd{h:Heap}{H:Hp}{b:Addr}{o:Obj}(e:h.get? b=some o)(n:H b=none):(nG h H).get? b=some o:=
 PySem.W.hideAll_get _ e λa=>by
  have q:(H b).isSome=true:=(WS.mp a).2;rw[n]at q;simp at q
theorem Iu{h:Heap}{H:Hp}{b:Addr}{o:Obj}(e:(nG h H).get? b=some o):h.get? b=some o/\H b=none:=by
 have a:h.get? b=some o:=PySem.W.of_hideAll (Uw h H) e;refine⟨a,?_⟩;cases q:H b with
 |none=>rfl
 |some x=>
   have c:b∈Uw h H:=WS.mpr ⟨YZ.mpr (VZ a),by simp[q]⟩;have z:(nG h H).get? b=none:=PySem.W.hideAll_none (Uw h H) c;rw[z]at e;cases e
def Jy(g h:Heap)(L:Addr):L9:=(List.range h.objs.size).filterMap λa=>if a=L\/(g.get? a).isSome=true then none else (h.get? a).map λo=>(a,o)
def eM(g h:Heap)(L d:Addr):L9:=(Jy g h L).filter λp=>decide (p.1≠d)
structure Mod (K:F0) (mg:Str->Option Value) (base:Heap):Prop where
 kin:K.In base
 glob:base.Ns mainGlobals mg
 blt:∃mb,base.Ns builtinsNs mb/\∀x:Str,x ≠ "__name__" -> mb x=bootBuiltins x
 nolimit:base.NoLimit
 bmod:∃bm o,mg "__builtins__" = some (.ref bm)/\bm≠builtinsNs/\base.get? bm=some o/\o.cls=.type "module" /\ o.dict=some builtinsNs/\o.data=.plain
structure Cx where
 prog:Program
 w:World
 K:F0
 mg:Str->Option Value
 base:Heap
 A:Around
 N:List Str
 s₀:Shared
 H₀:Hp
 env:Env
 outer:List Env
 stack:List Env
 ex:List Addr
 fn:Str->Bool
 calm:Bool
 pn:L9
 xe:Value->Shared->Prop
def wT(l:List Env):List Addr:=l.filterMap (·.frame)
abbrev Cx.fs(X:Cx):List Addr:=wT X.outer
def UM(sc:Scope)(x:Str):Prop:=sc.names.lookup x=some .local\/sc.names.lookup x=some .cell\/sc.names.lookup x=some .free
def QH(sc:Scope)(x:Str):Prop:=sc.names.lookup x=some .local\/sc.names.lookup x=some .cell
def VG(env:Env)(h:Heap)(m:Str->Option Value)(x:Str)(u:Value):Prop:=
 (env.kindOf x=some .local/\m x=some u)\/((env.kindOf x=some .cell\/env.kindOf x=some .free)/\∃c,env.cells.lookup x=some c/\h.IsCell c (some u))
structure Cx.Ok (X:Cx):Prop where
 mod:Mod X.K X.mg X.base
 kind:X.env.scope.kind=.function
 glob:X.env.globals=mainGlobals
 blt:X.env.builtins=builtinsNs
 above:X.s₀.heap.objs.size<=X.env.locals
 inj:∀x y c,X.env.cells.lookup x=some c->X.env.cells.lookup y=some c->x=y
 has:∀x,(X.env.kindOf x=some .cell\/X.env.kindOf x=some .free)->∃c,X.env.cells.lookup x=some c
 cab:∀x c,X.fn x=true->X.env.cells.lookup x=some c->X.s₀.heap.objs.size<=c
 hd:X.calm=true->X.A.handled=none
 frames:X.A.frames=some X.stack
 stk:X.stack=X.outer\/(X.stack=X.env::X.outer/\X.env.frame=some X.env.locals)
 exf:∀b∈X.ex,b≠X.env.locals/\∀x c,X.env.cells.lookup x=some c->c≠b
 bs:∀b o,X.base.get? b=some o->X.s₀.heap.get? b=some o/\X.H₀ b=none
 bsz:X.base.objs.size<=X.s₀.heap.objs.size
 noex:∀b o,X.base.get? b=some o->b∉X.ex
 exfs:∀b∈X.ex,b∉X.fs
 funs:X.s₀.heap.FunFrames X.base X.outer
 frf:∀b∈X.fs,X.H₀ b=none
structure Inv (X:Cx) (G:L9) (Z:List (Option V)) (H:Hp) (s:Shared):Prop where
 ok:X.Ok
 os:s.os=X.s₀.os
 bare:AllBare s.gens
 base:Un X.fs X.ex X.H₀ H X.s₀.heap s.heap
 loc:∃m,s.heap.Ns X.env.locals m/\∀(i:Nat) (x:Str) (v:V),X.N[i]?=some x->Z[i]?=some (some v)->UM X.env.scope x->∃u,RelV v u/\VG X.env s.heap m x u
 cell:∀x c,X.env.cells.lookup x=some c->∃v,s.heap.IsCell c v
 free:H X.env.locals=none
 freeC:∀x c,X.env.cells.lookup x=some c->H c=none
 pin:∀p∈X.pn++G,s.heap.get? p.1=some p.2/\H p.1=none/\p.1≠X.env.locals/\p.1∉X.fs/\∀v,p.2.data≠ .cell v
 hok:HOk X.prog X.w H s.heap
 len:Z.length=X.N.length
section
variable{X:Cx}{G:L9}{Z:List (Option V)}{H H':Hp}{s:Shared}{h':Heap}
theorem Cx.Ok.nofr(ok:X.Ok){b:Addr}{o:Obj}(e:X.base.get? b=some o):b∉X.fs:=λa=>by
 have:=(ok.funs.mem a).1
 rw[e]at this;cases this
theorem Inv.bs(I:Inv X G Z H s):∀b o,X.base.get? b=some o->s.heap.get? b=some o/\H b=none:=λb o e=>
 ⟨I.base.keep b o (I.ok.bs b o e).1 (I.ok.bs b o e).2 (I.ok.nofr e) (I.ok.noex b o e),I.base.free b o (I.ok.bs b o e).1 (I.ok.bs b o e).2 (I.ok.noex b o e)⟩
theorem Inv.bk(I:Inv X G Z H s):∀b o,X.base.get? b=some o->s.heap.get? b=some o:=λb o e=>(I.bs b o e).1
theorem Inv.mod(I:Inv X G Z H s):Mod X.K X.mg X.base:=I.ok.mod
theorem Inv.kIn(I:Inv X G Z H s):X.K.In s.heap:=I.ok.mod.kin.keeps I.bk
theorem Inv.lt(I:Inv X G Z H s):X.env.locals<s.heap.objs.size:=let ⟨_,a,_⟩:=I.loc;a.lt
theorem Inv.sz(I:Inv X G Z H s):X.s₀.heap.objs.size<=s.heap.objs.size:=Wl I.ok.above (WY I.lt)
theorem Inv.nofs(I:Inv X G Z H s){a:Addr}(h:s.heap.objs.size<=a):a∉X.fs:=λc=>by
 obtain⟨_,o,b,_⟩:=I.ok.funs.mem c;exact absurd (Wj (VZ b) (Wl I.sz h)) (WI _)
theorem Inv.cne(I:Inv X G Z H s):∀x c,X.env.cells.lookup x=some c->c≠X.env.locals:=λx c e z=>by
 obtain⟨v,o,d,hd⟩:=I.cell x c e;obtain⟨m,⟨o',f,ep,a,b,_⟩,_⟩:=I.loc;rw[z,a]at d;cases d;rw[b]at hd;cases hd
theorem Inv.funs(I:Inv X G Z H s):s.heap.FunFrames X.base X.outer:=by
 have all:∀(l:List Env),(∀b∈wT l,b∈X.fs)->X.s₀.heap.FunFrames X.base l->s.heap.FunFrames X.base l:=by
  intro l
  induction l with
  |nil=>intro _ _;trivial
  |cons env r g=>
    intro f k;obtain⟨m,⟨L,o,a,j,i,hd⟩,h⟩:=k;have d:L∈X.fs:=f L (by unfold wT;rw[List.filterMap_cons,a];exact List.mem_cons_self);obtain⟨n,e⟩:=I.base.slot L o i (I.ok.frf L d) d λz=>I.ok.exfs L z d;exact⟨m,⟨L,_,a,j,e,hd⟩,g (λb c=>f b (by unfold wT;rw[List.filterMap_cons,a];exact List.mem_cons_of_mem _ c)) h⟩
 exact all X.outer (λ_ c=>c) I.ok.funs
theorem Inv.stack(I:Inv X G Z H s):s.heap.FunFrames X.base X.stack:=by
 rcases I.ok.stk with e|⟨e,b⟩
 ·rw[e];exact I.funs
 ·rw[e];obtain⟨m,a,_⟩:=I.loc;refine .cons (by rw[I.ok.kind];decide) b a ?_ I.funs;exact Heap.get?_none_of_le (Wl I.ok.bsz I.ok.above)
theorem Inv.stkSub(I:Inv X G Z H s):∀b∈wT X.stack,b∈X.env.locals::X.fs:=λb a=>by
 rcases I.ok.stk with e|⟨e,c⟩
 ·rw[e]at a;exact VR _ a
 ·rw[e]at a;unfold wT at a;rw[List.filterMap_cons,c]at a;exact a
theorem Inv.stkFree(I:Inv X G Z H s):∀b∈wT X.stack,H b=none:=λb a=>by
 rcases VY.mp (I.stkSub b a) with e|a
 ·rw[e];exact I.free
 ·obtain⟨_,o,c,_⟩:=I.ok.funs.mem a;exact I.base.free b o c (I.ok.frf b a) λz=>I.ok.exfs b z a
theorem Inv.step{g':Array GenState}{t':Nat}{d':Drawn}{ch:List Addr}(I:Inv X G Z H s)
 (g:∀b∈ch,(b∈X.ex\/X.s₀.heap.objs.size<=b)/\b≠X.env.locals/\(∀x c,X.env.cells.lookup x=some c->c≠b)/\∀p∈X.pn++G,p.1≠b)
 (keep:∀b o,b≠X.env.locals->b∉X.fs->b∉ch->s.heap.get? b=some o->H b=none->h'.get? b=some o)
 (slot:∀b o,b≠X.env.locals->b∈X.fs->b∉ch->s.heap.get? b=some o->H b=none->∃D,h'.get? b=some {o with slots:=D}) (free:∀b o,b∉ch->s.heap.get? b=some o->H b=none->H' b=none)
 (there:∀b o,b∉ch->s.heap.get? b=some o->∃o',h'.get? b=some o')
 (tups:∀b xs,H b=some (.tup xs)->H' b=some (.tup xs)) (frzs:∀b o u,H b=some (.frz o u)->H' b=some (.frz o u)) (tbls:∀b l,H b=some (.tbl l)->H' b=some (.tbl l)/\∀c o,H c=some (.own b)->s.heap.get? c=some o->H' c=some (.own b)/\h'.get? c=some o)
 (ns:∀m,s.heap.Ns X.env.locals m->h'.Ns X.env.locals m) (hok:HOk X.prog X.w H' h') (L:AllBare g'):
 Inv X G Z H' {s with heap:=h',gens:=g',drawn:=d',toks:=t'}:=by
 have A:∀b o,X.s₀.heap.get? b=some o->b≠X.env.locals:=λb o e=>Wk (Wj (VZ e) I.ok.above)
 have j:∀b o,X.s₀.heap.get? b=some o->b∉X.ex->b∉ch:=λb o e a t=>by
  rcases(g b t).1 with z|z
  ·exact a z
  ·exact absurd (Wj (VZ e) z) (WI _)
 have h:∀x c,X.env.cells.lookup x=some c->∀v,s.heap.IsCell c v->h'.IsCell c v:=λx c e v ⟨o,y,hd⟩=>by
  have f:c∉ch:=λz=>(g c z).2.2.1 x c e rfl;by_cases F:c∈X.fs
  ·obtain⟨D,q⟩:=slot c o (I.cne x c e) F f y (I.freeC x c e);exact⟨_,q,hd⟩
  ·exact⟨o,keep c o (I.cne x c e) F f y (I.freeC x c e),hd⟩
 refine⟨I.ok,I.os,L,⟨λb o e n t a=>?_,λb o e n t a=>?_,λb o e n a=>?_,λb o e a=>?_,λb xs e=>tups b xs (I.base.tups b xs e),λb o xs e=>frzs b o xs (I.base.frzs b o xs e),λb ps e=>⟨(tbls b ps (I.base.tbls b ps e).1).1,λc o e1 B=>let ⟨N,M⟩:=(I.base.tbls b ps e).2 c o e1 B;(tbls b ps (I.base.tbls b ps e).1).2 c o N M⟩⟩,?_,λx c e=>?_,?_,λx c e=>?_,λp hp=>?_,hok,I.len⟩
 ·exact keep b o (A b o e) t (j b o e a) (I.base.keep b o e n t a) (I.base.free b o e n a)
 ·obtain⟨D,e1⟩:=I.base.slot b o e n t a;obtain⟨C,B⟩:=slot b _ (A b o e) t (j b o e a) e1 (I.base.free b o e n a);exact⟨C,B⟩
 ·obtain⟨o',e1⟩:=I.base.there b o e a;exact free b o' (j b o e a) e1 (I.base.free b o e n a)
 ·obtain⟨o',e1⟩:=I.base.there b o e a;exact there b o' (j b o e a) e1
 · obtain⟨m,J,K⟩:=I.loc;refine⟨m,ns m J,λi x v e1 B O=>?_⟩;obtain⟨u,r,l⟩:=K i x v e1 B O;refine⟨u,r,?_⟩;rcases l with l|⟨k,c,e,z⟩
   ·exact .inl l
   ·exact .inr ⟨k,c,e,h x c e _ z⟩
 ·obtain⟨v,z⟩:=I.cell x c e;exact⟨v,h x c e v z⟩
 ·obtain⟨m,⟨o,_,_,y,_⟩,_⟩:=I.loc;exact free _ o (λz=>(g _ z).2.1 rfl) y I.free
 ·obtain⟨v,o,y,hd⟩:=I.cell x c e;exact free c o (λz=>(g c z).2.2.1 x c e rfl) y (I.freeC x c e)
 ·obtain⟨e,n,ne,E,d⟩:=I.pin p hp;have f:p.1∉ch:=λz=>(g p.1 z).2.2.2 p hp rfl;exact⟨keep p.1 p.2 ne E f e n,free p.1 p.2 f e n,ne,E,d⟩
theorem Inv.un{t':Nat}(I:Inv X G Z H s)(u:Un X.fs [] H H' s.heap h')(hok:HOk X.prog X.w H' h'):Inv X G Z H' {s with heap:=h',toks:=t'}:=by
 obtain⟨m,⟨o,p,ep,g,r⟩,_⟩:=id I.loc;obtain⟨k,j⟩:=u.any g I.free (by simp)
 exact I.step (g':=s.gens) (d':=s.drawn) (ch:=[]) (λ_ z=>nomatch z) (λb o _ c _ e n=>u.keep b o e n c (by simp)) (λb o _ c _ e n=>u.slot b o e n c (by simp)) (λb o _ e n=>u.free b o e n (by simp)) (λb o _ e=>u.there b o e (by simp)) u.tups u.frzs u.tbls (λl i=>by
  obtain⟨o',d,f,a,h⟩:=i;rw[g]at a;cases a
  exact⟨_,d,f,j,h⟩) hok I.bare
theorem Inv.call{g':Array GenState}{t':Nat}{d':Drawn}{ch:List Addr}(I:Inv X G Z H s)(u:Un (wT X.stack) ch H H' s.heap h')(hok:HOk X.prog X.w H' h')(q:AllBare g')
 (f:∀b∈ch,(b∈X.ex\/X.s₀.heap.objs.size<=b)/\b≠X.env.locals/\(∀x c,X.env.cells.lookup x=some c->c≠b)/\∀p∈X.pn++G,p.1≠b):
 Inv X G Z H' {s with heap:=h',gens:=g',drawn:=d',toks:=t'}:=by
 obtain⟨m,⟨o,A,ep,j,r⟩,_⟩:=id I.loc;obtain⟨v,g⟩:=u.any j I.free λz=>(f _ z).2.1 rfl
 exact I.step (ch:=ch) f (λb o g t a e n=>u.keep b o e n (λz=>(VY.mp (I.stkSub b z)).elim g t) a) (λb o _ _ a e n=>u.any e n a) (λb o a e n=>u.free b o e n a) (λb o a e=>u.there b o e a) u.tups u.frzs u.tbls (λy l=>by
  obtain⟨o',h,i,d,k⟩:=l;rw[j]at d;cases d
  exact⟨_,h,i,g,k⟩) hok q
theorem Inv.turned{t':Nat}{a:Addr}(I:Inv X G Z H s)(k:∀b o,b≠a->s.heap.get? b=some o->h'.get? b=some o)(g:H a=none)(h:a≠X.env.locals)
 (y:a∈X.ex\/X.s₀.heap.objs.size<=a) (w:∀x c,X.env.cells.lookup x=some c->c≠a) (t:∀p∈X.pn++G,p.1≠a):Inv X G Z H {s with heap:=h',toks:=t'}:=by
 have f:∀b u,H b=some u->b≠a:=λb u e z=>by rw[z,g]at e;cases e
 refine I.step (g':=s.gens) (d':=s.drawn) (ch:=[a]) (λb l=>?_) (λb o _ _ d e _=>k b o (λz=>d (by simp[z])) e) (λb o _ _ d e _=>⟨o.slots,k b o (λz=>d (by simp[z])) e⟩) (λ_ _ _ _ n=>n)
  (λb o d e=>⟨o,k b o (λz=>d (by simp[z])) e⟩) (λ_ _ e=>e) (λ_ _ _ e=>e) (λ_ _ e=>⟨e,λc o e1 B=>⟨e1,k c o (aR e1 g) B⟩⟩) (λm j=>?_) (λb u e=>?_) I.bare
 · have e:b=a:=by simpa using l
   subst e;exact⟨y,h,w,t⟩
 ·obtain⟨o,A,ep,i,r⟩:=j;exact⟨o,A,ep,k _ o (Xp h) i,r⟩
 · refine(I.hok b u e).stay (λc v d q=>k c v ?_ q) (λ_ q=>q) λ_ _ q=>q;rcases d with z|z
   ·rw[z];exact f b u e
   ·exact f c _ z
theorem Inv.tok(I:Inv X G Z H s)(t:Nat):Inv X G Z H {s with toks:=t}:=I.un (h':=s.heap) (t':=t) Un.refl I.hok
theorem Inv.kept{t':Nat}(I:Inv X G Z H s)(k:∀b u,s.heap.get? b=some u->h'.get? b=some u):Inv X G Z H {s with heap:=h',toks:=t'}:=I.un (Un.kept k) (I.hok.kept k)
theorem Inv.laid{a:Addr}{o:HO}{t':Nat}(I:Inv X G Z H s)(k:∀b u,s.heap.get? b=some u->h'.get? b=some u)(hp:s.heap.objs.size<=a)(new:ObjOk X.prog X.w (upd H a o) h' a o):
 Inv X G Z (upd H a o) {s with heap:=h',toks:=t'}:=I.un (Un.laid k hp (I.hok.fresh hp)) (I.hok.laid k hp new)
theorem Inv.write{x e:Addr}{o:HO}{t':Nat}(I:Inv X G Z H s)(c:Uu (H x))(d:e=x\/H e=some (.own x))(k:∀b u,b≠e->s.heap.get? b=some u->h'.get? b=some u)(a:∃u,h'.get? e=some u)
 (new:ObjOk X.prog X.w (upd H x o) h' x o):Inv X G Z (upd H x o) {s with heap:=h',toks:=t'}:=I.un (Un.write c d k a) (I.hok.write c d k a new)
theorem Inv.pins_of{a:L9}(I:Inv X G Z H s)(h:∀p∈a,s.heap.get? p.1=some p.2/\H p.1=none/\p.1≠X.env.locals/\p.1∉X.fs/\∀v,p.2.data≠ .cell v):Inv X a Z H s:=
 ⟨I.ok,I.os,I.bare,I.base,I.loc,I.cell,I.free,I.freeC,λp hp=>(VW.mp hp).elim (λz=>I.pin p (V0 _ z)) (h p),I.hok,I.len⟩
theorem tW{N:List Str}(c:N.Nodup){i j:Nat}{x:Str}(a:N[i]?=some x)(b:N[j]?=some x):i=j:=by
 obtain⟨f,e1⟩:=V6.mp a;obtain⟨e,d⟩:=V6.mp b;exact(List.getElem_inj c).mp (e1.trans d.symm)
theorem Ah{M:Model}{A:Around}{E:LV}{i:Nat}{x:Str}{v:V}{u:Value}{Q:Unit->Shared->Prop}(I:Inv X G Z H s)(hN:X.N.Nodup)(hi:X.N[i]?=some x)(B:QH X.env.scope x)(r:RelV v u)
 (h:∀s',Inv X G (Z.set i (some v)) H s'->(∃a,Heap.SameBut a s.heap s'.heap/\(a=X.env.locals\/X.env.cells.lookup x=some a))->Q () s') (hf:X.fn x=true\/X.env.scope.names.lookup x=some .local:=by first | exact .inl rfl | exact .inr rfl | assumption):wpAny M A (storeName X.env x u) Q E s:=by
 obtain⟨m,hn,hl⟩:=id I.loc;have T:(X.env.scope.kind == .class||(X.env.scope.kind == .module&&X.env.locals != X.env.globals))=false:=by rw[I.ok.kind];rfl
 have J:i<Z.length:=by rw[I.len];exact(V6.mp hi).1
 have cne:=I.cne
 have g:∀{a:Addr} {h':Heap},(∃o,s.heap.get? a=some o/\H a=none)->Heap.SameBut a s.heap h'->HOk X.prog X.w H h':=λ{a h'} ha f b ob e=>by
  obtain⟨_,_,D⟩:=ha;refine(I.hok b ob e).stay (λc w' t q=>(f.2 c ?_).trans q) (λ_ q=>q) λ_ _ q=>q;rintro rfl;rcases t with rfl|t
  ·rw[D]at e;cases e
  ·rw[D]at t;cases t
 rcases B with F|F
 · refine wpAny_storeName_local F hn (λh' hn' f=>?_) T;obtain⟨oL,_,_,hoL,_⟩:=id hn;refine h _ ⟨I.ok,I.os,I.bare,⟨λb o e n O B=>?_,λb o e n O B=>?_,I.base.free,λb o e B=>?_,I.base.tups,I.base.frzs,λb l q=>⟨(I.base.tbls b l q).1,λc o e1 C=>let ⟨Y,f2⟩:=(I.base.tbls b l q).2 c o e1 C;⟨Y,(f.2 c (aR Y I.free)).trans f2⟩⟩⟩,⟨_,hn',λj y v' e1 C e3=>?_⟩,λy c e=>?_,I.free,I.freeC,λp hp=>?_,g ⟨oL,hoL,I.free⟩ f,by simpa using I.len⟩ ⟨_,f,.inl rfl⟩
   ·exact(f.2 b (Wk (Wj (VZ e) I.ok.above))).trans (I.base.keep b o e n O B)
   ·obtain⟨sl,e1⟩:=I.base.slot b o e n O B;exact⟨sl,(f.2 b (Wk (Wj (VZ e) I.ok.above))).trans e1⟩
   ·obtain⟨o',e1⟩:=I.base.there b o e B;exact⟨o',(f.2 b (Wk (Wj (VZ e) I.ok.above))).trans e1⟩
   · by_cases K:j=i
     ·subst K;rw[hi]at e1;cases e1;rw[Xv J]at C;cases C;exact⟨u,r,.inl ⟨F,by simp⟩⟩
     · rw[X0 (Xp K)]at C;obtain⟨u',r',q⟩:=hl j y v' e1 C e3;refine⟨u',r',?_⟩;rcases q with ⟨k,e⟩|⟨k,c,e,z⟩
       · refine .inl ⟨k,?_⟩
         have:y≠x:=λe=>K (tW hN e1 (e▸hi))
         simp[this,e]
       ·exact .inr ⟨k,c,e,z.sameBut f (cne y c e)⟩
   ·obtain⟨w',z⟩:=I.cell y c e;exact⟨w',z.sameBut f (cne y c e)⟩
   ·obtain⟨e,n,ne,nf,d⟩:=I.pin p hp;exact⟨(f.2 p.1 ne).trans e,n,ne,nf,d⟩
 · have L:X.fn x=true:=by
    rcases hf with z|z
    ·exact z
    ·rw[z]at F;cases F
   obtain⟨c,t⟩:=I.ok.has x (.inl F);obtain⟨w',z⟩:=I.cell x c t;refine wpAny_storeName_cell I.ok.kind F t z (λh' W f=>?_);obtain⟨oc,S,R⟩:=id z;refine h {s with heap:=h'} ⟨I.ok,I.os,I.bare,⟨λb o e n O B=>?_,λb o e n O B=>?_,I.base.free,λb o e B=>?_,I.base.tups,I.base.frzs,λb l q=>⟨(I.base.tbls b l q).1,λP o e1 C=>let ⟨Y,f2⟩:=(I.base.tbls b l q).2 P o e1 C;⟨Y,(f.2 P (aR Y (I.freeC x c t))).trans f2⟩⟩⟩,⟨m,hn.sameBut f (Xp (cne x c t)),λj y v' e1 C e3=>?_⟩,λy P e=>?_,I.free,I.freeC,λp hp=>?_,g ⟨oc,S,I.freeC x c t⟩ f,by simpa using I.len⟩ ⟨c,f,.inr t⟩
   ·exact(f.2 b (Wk (Wj (VZ e) (I.ok.cab x c L t)))).trans (I.base.keep b o e n O B)
   ·obtain⟨sl,e1⟩:=I.base.slot b o e n O B;exact⟨sl,(f.2 b (Wk (Wj (VZ e) (I.ok.cab x c L t)))).trans e1⟩
   ·obtain⟨o',e1⟩:=I.base.there b o e B;exact⟨o',(f.2 b (Wk (Wj (VZ e) (I.ok.cab x c L t)))).trans e1⟩
   · by_cases K:j=i
     ·subst K;rw[hi]at e1;cases e1;rw[Xv J]at C;cases C;exact⟨u,r,.inr ⟨.inl F,c,t,W⟩⟩
     · rw[X0 (Xp K)]at C;obtain⟨u',r',q⟩:=hl j y v' e1 C e3;refine⟨u',r',?_⟩;rcases q with q|⟨k,P,e,z'⟩
       ·exact .inl q
       ·refine .inr ⟨k,P,e,z'.sameBut f ?_⟩;rintro rfl;exact K (tW hN e1 (I.ok.inj _ _ _ e t▸hi))
   · by_cases U:P=c
     ·subst U;exact⟨_,W⟩
     ·obtain⟨w2,z2⟩:=I.cell y P e;exact⟨w2,z2.sameBut f U⟩
   ·obtain⟨e,n,ne,nf,d⟩:=I.pin p hp;refine⟨(f.2 p.1 ?_).trans e,n,ne,nf,d⟩;intro q;rw[q,S]at e;have q':oc=p.2:=Wa e;exact d w' (by rw[<-q'];exact R)
theorem mW{M:Model}{A:Around}{E:LV}{i:Nat}{x:Str}{v:V}{u:Value}{Q:Unit->Shared->Prop}(I:Inv X G Z H s)(d:X.N.Nodup)(hi:X.N[i]?=some x)(b:QH X.env.scope x)(r:RelV v u)
 (h:∀a,Inv X G (Z.set i (some v)) H a->Q () a) (c:X.fn x=true\/X.env.scope.names.lookup x=some .local:=by first | exact .inl rfl | exact .inr rfl | assumption):wpAny M A (storeName X.env x u) Q E s:=
 Ah I d hi b r (λa e _=>h a e) c
theorem Inv.call'{a:Shared}{ch:List Addr}(I:Inv X G Z H s)(f:a.os=s.os)(u:Un (wT X.stack) ch H H' s.heap a.heap)(hok:HOk X.prog X.w H' a.heap)(g:AllBare a.gens)
 (d:∀b∈ch,(b∈X.ex\/X.s₀.heap.objs.size<=b)/\b≠X.env.locals/\(∀x c,X.env.cells.lookup x=some c->c≠b)/\∀p∈X.pn++G,p.1≠b):Inv X G Z H' a:=by
 obtain⟨h',g',d',t',o'⟩:=a;have e:o'=s.os:=f;subst e;exact I.call (g':=g') (t':=t') (d':=d') u hok g d
end
abbrev XK:=Value->Option Addr->Hp->Prop
abbrev St:=List (Option V)
abbrev VK:=V->Hp->Prop
abbrev TE:=St->Hp->VK->Prop
abbrev TT:=St->Hp->(Bool->Hp->Prop)->Prop
abbrev TA:=St->Hp->(List V->Hp->Prop)->Prop
structure Ends where
 nx:St->Hp->Prop
 rt:VK
 bk:St->Hp->Prop:=λ_ _=>False
 ct:St->Hp->Prop:=λ_ _=>False
abbrev TS:=Ends->St->Hp->Prop
def EP(X:Cx)(G:L9)(Z:St)(Q:VK)(u:Value)(a:Shared):Prop:=∃v H',Inv X G Z H' a/\RelV v u/\Q v H'
def TP(X:Cx)(G:L9)(Z:St)(Q:Bool->Hp->Prop)(b:Bool)(a:Shared):Prop:=∃H',Inv X G Z H' a/\Q b H'
def AP(X:Cx)(G:L9)(Z:St)(Q:List V->Hp->Prop)(us:List Value)(a:Shared):Prop:=∃vs H',Inv X G Z H' a/\Vals vs us/\Q vs H'
def SP(X:Cx)(G:L9)(D:Ends)(f:Flow)(b:Shared):Prop:=
 match f with
 |.next=>∃a H',Inv X G a H' b/\D.nx a H'
 |.brk=>∃a H',Inv X G a H' b/\D.bk a H'
 |.cont=>∃a H',Inv X G a H' b/\D.ct a H'
 |.ret u=>∃v a H',Inv X G a H' b/\RelV v u/\D.rt v H'
def PE(X:Cx)(e:Expr)(t:TE):Prop:=
 ∀(G:L9) (s:Shared) (Z:St) (H:Hp) (Q:VK),Inv X G Z H s->t Z H Q->wpAny (model X.prog X.w) X.A (eval e X.env) (EP X G Z Q) X.xe s
def PT(X:Cx)(e:Expr)(t:TT):Prop:=
 ∀(G:L9) (s:Shared) (Z:St) (H:Hp) (Q:Bool->Hp->Prop),Inv X G Z H s->t Z H Q->wpAny (model X.prog X.w) X.A (isTrue e X.env (eval e X.env)) (TP X G Z Q) X.xe s
def PW(X:Cx)(e:Expr)(t:TT):Prop:=
 ∀(whole:Sem Value) (G:L9) (s:Shared) (Z:St) (H:Hp) (Q:Bool->Hp->Prop),Inv X G Z H s->t Z H Q->wpAny (model X.prog X.w) X.A (isTrue e X.env whole) (TP X G Z Q) X.xe s
theorem PW.pt{X:Cx}{e:Expr}{t:TT}(h:PW X e t):PT X e t:=h _
def PA(X:Cx)(a:List Expr)(t:TA):Prop:=
 ∀(pos:Pos) (G:L9) (s:Shared) (Z:St) (H:Hp) (Q:List V->Hp->Prop),Inv X G Z H s->t Z H Q->wpAny (model X.prog X.w) X.A (spliced (backTo pos (starEach a X.env))) (AP X G Z Q) X.xe s
def PS(X:Cx)(st:Stmt)(t:TS):Prop:=
 ∀(G:L9) (s:Shared) (Z:St) (H:Hp) (D:Ends),Inv X G Z H s->t D Z H->wpAny (model X.prog X.w) X.A (exec st X.env) (SP X G D) X.xe s
def PSs(X:Cx)(st:List Stmt)(t:TS):Prop:=
 ∀(G:L9) (s:Shared) (Z:St) (H:Hp) (D:Ends),Inv X G Z H s->t D Z H->wpAny (model X.prog X.w) X.A (execs st X.env) (SP X G D) X.xe s
theorem bb{W:Type}{t:Sem W}{Q b:W->Shared->Prop}{M:Model}{A:Around}{E:LV}{s:Shared}(h:wpAny M A t Q E s)(c:∀a s,Q a s->b a s):wpAny M A t b E s:=XZ h c λ_ _ x=>x
section
variable{X:Cx}
def cF(i:Nat):TE:=λZ H Q=>∃v,Z[i]?=some (some v)/\Q v H
def tC(v:V):TE:=λ_ H Q=>Q v H
theorem MP{i:Nat}{x:Str}{pos:Pos}(p:X.N[i]?=some x)(j:UM X.env.scope x)(hd:(x==("__debug__" : Str))=false:=by decide)(f:(x==("__classdict__" : Str))=false:=by decide):PE X (.Name x pos) (cF i):=by
 intro G s Z H Q I h;obtain⟨v,e,h⟩:=h;obtain⟨m,k,o⟩:=I.loc;obtain⟨u,r,l⟩:=o i x v p e j;have d:EP X G Z Q u s:=⟨v,H,I,r,h⟩;rcases l with ⟨b,n⟩|⟨b,c,g,a⟩
 ·exact wpAny_Name (wpAny_loadName_local I.ok.kind b k n d) hd
 · rcases b with b|b
   ·exact wpAny_Name (wpAny_loadName_cell I.ok.kind b g a d) hd
   ·exact wpAny_Name (wpAny_loadName_free I.ok.kind b g a d f) hd
theorem MV{i j pos}:PE X (.Constant (.int i) j pos) (tC (.int i)):=λ_ _ _ H _ I h=>wpAny_Constant_int ⟨.int i,H,I.tok _,⟨_,rfl⟩,h⟩
theorem Ru{b j pos}:PE X (.Constant (.bool b) j pos) (tC (.bl b)):=λ_ _ _ H _ I h=>Constant_bool ⟨.bl b,H,I,rfl,h⟩
theorem MT{j pos}:PE X (.Constant .none j pos) (tC .non):=λ_ _ _ H _ I h=>Constant_none ⟨.non,H,I,rfl,h⟩
def Gl(X:Cx)(x:Str):Prop:=X.env.kindOf x=some .globalImplicit
theorem rM{E:LV}{G:L9}{s:Shared}{Z:St}{H:Hp}{x:Str}{u:Value}{pos:Pos}{Q:LV}(I:Inv X G Z H s)(b:Gl X x)(a:X.mg x=some u)(h:Q u s)
 (hd:(x==("__debug__" : Str))=false:=by decide):wpAny (model X.prog X.w) X.A (eval (.Name x pos) X.env) Q E s:=
 Yb I.ok.kind b (Calls.loadGlobal_global (by rw[I.ok.glob];exact I.mod.glob.keeps I.bk) a h) hd
theorem jo{E:LV}{G:L9}{s:Shared}{Z:St}{H:Hp}{x:Str}{u:Value}{pos:Pos}{Q:LV}(I:Inv X G Z H s)(d:Gl X x)(c:X.mg x=none)(a:bootBuiltins x=some u)(h:Q u s)
 (b:x ≠ "__name__" := by decide) (hd:(x==("__debug__" : Str))=false:=by decide):wpAny (model X.prog X.w) X.A (eval (.Name x pos) X.env) Q E s:=by
 obtain⟨g,f,e⟩:=I.mod.blt;exact Yb I.ok.kind d (Calls.loadGlobal_builtin (by rw[I.ok.glob];exact I.mod.glob.keeps I.bk) c (by rw[I.ok.blt];exact f.keeps I.bk) ((e x b).trans a) h) hd
theorem HY{x:Str}{v:V}{u:Value}{pos:Pos}(b:Gl X x)(a:X.mg x=some u)(r:RelV v u)(hd:(x==("__debug__" : Str))=false:=by decide):PE X (.Name x pos) (tC v):=
 λ_ _ _ H _ I h=>rM I b a ⟨v,H,I,r,h⟩ hd
theorem Ib{x:Str}{v:V}{u:Value}{pos:Pos}(d:Gl X x)(c:X.mg x=none)(a:bootBuiltins x=some u)(r:RelV v u)(b:x ≠ "__name__" := by decide)(hd:(x==("__debug__" : Str))=false:=by decide):PE X (.Name x pos) (tC v):=
 λ_ _ _ H _ I h=>jo I d c a ⟨v,H,I,r,h⟩ b hd
variable{a b:Expr}{ta tb:TE}{pos:Pos}
def PC(X:Cx)(op:CmpOp)(a b:Expr)(t:TE):Prop:=
 ∀(G:L9) (s:Shared) (Z:St) (H:Hp) (Q:VK),Inv X G Z H s->t Z H Q->
  wpAny (model X.prog X.w) X.A (eval a X.env) (λv d=>wpAny (model X.prog X.w) X.A (eval b X.env) (λu c=>wpAny (model X.prog X.w) X.A (compareOp op v u) (EP X G Z Q) X.xe c) X.xe d) X.xe s
theorem tY(b:Expr){op:CmpOp}(h:op≠ .In)(a:op≠ .NotIn):behindInMarks op b=false:=by
 have e1:(op == CmpOp.In)=false:=by cases op <;> first | rfl | exact absurd rfl h
 have c:(op == CmpOp.NotIn)=false:=by cases op <;> first | rfl | exact absurd rfl a
 cases b<;>simp[behindInMarks,e1,c]
def tB(t:TE):TT:=λZ H Q=>t Z H λx H1=>∃c,x=.bl c/\Q c H1
theorem MX{op:CmpOp}{t:TE}(h:PC X op a b t)(d:behindInMarks op b=false:=by first | exact tY _ (by decide) (by decide) | rfl):PE X (.Compare a [op] [b] pos) t:=λG s Z H Q I c=>wpAny_Compare1 (h G s Z H Q I c) d
theorem Mw{op:CmpOp}{t:TE}(h:PC X op a b t)(e:behindInMarks op b=false:=by first | exact tY _ (by decide) (by decide) | rfl):PT X (.Compare a [op] [b] pos) (tB t):=by
 intro G s Z H Q I i;refine wpAny_isTrue_Compare1 (bb (h G s Z H _ I i) λv n e=>bb e λu m j=>bb j λc l ⟨x,H1,k,f,g⟩=>?_) e;obtain⟨d,rfl,q⟩:=g;cases f;exact W4 ⟨H1,k,q⟩
theorem Mu{e:Expr}{t:TE}(h:PE X e t)(f:∀whole,isTrue e X.env whole=(do let v <-whole;standAt e.pos;holding [v] (truthy v)):=by intro _;rfl):PT X e (tB t):=by
 intro G s Z H Q I c;refine isTrue_plain (bb (h G s Z H _ I c) λv i ⟨x,H1,g,a,b⟩=>?_) (f _);obtain⟨d,rfl,q⟩:=b;cases a;exact W4 ⟨H1,g,q⟩
variable{tA tB':TT}{eM:List Expr}
def LW(t u:TT):TT:=λZ H Q=>t Z H λc H1=>if c=true then u Z H1 Q else Q false H1
def UW(t u:TT):TT:=λZ H Q=>t Z H λc H1=>if c=true then Q true H1 else u Z H1 Q
def LO(t:TT):TT:=λZ H Q=>t Z H λc H1=>Q (!c) H1
theorem Hy(b:PT X a tA):PW X (.BoolOp .And [a] pos) tA:=by
 intro d G s Z H Q I h;refine isTrue_and (bb (b G s Z H Q I h) λc f e=>?_);cases c with
 |true=>exact isTrue_and_nil e
 |false=>exact e
theorem Mr(b:PT X a tA):PW X (.BoolOp .Or [a] pos) tA:=by
 intro d G s Z H Q I h;refine isTrue_or (bb (b G s Z H Q I h) λc f e=>?_);cases c with
 |false=>exact isTrue_or_nil e
 |true=>exact e
theorem Ms(j:PT X a tA)(i:PW X (.BoolOp .And (b::eM) pos) tB'):PW X (.BoolOp .And (a::b::eM) pos) (LW tA tB'):=by
 intro f G s Z H Q I h;refine isTrue_and (bb (j G s Z H _ I h) λc g ⟨H1,e,d⟩=>?_);cases c with
 |true=>exact i f G g Z H1 Q e d
 |false=>exact⟨H1,e,d⟩
theorem Rk(j:PT X a tA)(i:PW X (.BoolOp .Or (b::eM) pos) tB'):PW X (.BoolOp .Or (a::b::eM) pos) (UW tA tB'):=by
 intro f G s Z H Q I h;refine isTrue_or (bb (j G s Z H _ I h) λc g ⟨H1,e,d⟩=>?_);cases c with
 |true=>exact⟨H1,e,d⟩
 |false=>exact i f G g Z H1 Q e d
theorem Mv(b:PT X a tA):PT X (.UnaryOp .Not a pos) (LO tA):=by
 intro G s Z H Q I h;exact isTrue_not (b G s Z H (λc H1=>Q (!c) H1) I h)
def BX(ta tb:TE):TE:=λZ H Q=>ta Z H λx H1=>∃c,x=.bl c/\if c=true then tb Z H1 Q else Q (.bl false) H1
def BS(ta:TE):TE:=λZ H Q=>ta Z H λx H1=>∃c,x=.bl c/\Q (.bl (!c)) H1
theorem MR{op}{t:TE}(h:PE X a t):PE X (.BoolOp op [a] pos) t:=λG s Z H Q I b=>BoolOp_one (h G s Z H Q I b)
theorem MY(j:PE X a ta)(i:PE X (.BoolOp .And (b::eM) pos) tb):PE X (.BoolOp .And (a::b::eM) pos) (BX ta tb):=by
 intro G s Z H Q I h;refine BoolOp_and (bb (j G s Z H _ I h) λv f ⟨x,H1,e,g,d⟩=>?_);obtain⟨c,rfl,d⟩:=d;cases g;refine W4 ?_;cases c with
 |true=>exact i G f Z H1 Q e d
 |false=>exact⟨.bl false,H1,e,rfl,d⟩
theorem MS(e:PE X a ta):PE X (.UnaryOp .Not a pos) (BS ta):=by
 intro G s Z H Q I h;refine UnaryOp_ (bb (e G s Z H _ I h) λv g ⟨x,H1,f,d,b⟩=>?_);obtain⟨c,rfl,b⟩:=b;cases d;exact not_of (W4 ⟨.bl (!c),H1,f,rfl,b⟩)
end
def SqL(K:F0)(H:Hp)(a:Addr)(xs:List V):Prop:=
 Rd H a (.lst xs)\/
  ∃(o:Obj) (its:Array Value) (n:Nat),K.lookup a=some o/\o.cls=.type "list" /\ o.dict=none/\o.data=.seq its n/\its.size<=sizeLine/\Vals xs its.toList
def SqT(K:F0)(H:Hp)(a:Addr)(xs:List V):Prop:=
 Rd H a (.tup xs)\/
  ∃(o:Obj) (its:Array Value) (n:Nat),K.lookup a=some o/\o.cls=.type "tuple" /\ o.data=.seq its n/\its.size<=sizeLine/\Vals xs its.toList
def VD:Value->Option V
 |.none=>some .non
 |.bool b=>some (.bl b)
 |.int i _=>some (.int i)
 |.str x _=>some (.str x)
 |.bytes b _=>some (.byt b)
 |.float b _=>some (.flt b)
 |.ref a=>some (.ref a)
 |.type n=>some (.ty n)
 |_=>none
theorem RelV.abs{x:V}{u:Value}(r:RelV x u):VD u=some x:=by
 cases x with
 |non=>cases r;rfl
 |bl _=>cases r;rfl
 |int _=>obtain⟨t,rfl⟩:=r;rfl
 |str _=>obtain⟨t,rfl⟩:=r;rfl
 |byt _=>obtain⟨t,rfl⟩:=r;rfl
 |flt _=>obtain⟨t,rfl⟩:=r;rfl
 |ref _=>cases r;rfl
 |ty _=>cases r;rfl
theorem RelV.inj{x y:V}{u:Value}(r:RelV x u)(q:RelV y u):x=y:=Wa (r.abs.symm.trans q.abs)
theorem Vals.inj:∀{xs a:List V} {us:List Value},Vals xs us->Vals a us->xs=a
 |_,_,_,.nil,.nil=>rfl
 |_,_,_,.cons r t,.cons b t'=>by rw[r.inj b,Vals.inj t t']
section
variable{X:Cx}{G:L9}{Z:St}{H:Hp}{s:Shared}{a:Addr}{xs ys:List V}
theorem SqL.of{K:F0}(h:H a=some (.lst xs)):SqL K H a xs:=.inl (.inl h)
theorem SqT.of{K:F0}(h:H a=some (.tup xs)):SqT K H a xs:=.inl (.inl h)
theorem Inv.list(I:Inv X G Z H s)(h:SqL X.K H a xs):∃its:List Value,Vals xs its/\PlainL s.heap a its.toArray/\xs.length<=sizeLine:=by
 rcases h with h|⟨o,its,n,c,d,hd,b,hz,r⟩
 ·obtain⟨z,its,n,r,e⟩:=h.ok I.hok;exact⟨its,r,⟨_,n,e,rfl,rfl,rfl⟩,z⟩
 ·refine⟨its.toList,r,⟨o,n,I.kIn a o c,d,hd,by simpa using b⟩,?_⟩;have e:=r.length;simp only[Wu]at e;omega
theorem Inv.tuple(I:Inv X G Z H s)(h:SqT X.K H a xs):∃its:List Value,Vals xs its/\IsTup s.heap a its.toArray/\xs.length<=sizeLine:=by
 rcases h with h|⟨o,its,n,c,d,b,hz,r⟩
 ·obtain⟨z,its,r,p⟩:=h.ok I.hok;exact⟨its,r,p,z⟩
 ·refine⟨its.toList,r,⟨o,I.kIn a o c,d,n,by simpa using b⟩,?_⟩;have e:=r.length;simp only[Wu]at e;omega
theorem Inv.list_inj(I:Inv X G Z H s)(h:SqL X.K H a xs)(h':SqL X.K H a ys):xs=ys:=by
 obtain⟨its,r,⟨o,n,e,_,_,d⟩,_⟩:=I.list h;obtain⟨its',c,⟨o',g,b,_,_,d'⟩,_⟩:=I.list h';rw[e]at b;cases b;rw[d]at d';injection d' with f _
 have:its=its':=by simpa using congrArg Array.toList f
 subst this;exact r.inj c
end
abbrev Cx.wish(X:Cx)(E:LV):Cx:={X with xe:=E}
abbrev Cx.nox(X:Cx):Cx:=X.wish λ_ _=>False
theorem Cx.Ok.wish{X:Cx}(ok:X.Ok)(E:LV):(X.wish E).Ok:=
 ⟨ok.mod,ok.kind,ok.glob,ok.blt,ok.above,ok.inj,ok.has,ok.cab,ok.hd,ok.frames,ok.stk,ok.exf,ok.bs,ok.bsz,ok.noex,ok.exfs,ok.funs,ok.frf⟩
theorem Cx.Ok.unwish{X:Cx}{E:LV}(ok:(X.wish E).Ok):X.Ok:=
 ⟨ok.mod,ok.kind,ok.glob,ok.blt,ok.above,ok.inj,ok.has,ok.cab,ok.hd,ok.frames,ok.stk,ok.exf,ok.bs,ok.bsz,ok.noex,ok.exfs,ok.funs,ok.frf⟩
section
variable{X:Cx}{G:L9}{Z:St}{H:Hp}{s:Shared}{E:LV}
theorem Inv.wish(I:Inv X G Z H s)(E:LV):Inv (X.wish E) G Z H s:=⟨I.ok.wish E,I.os,I.bare,I.base,I.loc,I.cell,I.free,I.freeC,I.pin,I.hok,I.len⟩
theorem Inv.unwish(I:Inv (X.wish E) G Z H s):Inv X G Z H s:=⟨I.ok.unwish,I.os,I.bare,I.base,I.loc,I.cell,I.free,I.freeC,I.pin,I.hok,I.len⟩
theorem SP.unwish{D:Ends}{f:Flow}{b:Shared}(h:SP (X.wish E) G D f b):SP X G D f b:=by
 cases f with
 |next=>obtain⟨a,H',I,q⟩:=h;exact⟨a,H',I.unwish,q⟩
 |brk=>obtain⟨a,H',I,q⟩:=h;exact⟨a,H',I.unwish,q⟩
 |cont=>obtain⟨a,H',I,q⟩:=h;exact⟨a,H',I.unwish,q⟩
 |ret u=>obtain⟨v,a,H',I,r,q⟩:=h;exact⟨v,a,H',I.unwish,r,q⟩
theorem PSs.nox{st:List Stmt}{t:TS}(h:PSs X.nox st t):PSs X st t:=λG s Z H D I a=>
 XZ (h G s Z H D (I.wish _) a) (λ_ _ q=>q.unwish) λ_ _ z=>False.elim z
end
section
variable{X:Cx}{st:Stmt}{eM:List Stmt}{t u:TS}{e:Expr}{te:TE}{pos:Pos}
def BU:TS:=λD Z H=>D.nx Z H
def LN(t u:TS):TS:=λD Z H=>t {D with nx:=u D} Z H
theorem HF:PSs X [] BU:=λ_ _ Z H _ I h=>XQ ⟨Z,H,I,h⟩
theorem CU(d:PS X st t)(c:PSs X eM u):PSs X (st::eM) (LN t u):=by
 intro G s Z H D I h;refine wpAny_execs_cons (bb (d G s Z H {D with nx:=u D} I h) λf b q=>?_);cases f with
 |next=>
   obtain⟨a,H',e,q⟩:=q;exact c G b a H' D e q
 |ret v=>exact q
 |brk=>exact q
 |cont=>exact q
theorem HE(a:PS X st t):PSs X [st] t:=by
 intro G s Z H D I h;refine wpAny_execs_cons (bb (a G s Z H D I h) λf b q=>?_);cases f with
 |next=>exact XQ q
 |ret v=>exact q
 |brk=>exact q
 |cont=>exact q
theorem Inv.quiet{G:L9}{Z:St}{H:Hp}{s:Shared}(I:Inv X G Z H s):interactive X.env=false:=by simp[interactive,I.ok.kind]
def BV(te:TE):TS:=λD Z H=>te Z H λ_ H1=>D.nx Z H1
theorem HH(c:PE X e te)(b:swapsWith e none pos.line X.env=pure false:=by rfl):PS X (.Expr e pos) (BV te):=by
 intro G s Z H D I h;exact wpAny_Expr_any (bb (c G s Z H _ I h) λv f ⟨x,H1,d,g,a⟩=>⟨Z,H1,d,a⟩) I.quiet b
def GW(te:TE):TS:=λD Z H=>te Z H D.rt
theorem Mz(c:PE X e te):PS X (.Return (some e) pos) (GW te):=by
 intro G s Z H D I h;exact wpAny_Return_some (bb (c G s Z H _ I h) λv f ⟨x,H1,d,a,b⟩=>⟨x,Z,H1,d,a,b⟩)
def BR:TS:=λD _ H=>D.rt .non H
theorem HG:PS X (.Return none pos) BR:=λ_ _ Z H _ I h=>wpAny_Return_none ⟨.non,Z,H,I,rfl,h⟩
def LQ(c:TT)(t u:TS):TS:=λD Z H=>c Z H λb H1=>if b=true then t D Z H1 else u D Z H1
theorem Rm{c:Expr}{a b:List Stmt}{tc:TT}(i:PT X c tc)(k:PSs X a t)(j:PSs X b u):PS X (.If c a b pos) (LQ tc t u):=by
 intro G s Z H D I h;refine wpAny_If (bb (i G s Z H _ I h) λd e ⟨H1,g,f⟩=>?_);cases d with
 |true=>exact k G e Z H1 D g f
 |false=>exact j G e Z H1 D g f
def vV:TS:=λ_ _ _=>False
theorem CW:PS X st vV:=λ_ _ _ _ _ _ h=>h.elim
end
abbrev TG:=V->St->Hp->(St->Hp->Prop)->Prop
abbrev Qs:=List V->St->Hp->(St->Hp->Prop)->Prop
def PG(X:Cx)(a:Expr)(t:TG):Prop:=
 ∀(G:L9) (s:Shared) (Z:St) (H:Hp) (v:V) (u:Value) (Q:St->Hp->Prop),Inv X G Z H s->RelV v u->t v Z H Q->
  wpAny (model X.prog X.w) X.A (assign a X.env u) (λ_ c=>∃b H',Inv X G b H' c/\Q b H') X.xe s
def Us(X:Cx)(b:List Expr)(t:Qs):Prop:=
 ∀(G:L9) (s:Shared) (Z:St) (H:Hp) (vs:List V) (us:List Value) (Q:St->Hp->Prop),Inv X G Z H s->Vals vs us->t vs Z H Q->
  wpAny (model X.prog X.w) X.A (assignInOrder ((assignEach b X.env).map (·.2)) us) (λ_ c=>∃a H',Inv X G a H' c/\Q a H') X.xe s
abbrev Qr:=V->V->V->Hp->(Hp->Prop)->Prop
def Ur(X:Cx)(t:Qr):Prop:=
 ∀(G:L9) (s:Shared) (Z:St) (H:Hp) (o i v:V) (ov a u:Value) (Q:Hp->Prop),Inv X G Z H s->RelV o ov->RelV i a->RelV v u->t o i v H Q->
  wpAny (model X.prog X.w) X.A (setItem ov a u) (λ_ b=>∃H',Inv X G Z H' b/\Q H') X.xe s
abbrev UO:=V->V->Hp->VK->Prop
def VE(X:Cx)(op:Operator)(t:UO):Prop:=
 ∀(G:L9) (s:Shared) (Z:St) (H:Hp) (x y:V) (v u:Value) (Q:VK),Inv X G Z H s->RelV x v->RelV y u->t x y H Q->
  wpAny (model X.prog X.w) X.A (inplaceOp op v u) (EP X G Z Q) X.xe s
section
variable{X:Cx}{pos:Pos}
def d8(i:Nat):TG:=λv Z H Q=>Q (Z.set i (some v)) H
theorem yp{i:Nat}{x:Str}(c:X.N.Nodup)(hi:X.N[i]?=some x)(a:QH X.env.scope x)(b:X.fn x=true\/X.env.scope.names.lookup x=some .local:=by first | exact .inl rfl | exact .inr rfl | assumption):PG X (.Name x pos) (d8 i):=by
 intro G s Z H v u Q I r h;exact wpAny_assign_Name (mW I c hi a r (λe d=>⟨_,H,d,h⟩) b)
def O2:Qs:=λvs Z H Q=>vs=[]/\Q Z H
def yR(t:TG)(u:Qs):Qs:=λvs Z H Q=>∃v r,vs=v::r/\t v Z H λa H'=>u r a H' Q
theorem HU:Us X [] O2:=by
 intro G s Z H vs us Q I r h;obtain⟨e,h⟩:=h;subst e;cases r;exact assignInOrder_nil ⟨Z,H,I,h⟩
theorem C3{e:Expr}{a:List Expr}{t:TG}{u:Qs}(j:PG X e t)(i:Us X a u)
 (g:(assignEach (e::a) X.env).map (·.2)=assign e X.env::(assignEach a X.env).map (·.2):=by rfl):Us X (e::a) (yR t u):=by
 intro G s Z H vs us Q I r h;obtain⟨v,vr,e1,h⟩:=h;subst e1;cases r with
 |cons r d=>
   rw[g];refine assignInOrder_cons (bb (j G s Z H _ _ _ I r h) λ_ c ⟨b,H1,k,f⟩=>?_);exact i G c b H1 _ _ Q k d f
def O0(K:F0)(n:Nat)(t:Qs):TG:=λv Z H Q=>∃a xs,v=.ref a/\SqT K H a xs/\xs.length=n/\t xs Z H Q
theorem MN{c:List Expr}{k:Nat}{t:Qs}{n:Nat}(q:X.calm=true)(h:Us X c t)
 (m:(assignEach c X.env).length=n:=by rfl) (f:(assignEach c X.env).findIdx? (·.1)=none:=by rfl):PG X (.Tuple c k pos) (O0 X.K n t):=by
 intro G s Z H v u Q I r d;obtain⟨a,xs,e1,l,p,d⟩:=d;subst e1;cases r;obtain⟨its,g,j,hz⟩:=I.tuple l;refine assign_Tuple_tuple (I.ok.hd q) j (by simp[m,<-p,g.length]) f λh' i=>?_;have w:Inv X G Z H {s with heap:=h'}:=I.kept (t':=s.toks) λb o e=>i b o (Wk (VZ e)) e;exact h G _ Z H xs _ Q w (by simpa using g) d
def O1(to a:TE)(t:Qr):TG:=λv Z H Q=>to Z H λo H1=>a Z H1 λi c=>t o i v c λb=>Q Z b
theorem MO{o i:Expr}{to b:TE}{t:Qr}(m:PE X o to)(hi:PE X i b)(l:Ur X t)
 (n:∀v,assign (.Subscript o i pos) X.env v=(do
   let ov <-holding [v] (eval o X.env)
   let a <-holding [v,ov] (eval i X.env)
   standAt pos
   holding [v,ov,a] (setItem ov a v)
   release [v,ov,a] []):=by intro _;rfl):PG X (.Subscript o i pos) (O1 to b t):=by
 intro G s Z H v u Q I r h;rw[n];refine VM (Xa (bb (m G s Z H _ I h) λov d ⟨x,H1,w,f,k⟩=>?_));refine VM (Xa (bb (hi G d Z H1 _ w k) λa c ⟨y,A,q,e,j⟩=>?_));refine VM (wpAny_standAt (VM (Xa (bb (l G c Z A x y v ov a u _ q f e r j) λ_ B ⟨z,p,g⟩=>?_))));exact wpAny_release ⟨Z,z,p,g⟩
def tG(te:TE)(g:TG):TS:=λD Z H=>te Z H λx H1=>g x Z H1 D.nx
theorem ME{a e:Expr}{te:TE}{g:TG}(k:PE X e te)(j:PG X a g)(i:swapsWithSole [a] e pos.line X.env=pure false:=by rfl)(f:swappedStores [a] e X.env=pure none:=by rfl)
 (l:(assignEach [a] X.env).map (·.2)=[assign a X.env]:=by rfl):PS X (.Assign [a] e pos) (tG te g):=by
 intro G s Z H D I h;refine wpAny_Assign_stores (bb (k G s Z H _ I h) λv b ⟨x,H1,m,c,d⟩=>?_) i f;rw[l];exact bb (j G b Z H1 x v _ m c d) λ_ n q=>q
theorem My{i:Nat}{x:Str}{e:Expr}{te:TE}{a:Pos}(k:X.N.Nodup)(hi:X.N[i]?=some x)(d:QH X.env.scope x)(j:PE X e te)(f:swapsWith e (some (.Name x a)) pos.line X.env=pure false:=by rfl)(g:X.fn x=true\/X.env.scope.names.lookup x=some .local:=by first | exact .inl rfl | exact .inr rfl | assumption):
 PS X (.Assign [.Name x a] e pos) (tG te (d8 i)):=by
 intro G s Z H D I h;refine wpAny_Assign_Name (bb (j G s Z H _ I h) λv o ⟨y,H1,m,b,c⟩=>?_) f;exact mW m k hi d b (λn l=>⟨_,H1,l,c⟩) g
def QN(i:Nat)(te:TE)(a:UO):TS:=λD Z H=>∃x,Z[i]?=some (some x)/\te Z H λy H1=>a x y H1 λz b=>D.nx (Z.set i (some z)) b
theorem MC{i:Nat}{x:Str}{e:Expr}{te:TE}{op:Operator}{o:UO}{g:Pos}(P:X.N.Nodup)(hi:X.N[i]?=some x)(n:QH X.env.scope x)(M:PE X e te)(E:VE X op o)(L:X.fn x=true\/X.env.scope.names.lookup x=some .local:=by first | exact .inl rfl | exact .inr rfl | assumption):
 PS X (.AugAssign (.Name x g) op e pos) (QN i te o):=by
 intro G s Z H D I h;obtain⟨v,e1,h⟩:=h;obtain⟨m,F,K⟩:=I.loc;have j:UM X.env.scope x:=by rcases n with k|k;exact .inl k;exact .inr (.inl k)
 obtain⟨u,r,l⟩:=K i x v hi e1 j;refine wpAny_AugAssign_Name ?_
 have go:wpAny (model X.prog X.w) X.A (eval e X.env) (λw f=>wpAny (model X.prog X.w) X.A (inplaceOp op u w) (λr d=>wpAny (model X.prog X.w) X.A (storeName X.env x r) (λ_=>SP X G D .next) X.xe d) X.xe f) X.xe s:=by
  refine bb (M G s Z H _ I h) λw p ⟨y,H1,S,t,C⟩=>?_;refine bb (E G p Z H1 v y u w _ S r t C) λz W ⟨U,T,R,q,B⟩=>?_;exact mW R P hi n q (λV Q=>⟨_,T,Q,B⟩) L
 rcases l with ⟨a,J⟩|⟨a,c,O,b⟩
 ·exact wpAny_loadName_local I.ok.kind a F J go
 · rcases a with a|a
   ·exact wpAny_loadName_cell I.ok.kind a O b go
   · rcases n with k|k
     · have:X.env.scope.names.lookup x=some .free:=a
       rw[k]at this;cases this
     · have:X.env.scope.names.lookup x=some .free:=a
       rw[k]at this;cases this
def ipI(f:Int->Int->Int):UO:=λx y H Q=>∃i j,x=.int i/\y=.int j/\Q (.int (f i j)) H
theorem E9:VE X .Add (ipI λi j=>i+j):=by
 intro G s Z H x y v u Q I b a h;obtain⟨i,j,e1,c,q⟩:=h;subst e1;subst c;obtain⟨t,rfl⟩:=b;obtain⟨t',rfl⟩:=a;exact iadd_int ⟨.int _,H,I.tok _,⟨_,rfl⟩,q⟩
end
section
variable{X:Cx}{pos:Pos}
def vU(c:TT)(tb:TS):TS:=λD Z H=>∃W:Nat->St->Hp->Prop,(∃m,W m Z H)/\∀m Z H,W m Z H->
 c Z H λb H1=>if b=true then ∃N:St->Hp->Prop,(∀a H',N a H'->∃d,d<m/\W d a H')/\tb {D with nx:=N,ct:=N,bk:=D.nx} Z H1 else D.nx Z H1
theorem CV{c:Expr}{e:List Stmt}{tc:TT}{tb:TS}(hp:PassesOwn (model X.prog X.w) X.A X.env X.xe)(J:PT X c tc)(K:PSs X e tb):PS X (.While c e [] pos) (vU tc tb):=by
 intro G s Z H D I h;obtain⟨W,⟨F,z⟩,i⟩:=h;refine wpAny_While (codeAny_whileLoop (λn E=>∃g H',Inv X G g H' E/\W n g H') ?_ F ⟨Z,H,I,z⟩);rintro n C ⟨d,H1,L,y⟩;refine WD hp (bb (J G C d H1 _ L (i n d H1 y)) λb B ⟨x,u,l⟩=>?_);cases b with
 |true=>
   obtain⟨N,t,l⟩:=l;rw[VL rfl];refine WD hp (bb (K G B d x _ u l) λf M k=>?_);cases f with
   |next=>
     obtain⟨a,j,r,o⟩:=k;obtain⟨p,q,m⟩:=t a j o;exact⟨p,q,a,j,r,m⟩
   |cont=>
     obtain⟨a,j,r,o⟩:=k;obtain⟨p,q,m⟩:=t a j o;exact⟨p,q,a,j,r,m⟩
   |brk=>exact k
   |ret v=>exact k
 |false=>
   rw[on V1];exact XQ ⟨d,x,u,l⟩
end
structure It where
 go:Nat->Hp->Prop
 yld:Nat->Hp->V->Hp->Prop
 stop:Nat->Hp->Prop
def pF(X:Cx)(G:L9)(H:Hp)(b:Addr):Prop:=
 H b=none/\b≠X.env.locals/\b∉X.fs/\(b∈X.ex\/X.s₀.heap.objs.size<=b)/\(∀x c,X.env.cells.lookup x=some c->c≠b)/\∀p∈X.pn++G,p.1≠b
theorem Inv.fpOk{X:Cx}{G:L9}{Z:St}{H H':Hp}{s:Shared}{b:Addr}(I:Inv X G Z H s)(a:s.heap.objs.size<=b)(d:H' b=none):pF X G H' b:=by
 refine⟨d,Nat.ne_of_gt (Wj I.lt a),I.nofs a,.inr (Wl I.sz a),λx c e z=>?_,λp hp z=>?_⟩
 ·obtain⟨v,q⟩:=I.cell x c e;exact absurd (Wj q.lt (by rw[z];exact a)) (WI _)
 ·exact absurd (Wj (VZ (I.pin p hp).1) (by rw[z];exact a)) (WI _)
structure Turn (P:Program) (w:World) (K:F0) (tg:Expr) (J:It) (fp:List Addr) (it:Addr) (tn:Nat->Heap->Prop):Prop where
 mem:it∈fp
 obj:∀i h,tn i h->∀b∈fp,∃o,h.get? b=some o/\∀v,o.data≠ .cell v
 keep:∀i h h',tn i h->(∀b∈fp,∀o,h.get? b=some o->h'.get? b=some o)->tn i h'
 item:∀(X:Cx),X.prog=P->X.w=w->X.K=K->X.calm=true->∀(i:Nat) (G:L9) (s:Shared) (Z:St) (H:Hp) (E:LV),Inv X G Z H s->(∀b∈fp,pF X G H b)->tn i s.heap->J.go i H->
  wpAny (model P w) X.A (pyNext (.ref it)) (λr s1=>∃u,r=some u/\
   wpAny (model P w) X.A (letOwnedTupleGo tg (.ref it) u) (λ_ s2=>∃x H',Inv X G Z H' s2/\RelV x u/\J.yld i H x H'/\tn (i+1) s2.heap/\∀b∈fp,H' b=none) E s1) E s
 done:∀(X:Cx),X.prog=P->X.w=w->X.K=K->X.calm=true->∀(i:Nat) (G:L9) (s:Shared) (Z:St) (H:Hp) (E:LV),Inv X G Z H s->(∀b∈fp,pF X G H b)->tn i s.heap->J.stop i H->
  wpAny (model P w) X.A (pyNext (.ref it)) (λr s1=>r=none/\Inv X G Z H s1) E s
 self:∀(A:Around) (i:Nat) (s:Shared) (Q:LV) (E:LV),tn i s.heap->Q (.ref it) s->wpAny (model P w) A (pyIter (.ref it)) Q E s
abbrev TI:=St->Hp->(It->Hp->Prop)->Prop
def PIE(X:Cx)(G:L9)(Z:St)(f:Expr)(R:It->Hp->Prop)(a:Value)(c:Shared):Prop:=
 ∃(d:Addr) (e:List Addr) (tn:Nat->Heap->Prop) (J:It) (H':Hp),a=.ref d/\Inv X G Z H' c/\Turn X.prog X.w X.K f J e d tn/\tn 0 c.heap/\(∀b∈e,pF X G H' b)/\R J H'
def PI(X:Cx)(b iter:Expr)(a:TI):Prop:=
 ∀(G:L9) (s:Shared) (Z:St) (H:Hp) (R:It->Hp->Prop),Inv X G Z H s->a Z H R->
  wpAny (model X.prog X.w) X.A (eval iter X.env) (λv c=>wpAny (model X.prog X.w) X.A (pyIter v) (PIE X G Z b R) X.xe c) X.xe s
theorem yO{M:Model}{A:Around}{E:LV}{s:Shared}{b:Expr}{c:Addr}{u:Value}{o:Obj}{n:String}{vs:Array Value}{Q:Unit->Shared->Prop}(d:s.heap.get? c=some o)(f:o.cls=.type n)(hd:o.data=.fields vs)
 (e:["enumerate","zip","dict_itemiterator","dict_reverseitemiterator","odict_iterator","itertools.zip_longest","itertools.pairwise"].contains n=false) (a:Q () s):wpAny M A (letOwnedTupleGo b (.ref c) u) Q E s:=by
 unfold letOwnedTupleGo
 cases b <;> first
  |exact VX a
  | (cases u <;> first
      |exact VX a
      | (refine VM (wpAny_load d ?_)
         rw[f,hd];show wpAny M A (if (["enumerate","zip","dict_itemiterator","dict_reverseitemiterator","odict_iterator","itertools.zip_longest","itertools.pairwise"].contains n&&vs[0]?==some (rawInt _))=true then _ else _) Q E s;rw[on (by intro h;rw[e,Bool.false_and]at h;cases h)]
         exact VX a))
def VI(K:F0)(a:Addr):It:=
 ⟨λi H=>∃xs x,SqL K H a xs/\xs[i]?=some x,λi H x H'=>H'=H/\∀xs,SqL K H a xs->xs[i]?=some x,λi H=>∃xs,SqL K H a xs/\xs.length<=i⟩
def Uv(lo:Int)(n:Nat):It:=⟨λi _=>i<n,λi H x H'=>H'=H/\x=.int (lo+i),λi _=>n<=i⟩
theorem Ac{P:Program}{w:World}{K:F0}{M:Expr}(a f:Addr):Turn P w K M (VI K a) [f] f (λi h=>h.IsListIter f a i) where
 mem:=by simp
 obj:=λi h st b g=>by
  have e:b=f:=by simpa using g
  subst e;obtain⟨o,e,c,d⟩:=st;exact⟨o,e,λv z=>by rw[d]at z;cases z⟩
 keep:=λi h h' st k=>st.at λo e=>k f (by simp) o e
 item:=by
  intro X y r A L i G s Z H E I m st t;subst y r A;obtain⟨xs,x,l,q⟩:=t;obtain⟨its,n,p,hz⟩:=I.list l;obtain⟨u,R,O⟩:=n.get q;obtain⟨J,F,S,D,C,B⟩:=m f (by simp);refine wpAny_pyNext_list_item st p.isList (x:=u) (by simpa using R) λh' j N=>?_;have U:Inv X G Z H {s with heap:=h'}:=I.turned (t':=s.toks) (λb o g e=>(N.2 b g).trans e) J F D C B;obtain⟨o,e,c,d⟩:=id j;exact⟨u,rfl,yO (s:={s with heap:=h'}) e c d (by decide) ⟨x,H,U,O,⟨rfl,λV Q=>by rw[I.list_inj Q l];exact q⟩,j,λb g=>(m b g).1⟩⟩
 done:=by
  intro X y r A L i G s Z H E I m st t;subst y r A;obtain⟨xs,l,q⟩:=t;obtain⟨its,n,p,hz⟩:=I.list l;obtain⟨J,F,S,D,C,B⟩:=m f (by simp);have Y:=n.length;exact wpAny_pyNext_list_end (I.ok.hd L) st p.isList (by simp;omega) λh' T=>⟨rfl,I.turned (t':=s.toks) (λb o g e=>T b o g e) J F D C B⟩
 self:=λ_ _ _ _ _ st h=>wpAny_pyIter_listiter st h
theorem vS{P:Program}{w:World}{K:F0}{C:Expr}(a:Addr)(lo:Int)(n:Nat):Turn P w K C (Uv lo n) [a] a (λi h=>IsRangeIter h a (lo+(i:Nat)*1) ((n:Int)-(i:Nat)) 1) where
 mem:=by simp
 obj:=λi h st b c=>by
  have e:b=a:=by simpa using c
  subst e
  exact⟨_,st,λv z=>by
   have B:Data.fields _=Data.cell v:=z
   cases B⟩
 keep:=λi h h' st k=>k a (by simp) _ st
 item:=by
  intro X m g p l i G s Z H E I f st j;subst m g p;obtain⟨y,x,J,u,r,q⟩:=f a (by simp);have W:=Walks.range (prog:=X.prog) (w:=X.w) (I.ok.hd l) a lo 1 n;refine W.item i s _ _ j st λv h' A F d D=>?_;obtain⟨t,rfl⟩:=F;have M:Inv X G Z H {s with heap:=h',toks:=A}:=I.turned (λb o c e=>D b o (by simpa using c) e) y x u r q;refine⟨_,rfl,yO (s:={s with heap:=h',toks:=A}) (n := "range_iterator") d rfl rfl (by decide) ⟨.int (lo+i),H,M,⟨t,?_⟩,⟨rfl,rfl⟩,d,λb c=>(f b c).1⟩⟩;rw[Int.mul_one]
 done:=by
  intro X m g p l i G s Z H E I f st j;subst m g p;obtain⟨y,x,J,u,r,q⟩:=f a (by simp);exact wpAny_pyNext_range_end (I.ok.hd l) st (by have:n<=i:=j;omega) λh' L=>⟨rfl,I.turned (t':=s.toks) (λb o c e=>L b o c e) y x u r q⟩
 self:=λ_ _ _ _ _ st h=>wpAny_pyIter_rangeiter st h
section
variable{X:Cx}{tg:Expr}
def qx(K:F0)(b:TE):TI:=λZ H R=>b Z H λx H1=>∃a,x=.ref a/\(∃xs,SqL K H1 a xs)/\R (VI K a) H1
theorem HQ{l:Expr}{f:TE}(k:PE X l f):PI X tg l (qx X.K f):=by
 intro G s Z H R I h;refine bb (k G s Z H _ I h) λv c ⟨x,H1,d,g,i⟩=>?_;obtain⟨a,e,⟨xs,j⟩,q⟩:=i;subst e;cases g;obtain⟨its,n,p,hz⟩:=d.list j;refine XU p.isList ?_;refine⟨c.heap.objs.size,[c.heap.objs.size],_,_,H1,rfl,d.kept (t':=c.toks) λb o e=>VT _ e,Ac a _,⟨_,V8 _ rfl,rfl,rfl⟩,λb m=>?_,q⟩;have e:b=c.heap.objs.size:=by simpa using m
 subst e;exact d.fpOk (V2 _) (d.hok.fresh (V2 _))
theorem tO{G:L9}{Z:St}{H:Hp}{s:Shared}{R:It->Hp->Prop}{E:LV}{lo hi:Int}{t u v:Tok}{a:Nat}(I:Inv X G Z H s)(i:-(2 ^ 62)<=lo)(h:lo<2 ^ 62)(g:-(2 ^ 62)<=hi)(f:hi<2 ^ 62)
 (q:R (Uv lo (hi-lo).toNat) H):wpAny (model X.prog X.w) X.A (pyIter (.ref s.heap.objs.size)) (PIE X G Z tg R) E {s with heap:=s.heap.push {cls:=.type "range",data:=.fields #[.int lo t,.int hi u,.int 1 v]},toks:=a}:=by
 refine wpAny_pyIter_range (IsRange.new ..) (small_one i h g f) ?_;have c:Inv X G Z H {s with heap:=s.heap.push {cls:=.type "range",data:=.fields #[.int lo t,.int hi u,.int 1 v]},toks:=a}:=I.kept λb o e=>VT _ e
 refine⟨(s.heap.push {cls:=.type "range",data:=.fields #[.int lo t,.int hi u,.int 1 v]}).objs.size,[(s.heap.push {cls:=.type "range",data:=.fields #[.int lo t,.int hi u,.int 1 v]}).objs.size],_,_,H,rfl,
  c.kept (t':=a) λb o e=>VT _ e,vS _ lo (hi-lo).toNat,?_,λb d=>?_,q⟩
 · have e1:lo+((0:Nat):Int)*1=lo:=by simp
   have j:(((hi-lo).toNat:Nat):Int)-((0:Nat):Int)=Builtin.Range.rangeSize lo hi 1:=by rw[rangeSize_one];split<;>omega
   show IsRangeIter _ _ (lo+((0:Nat):Int)*1) ((((hi-lo).toNat:Nat):Int)-((0:Nat):Int)) 1;rw[e1,j];exact V8 _ rfl
 · have e:b=(s.heap.push {cls:=.type "range",data:=.fields #[.int lo t,.int hi u,.int 1 v]}).objs.size:=by simpa using d
   subst e;exact c.fpOk (V2 _) (c.hok.fresh (V2 _))
def Fc(ta:TA):TI:=λZ H R=>ta Z H λvs H1=>∃j:Int,vs=[.int j]/\-(2 ^ 62)<=j/\j<2 ^ 62/\R (Uv 0 j.toNat) H1
def Fb(ta:TA):TI:=λZ H R=>ta Z H λvs H1=>∃i j:Int,vs=[.int i,.int j]/\(-(2 ^ 62)<=i/\i<2 ^ 62/\-(2 ^ 62)<=j/\j<2 ^ 62)/\R (Uv i (j-i).toNat) H1
theorem Az{a:Expr}{ta:TA}{p pos:Pos}(k:Gl X "range")(i:X.mg "range" = none)(l:PA X [a] ta)(g:starEach [a] X.env=[(false,eval a X.env)]:=by rfl):PI X tg (.Call (.Name "range" p) [a] [] pos) (Fc ta):=by
 intro G s Z H R I h;refine Call_ (jo I k i boot_range (W9 (bb (l pos G s Z H _ I h) λus n ⟨vs,H1,m,d,b⟩=>?_) g rfl));obtain⟨j,e,b,f,q⟩:=b;subst e;cases d with
 |cons r c=>
   cases c;obtain⟨t,rfl⟩:=r;exact call_range_1 (tO m (by omega) (by omega) b f (by simpa using q))
theorem Ay{a b:Expr}{ta:TA}{p pos:Pos}(v:Gl X "range")(u:X.mg "range" = none)(w:PA X [a,b] ta)(o:starEach [a,b] X.env=[(false,eval a X.env),(false,eval b X.env)]:=by rfl)(c:starEach [b] X.env=[(false,eval b X.env)]:=by rfl):
 PI X tg (.Call (.Name "range" p) [a,b] [] pos) (Fb ta):=by
 intro G s Z H R I h;refine Call_ (jo I v u boot_range (W9 (bb (w pos G s Z H _ I h) λus y ⟨vs,H1,x,g,f⟩=>?_) (by rw[o,c]) (by rw[c];rfl)));obtain⟨i,j,e,⟨f,n,m,l⟩,q⟩:=f;subst e;cases g with
 |cons r d=>
   cases d with
   |cons k d=>
     cases d;obtain⟨t,rfl⟩:=r;obtain⟨t',rfl⟩:=k;exact call_range_2 (tO x f n m l q)
def LR(d:TI)(g:TG)(tb:TS):TS:=λD Z H=>d Z H λJ H1=>∃W:Nat->Nat->St->Hp->Prop,(∃m,W 0 m Z H1)/\∀i m Z H,W i m Z H->
 (J.stop i H/\D.nx Z H)\/(J.go i H/\∃N:St->Hp->Prop,(∀a H',N a H'->∃c,c<m/\W (i+1) c a H')/\∀x H',J.yld i H x H'->g x Z H' λb e=>tb {D with nx:=N,ct:=N,bk:=D.nx} b e)
def na(a:List Addr)(h:Heap):L9:=a.filterMap λb=>(h.get? b).map λo=>(b,o)
theorem gx{a:List Addr}{h:Heap}{b:Addr}{o:Obj}(c:b∈a)(e:h.get? b=some o):(b,o)∈na a h:=List.mem_filterMap.mpr ⟨b,c,by rw[e];rfl⟩
theorem AH{a:List Addr}{h:Heap}{p:Addr×Obj}(hp:p∈na a h):p.1∈a/\h.get? p.1=some p.2:=by
 obtain⟨b,c,e⟩:=List.mem_filterMap.mp hp;cases q:h.get? b with
 |none=>rw[q]at e;cases e
 |some o=>
   rw[q]at e;have d:(b,o)=p:=Wa e;subst d;exact⟨c,q⟩
theorem Inv.pinned{G:L9}{Z:St}{H:Hp}{s:Shared}{a:List Addr}(I:Inv X G Z H s)(h:∀b∈a,pF X G H b)(g:∀b∈a,∃o,s.heap.get? b=some o/\∀v,o.data≠ .cell v):Inv X (G++na a s.heap) Z H s:=
 I.pins_of λp hp=>(VW.mp hp).elim (λz=>I.pin p (VS _ z)) λz=>by
  obtain⟨c,e⟩:=AH z;obtain⟨k,j,i,_⟩:=h p.1 c;obtain⟨o,f,d⟩:=g p.1 c;rw[e]at f;cases f;exact⟨e,k,j,i,d⟩
theorem Inv.unpinned{G pl:L9}{Z:St}{H:Hp}{s:Shared}(I:Inv X (G++pl) Z H s):Inv X G Z H s:=I.pins_of λp hp=>I.pin p (VS _ (V0 _ hp))
theorem MA{iter:Expr}{z:List Stmt}{wi:TI}{g:TG}{tb:TS}{pos:Pos}(hp:PassesOwn (model X.prog X.w) X.A X.env X.xe)(hc:X.calm=true)(hi:PI X tg iter wi)(hg:PG X tg g)(l:PSs X z tb)
 (hs:∀x,foldedSetIterable iter X.env x=pure x:=by intro _;rfl):PS X (.For tg iter z [] pos) (LR wi g tb):=by
 intro G s Z H D I h;refine wpAny_For (bb (hi G s Z H _ I h) λv s1 h1=>bb h1 λitv s2 h2=>?_) hs;obtain⟨it,M,tn,J,H2,e,I2,T,R,f2,W,⟨m0,w0⟩,C⟩:=h2;subst e
 -- what Q true of the y F through the loop
 have k:∀{H':Hp},(∀b∈M,H' b=none)->∀b∈M,pF X G H' b:=λhn b l=>⟨hn b l,(f2 b l).2⟩;refine codeAny_forLoop_any (λn s'=>∃i j H',Inv X G j H' s'/\tn i s'.heap/\(∀b∈M,H' b=none)/\W i n j H') ?_ m0 ⟨0,Z,H2,I2,R,λb l=>(f2 b l).1,w0⟩;rintro n s3 ⟨i,c,O,I3,E,L,w3⟩;rcases C i n c O w3 with ⟨stop,qn⟩|⟨go,N,hN,step⟩
 ·refine WD hp (bb (T.done X rfl rfl rfl hc i G s3 c O X.xe I3 (k L) E stop) λr s4 ⟨U,I4⟩=>?_);subst U;exact XQ ⟨c,O,I4,qn⟩
 · refine WD hp (bb (T.item X rfl rfl rfl hc i G s3 c O X.xe I3 (k L) E go) λr s4 ⟨u,U,h4⟩=>?_);subst U;refine WD hp (bb h4 λ_ s5 ⟨x,H5,I5,r5,y5,B,V⟩=>?_);have Y:=I5.pinned (k V) (T.obj _ _ B);refine WD hp (bb (hg _ s5 c H5 x u _ Y r5 (step x H5 y5)) λ_ s6 ⟨P,H6,I6,q6⟩=>?_);refine WD hp (bb (l _ s6 P H6 _ I6 q6) λf S t=>?_)
   have again:∀{a:St} {q:Hp},Inv X (G++na M s5.heap) a q S->N a q->∃m,m<n/\∃i j H',Inv X G j H' S/\tn i S.heap/\(∀b∈M,H' b=none)/\W i m j H':=λ{a q} p K=>by
    obtain⟨m',hm,w7⟩:=hN a q K;refine⟨m',hm,i+1,a,q,p.unpinned,T.keep _ _ _ B λb l o e=>(p.pin (b,o) (VS _ (VS _ (gx l e)))).1,λb l=>?_,w7⟩;obtain⟨o,e,d⟩:=T.obj _ _ B b l;exact(p.pin (b,o) (VS _ (VS _ (gx l e)))).2.1
   cases f with
   |next=>obtain⟨a,q,p,K⟩:=t;exact again p K
   |cont=>obtain⟨a,q,p,K⟩:=t;exact again p K
   |brk=>obtain⟨a,q,p,t⟩:=t;exact⟨a,q,p.unpinned,t⟩
   |ret v=>obtain⟨x7,a,q,p,r7,t⟩:=t;exact⟨x7,a,q,p.unpinned,r7,t⟩
end
abbrev R2:=V->V->Hp->VK->Prop
def jI(X:Cx)(f:Value->Value->Sem Value)(r:R2):Prop:=
 ∀(G:L9) (s:Shared) (Z:St) (H:Hp) (x y:V) (v u:Value) (Q:VK),Inv X G Z H s->RelV x v->RelV y u->r x y H Q->
  wpAny (model X.prog X.w) X.A (f v u) (EP X G Z Q) X.xe s
def UN(X:Cx)(f:Value->Sem Value)(r:V->Hp->VK->Prop):Prop:=
 ∀(G:L9) (s:Shared) (Z:St) (H:Hp) (x:V) (v:Value) (Q:VK),Inv X G Z H s->RelV x v->r x H Q->
  wpAny (model X.prog X.w) X.A (f v) (EP X G Z Q) X.xe s
def cz(X:Cx)(f:Value)(r:List V->Hp->VK->Prop):Prop:=
 ∀(G:L9) (s:Shared) (Z:St) (H:Hp) (xs:List V) (us:List Value) (Q:VK),Inv X G Z H s->Vals xs us->r xs H Q->
  wpAny (model X.prog X.w) X.A (call f us) (EP X G Z Q) X.xe s
def BF(r:R2)(ta tb:TE):TE:=λZ H Q=>ta Z H λx H1=>tb Z H1 λy a=>r x y a Q
def UU(r:V->Hp->VK->Prop)(ta:TE):TE:=λZ H Q=>ta Z H λx H1=>r x H1 Q
def rI(C:Int->Int->Prop)(g:Int->Int->V):R2:=λx y H Q=>∃i j,x=.int i/\y=.int j/\C i j/\Q (g i j) H
def wv(g:Int->Int->V):R2:=λx y H Q=>∃i j,x=.int i/\y=.int j/\Q (g i j) H
def rU(g:Int->V):V->Hp->VK->Prop:=λx H Q=>∃i,x=.int i/\Q (g i) H
section
variable{X:Cx}{a b c:Expr}{ta tb tc:TE}{pos:Pos}
theorem Qd(p:PE X a ta)(o:PE X b tb){G:L9}{s:Shared}{Z:St}{H:Hp}{R:V->V->Hp->Prop}(I:Inv X G Z H s)
 (h:ta Z H λx H1=>tb Z H1 λy c=>R x y c) {Q:LV} {f:Value->Value->Sem Value}
 (n:∀v u g x y c,Inv X G Z c g->RelV x v->RelV y u->R x y c->wpAny (model X.prog X.w) X.A (f v u) Q X.xe g):
 wpAny (model X.prog X.w) X.A (eval a X.env) (λv e=>wpAny (model X.prog X.w) X.A (eval b X.env) (λu d=>wpAny (model X.prog X.w) X.A (f v u) Q X.xe d) X.xe e) X.xe s:=by
 refine bb (p G s Z H _ I h) λv i ⟨x,H1,r,k,m⟩=>?_;refine bb (o G i Z H1 _ r m) λu g ⟨y,c,q,j,l⟩=>?_;exact n v u g x y c q k j l
theorem Rr{op:Operator}{r:R2}(f:jI X (binaryOp op) r)(i:PE X a ta)(g:PE X b tb):PE X (.BinOp a op b pos) (BF r ta tb):=by
 intro G s Z H Q I h;exact wpAny_BinOp (Qd i g I h λv u c x y k j e d q=>f G c Z k x y v u Q j e d q)
theorem Rq{op:UnaryOp}{r:V->Hp->VK->Prop}(e:UN X (unaryOp op) r)(f:PE X a ta):PE X (.UnaryOp op a pos) (UU r ta):=by
 intro G s Z H Q I h;exact UnaryOp_ (bb (f G s Z H _ I h) λv b ⟨x,H1,g,c,d⟩=>e G b Z H1 x v Q g c d)
theorem UC{f:Value->Value->Sem Value}{C:Int->Int->Prop}{g:Int->Int->Int}
 (rule:∀(i j:Int) (t u:Tok) (s:Shared) (Q:LV) (E:LV),C i j->Q (.int (g i j) s.toks) {s with toks:=s.toks+1}->wpAny (model X.prog X.w) X.A (f (.int i t) (.int j u)) Q E s):
 jI X f (rI C λi j=>.int (g i j)):=by
 intro G s Z H x y v u Q I b a h;obtain⟨i,j,rfl,rfl,c,q⟩:=h;obtain⟨t,rfl⟩:=b;obtain⟨t',rfl⟩:=a;exact rule i j t t' s _ _ c ⟨.int (g i j),H,I.tok _,⟨_,rfl⟩,q⟩
theorem RW{f:Value->Value->Sem Value}{g:Int->Int->Int}
 (rule:∀(i j:Int) (t u:Tok) (s:Shared) (Q:LV) (E:LV),Q (.int (g i j) s.toks) {s with toks:=s.toks+1}->wpAny (model X.prog X.w) X.A (f (.int i t) (.int j u)) Q E s):
 jI X f (wv λi j=>.int (g i j)):=by
 intro G s Z H x y v u Q I b a h;obtain⟨i,j,rfl,rfl,q⟩:=h;obtain⟨t,rfl⟩:=b;obtain⟨t',rfl⟩:=a;exact rule i j t t' s _ _ ⟨.int (g i j),H,I.tok _,⟨_,rfl⟩,q⟩
theorem Ny{f:Value->Value->Sem Value}{g:Int->Int->Bool}
 (rule:∀(i j:Int) (t u:Tok) (s:Shared) (Q:LV) (E:LV),Q (.bool (g i j)) s->wpAny (model X.prog X.w) X.A (f (.int i t) (.int j u)) Q E s):
 jI X f (wv λi j=>.bl (g i j)):=by
 intro G s Z H x y v u Q I b a h;obtain⟨i,j,rfl,rfl,q⟩:=h;obtain⟨t,rfl⟩:=b;obtain⟨t',rfl⟩:=a;exact rule i j t t' s _ _ ⟨.bl (g i j),H,I,rfl,q⟩
def Qu(i j:Int):Prop:=0<j/\j<1073741824
def CMul(i j:Int):Prop:=(-(2 ^ 64)<i/\i<2 ^ 64)\/(-(2 ^ 64)<j/\j<2 ^ 64)
theorem CMul.ok{i j:Int}(h:CMul i j):IntMulOk i j:=by
 rcases h with ⟨b,a⟩|⟨b,a⟩
 ·exact .of_left (intBits_le_64 b a)
 ·exact .of_right (intBits_le_64 b a)
theorem vR(k:Nat):(0:Int)<=2 ^ k:=by
 rw[two_pow_cast];exact Int.natCast_nonneg _
theorem Nx:jI X (binaryOp .Add) (wv λi j=>.int (i+j)):=RW λ_ _ _ _ _ _ _ q=>add_int q
theorem Nm:jI X (binaryOp .Sub) (wv λi j=>.int (i-j)):=RW λ_ _ _ _ _ _ _ q=>sub_int q
theorem Nq:jI X (binaryOp .Mult) (rI CMul λi j=>.int (i*j)):=UC λ_ _ _ _ _ _ _ a q=>mul_int q a.ok
theorem Iq:jI X (binaryOp .FloorDiv) (rI Qu λi j=>.int (i / j)):=UC λi j _ _ _ _ _ a q=>by
 have c:(0:Int)<j:=a.1;have b:j<1073741824:=a.2;exact floordiv_int (by omega) (by rw[Yc i (by omega)];exact q) (.inl (PyProof.noPylong_small (by omega)))
theorem Nr:jI X (binaryOp .Mod) (rI (λ_ j=>0<j) λi j=>.int (i%j)):=UC λi j _ _ _ _ _ a q=>by
 have b:(0:Int)<j:=a;exact mod_int' (by omega) (by rw[Int.fmod_eq_emod_of_nonneg i (by omega)];exact q)
theorem Nn:jI X (binaryOp .RShift) (rI (λ_ j=>0<=j) λi j=>.int (i / 2 ^ j.toNat)):=UC λi j _ _ _ _ _ a q=>
 rshift_int a (by rw[Yc i (vR _)];exact q)
theorem unI{f:Value->Sem Value}{g:Int->Int}
 (rule:∀(i:Int) (t:Tok) (s:Shared) (Q:LV) (E:LV),Q (.int (g i) s.toks) {s with toks:=s.toks+1}->wpAny (model X.prog X.w) X.A (f (.int i t)) Q E s):
 UN X f (rU λi=>.int (g i)):=by
 intro G s Z H x v Q I a h;obtain⟨i,rfl,q⟩:=h;obtain⟨t,rfl⟩:=a;exact rule i t s _ _ ⟨.int (g i),H,I.tok _,⟨_,rfl⟩,q⟩
theorem LH:UN X (unaryOp .USub) (rU λi=>.int (-i)):=unI λ_ _ _ _ _ q=>neg_int q
end
def L5:V->V->Bool
 |.non,.non=>true | .non,.int _=>true | .int _,.non=>true | .non,.bl _=>true | .bl _,.non=>true | .non,.str _=>true | .str _,.non=>true
 |.int _,.int _=>true | .bl _,.bl _=>true | .str _,.str _=>true | .byt _,.byt _=>true
 |.int _,.str _=>true | .str _,.int _=>true | .bl _,.str _=>true | .str _,.bl _=>true
 |_,_=>false
def rEq:R2:=λx y H Q=>L5 x y=true/\Q (.bl (decide (x=y))) H
def rNe:R2:=λx y H Q=>L5 x y=true/\Q (.bl (!decide (x=y))) H
theorem yW{i j:Int}:decide (V.int i=V.int j)=(i==j):=by
 rw[X4];simp
theorem FE{i j:Bool}:decide (V.bl i=V.bl j)=(i==j):=by
 rw[X4];simp
theorem yV{i j:Str}:decide (V.str i=V.str j)=(i==j):=by
 rw[X4];simp
theorem yX{i j:Array UInt8}:decide (V.byt i=V.byt j)=(i.toList==j.toList):=by
 rw[X4];cases i;cases j;simp
section
variable{X:Cx}{a b c:Expr}{ta tb tc:TE}{pos:Pos}
theorem aV{G:L9}{Z:St}{H:Hp}{s:Shared}{Q:VK}{k a:Bool}(I:Inv X G Z H s)(q:Q (.bl k) H)(e:k=a):EP X G Z Q (.bool a) s:=by
 subst e;exact⟨.bl k,H,I,rfl,q⟩
theorem RV:jI X (compareOp .Eq) rEq:=by
 intro G s Z H x y v u Q I c a h;obtain⟨b,q⟩:=h;cases x with
 |non=>
   cases c;cases y with
   |non=>cases a;exact PySem.EqNone.eq_none_none (aV I q (by simp))
   |bl j=>cases a;exact PySem.EqNone.eq_none_bool (aV I q (by simp))
   |int j=>obtain⟨t',rfl⟩:=a;exact PySem.EqNone.eq_none_int (aV I q (by simp))
   |str j=>obtain⟨t',rfl⟩:=a;exact PySem.EqNone.eq_none_str (aV I q (by simp))
   |_=>exact absurd (show false=true from b) V1
 |bl i=>
   cases c;cases y with
   |non=>cases a;exact PySem.EqNone.eq_bool_none (aV I q (by simp))
   |bl j=>cases a;exact eq_bool (aV I q FE)
   |str j=>obtain⟨t',rfl⟩:=a;exact PySem.EqMixed.eq_bool_str (aV I q (by simp))
   |_=>exact absurd (show false=true from b) V1
 |int i=>
   obtain⟨t,rfl⟩:=c;cases y with
   |non=>cases a;exact PySem.EqNone.eq_int_none (aV I q (by simp))
   |int j=>obtain⟨t',rfl⟩:=a;exact eq_int (aV I q yW)
   |str j=>obtain⟨t',rfl⟩:=a;exact PySem.EqMixed.eq_int_str (aV I q (by simp))
   |_=>exact absurd (show false=true from b) V1
 |str i=>
   obtain⟨t,rfl⟩:=c;cases y with
   |non=>cases a;exact PySem.EqNone.eq_str_none (aV I q (by simp))
   |bl j=>cases a;exact PySem.EqMixed.eq_str_bool (aV I q (by simp))
   |int j=>obtain⟨t',rfl⟩:=a;exact PySem.EqMixed.eq_str_int (aV I q (by simp))
   |str j=>obtain⟨t',rfl⟩:=a;exact eq_str (aV I q yV)
   |_=>exact absurd (show false=true from b) V1
 |byt i=>
   obtain⟨t,rfl⟩:=c;cases y with
   |byt j=>obtain⟨t',rfl⟩:=a;exact PySem.W.eq_bytes (aV I q yX)
   |_=>exact absurd (show false=true from b) V1
 |_=>cases y<;>exact absurd (show false=true from b) V1
theorem RQ:jI X (compareOp .NotEq) rNe:=by
 intro G s Z H x y v u Q I c a h;obtain⟨b,q⟩:=h;cases x with
 |non=>
   cases c;cases y with
   |non=>cases a;exact PySem.EqNone.ne_none_none (aV I q (by simp))
   |bl j=>cases a;exact PySem.EqNone.ne_none_bool (aV I q (by simp))
   |int j=>obtain⟨t',rfl⟩:=a;exact PySem.EqNone.ne_none_int (aV I q (by simp))
   |str j=>obtain⟨t',rfl⟩:=a;exact PySem.EqNone.ne_none_str (aV I q (by simp))
   |_=>exact absurd (show false=true from b) V1
 |bl i=>
   cases c;cases y with
   |non=>cases a;exact PySem.EqNone.ne_bool_none (aV I q (by simp))
   |bl j=>cases a;exact ne_bool (aV I q (congrArg not FE))
   |str j=>obtain⟨t',rfl⟩:=a;exact PySem.EqMixed.ne_bool_str (aV I q (by simp))
   |_=>exact absurd (show false=true from b) V1
 |int i=>
   obtain⟨t,rfl⟩:=c;cases y with
   |non=>cases a;exact PySem.EqNone.ne_int_none (aV I q (by simp))
   |int j=>obtain⟨t',rfl⟩:=a;exact ne_int (aV I q (congrArg not yW))
   |str j=>obtain⟨t',rfl⟩:=a;exact PySem.EqMixed.ne_int_str (aV I q (by simp))
   |_=>exact absurd (show false=true from b) V1
 |str i=>
   obtain⟨t,rfl⟩:=c;cases y with
   |non=>cases a;exact PySem.EqNone.ne_str_none (aV I q (by simp))
   |bl j=>cases a;exact PySem.EqMixed.ne_str_bool (aV I q (by simp))
   |int j=>obtain⟨t',rfl⟩:=a;exact PySem.EqMixed.ne_str_int (aV I q (by simp))
   |str j=>obtain⟨t',rfl⟩:=a;exact ne_str (aV I q (congrArg not yV))
   |_=>exact absurd (show false=true from b) V1
 |byt i=>
   obtain⟨t,rfl⟩:=c;cases y with
   |byt j=>obtain⟨t',rfl⟩:=a;exact PySem.W.ne_bytes (aV I q (congrArg not yX))
   |_=>exact absurd (show false=true from b) V1
 |_=>cases y<;>exact absurd (show false=true from b) V1
theorem RS:jI X (compareOp .Lt) (wv λi j=>.bl (decide (i<j))):=Ny λ_ _ _ _ _ _ _ q=>lt_int q
theorem RT:jI X (compareOp .Gt) (wv λi j=>.bl (decide (j<i))):=Ny λ_ _ _ _ _ _ _ q=>gt_int q
theorem RU:jI X (compareOp .GtE) (wv λi j=>.bl (decide (j<=i))):=Ny λ_ _ _ _ _ _ _ q=>ge_int q
theorem Nt:jI X (compareOp .Is) (λx y H Q=>y=.non/\Q (.bl (decide (x=.non))) H):=by
 intro G s Z H x y v u Q I a b h;obtain⟨rfl,q⟩:=h;cases b;refine is_none_gen (aV I q ?_)
 cases x <;> first
  |(cases a;rfl)
  |(obtain⟨t,rfl⟩:=a;rfl)
theorem Im:jI X (compareOp .IsNot) (λx y H Q=>y=.non/\Q (.bl (!decide (x=.non))) H):=by
 intro G s Z H x y v u Q I a b h;obtain⟨rfl,q⟩:=h;cases b;refine isnot_none_gen (aV I q ?_)
 cases x <;> first
  |(cases a;rfl)
  |(obtain⟨t,rfl⟩:=a;rfl)
theorem H9{op:CmpOp}{r:R2}(f:jI X (compareOp op) r)(j:PE X a ta)(i:PE X b tb)(g:behindInMarks op b=false):PE X (.Compare a [op] [b] pos) (BF r ta tb):=by
 intro G s Z H Q I h;exact wpAny_Compare1 (Qd j i I h λv u c x y l k e d q=>f G c Z l x y v u Q k e d q) g
def BQ(t:TE):TT:=λZ H Q=>t Z H λx H'=>∃k,x=.bl k/\Q k H'
theorem HC{op:CmpOp}{r:R2}(o:jI X (compareOp op) r)(t:PE X a ta)(q:PE X b tb)(p:behindInMarks op b=false):PT X (.Compare a [op] [b] pos) (BQ (BF r ta tb)):=by
 intro G s Z H Q I h
 refine wpAny_isTrue_Compare1 (bb (t G s Z H _ I h) λv f ⟨x,H1,B,j,n⟩=>bb (q G f Z H1 _ B n) λu d ⟨y,D,A,i,m⟩=>
  bb (o G d Z D x y v u _ A j i m) λc E ⟨z,C,w,g,k,e,l⟩=>?_) p
 subst e;cases g;exact W4 ⟨C,w,l⟩
theorem rK:(sizeLine:Nat)<2 ^ 63:=by rw[Y1];decide
theorem tq{x:V}{us:List Value}(r:Vals [x] us):∃u,us=[u]/\RelV x u:=by
 cases r with
 |cons b a=>cases a;exact⟨_,rfl,b⟩
theorem BK{x y:V}{us:List Value}(r:Vals [x,y] us):∃u a,us=[u,a]/\RelV x u/\RelV y a:=by
 cases r with
 |cons e d=>
   cases d with
   |cons c b=>cases b;exact⟨_,_,rfl,e,c⟩
theorem Gn:cz X (.builtin "abs") (λxs H Q=>∃i,xs=[.int i]/\Q (.int (if i<0 then -i else i)) H):=by
 intro G s Z H xs us Q I r h;obtain⟨i,rfl,q⟩:=h;obtain⟨u,rfl,t,rfl⟩:=tq r;exact call_abs_int λu a=>⟨.int (if i<0 then -i else i),H,I.tok _,⟨_,rfl⟩,q⟩
theorem Bn(b:X.calm=true):cz X (.builtin "max") (λxs H Q=>∃i j,xs=[.int i,.int j]/\Q (.int (if j>i then j else i)) H):=by
 intro G s Z H xs us Q I r h;obtain⟨i,j,rfl,q⟩:=h;obtain⟨u,c,rfl,⟨t,rfl⟩,⟨t',rfl⟩⟩:=BK r;refine max_two_ints (I.ok.hd b) λh' d k=>⟨_,H,I.kept k,?_,q⟩;by_cases a:j>i
 ·rw[VL a,VL a];exact⟨_,rfl⟩
 ·rw[on a,on a];exact⟨_,rfl⟩
theorem Bm(b:X.calm=true):cz X (.builtin "min") (λxs H Q=>∃i j,xs=[.int i,.int j]/\Q (.int (if j<i then j else i)) H):=by
 intro G s Z H xs us Q I r h;obtain⟨i,j,rfl,q⟩:=h;obtain⟨u,c,rfl,⟨t,rfl⟩,⟨t',rfl⟩⟩:=BK r;refine min_two_ints (I.ok.hd b) λh' d k=>⟨_,H,I.kept k,?_,q⟩;by_cases a:j<i
 ·rw[VL a,VL a];exact⟨_,rfl⟩
 ·rw[on a,on a];exact⟨_,rfl⟩
end
structure ObjM (h:Heap) (x dx C:Addr) (mA:Str->Option Value):Prop where
 obj:h.get? x=some (PySem.W.instObj C dx)
 ns:h.Ns1 dx mA
 ne:dx≠x
theorem AY{h:Heap}{dx:Addr}{d:Str->Option Value}(n:h.Ns1 dx d):∃c,h.get? dx=some c/\∀name,PySem.W.lookIn name c=some (d name):=by
 obtain⟨o,f,ep,i,hd,k,_,j⟩:=n;refine⟨o,i,λname=>?_⟩;have e:=j name;unfold nsFind findBy at e;rw[<-Array.find?_toList]at e;unfold PySem.W.lookIn;rw[hd];dsimp only;split
 ·rename_i y q;rw[q]at e;exact congrArg some e
 · rename_i q;rw[q]at e
   have a:f.toList.any (·.refKey)=false:=by
    rw[List.any_eq_false];intro y g;obtain⟨z,t,b⟩:=k y (X3.mp g);simp[DictEntry.refKey,b]
   have l:¬ f.toList.any (·.refKey)=true:=by rw[a];exact V1
   rw[on l];exact congrArg some e
theorem ObjM.look{h:Heap}{x dx C:Addr}{b:Str->Option Value}(I:ObjM h x dx C b):∃a,PySem.W.InstAt h x (PySem.W.instObj C dx) C (some a)/\∀name,PySem.W.lookIn name a=some (b name):=
 let ⟨a,c,d⟩:=AY I.ns
 ⟨a,⟨I.obj,rfl,rfl,c⟩,d⟩
section
variable{prog:Program}{w:World}{A:Around}{E:LV}{s:Shared}{K:F0}{x dx C f:Addr}{mA:Str->Option Value}{name:Str}{v:Value}
theorem Jb{a:Bool}{Q:LV}(X:K.In s.heap)(I:ObjM s.heap x dx C mA)(f:PySem.W.plainGet K C name=true)(e:PySem.W.hasDictIn K C=true)
 (g:PySem.W.findIn K (.ref C) name=some none) (c:mA name=some v) (b:PySem.W.handedIn v=true) (h:Q v {s with toks:=s.toks+1}):
 wpAny (model prog w) A (getAttr (.ref x) name a) Q E s:=by
 obtain⟨i,J,d⟩:=I.look;exact PySem.W.get_value X J (X5 f).1 (PySem.W.findObj_own e g rfl (by rw[d,c])) b h
theorem Fg{pl:Sem Bool}{Q:Value×List Value->Shared->Prop}(X:K.In s.heap)(I:ObjM s.heap x dx C mA)(a:PySem.W.plainGet K C name=true)
 (g:PySem.W.findIn K (.ref C) name=some (some (.ref f))) (d:PySem.W.isFn K (.ref f)=true) (c:mA name=none) (h:Q (.ref f,[.ref x]) s):
 wpAny (model prog w) A (getMethod (.ref x) name pl) Q E s:=by
 obtain⟨b,J,e⟩:=I.look;exact PySem.W.method_fn X J (X5 a).1 (X5 a).2 g (Yd.mp d) (by show(PySem.W.lookIn name b).map (·.isSome)=some false;rw[e,c];rfl) h
theorem Hl{ns:List Str}{Q:Unit->Shared->Prop}(X:K.In s.heap)(I:ObjM s.heap x dx C mA)
 (m:PySem.W.findIn K (.ref C) "__setattr__" = some (some (.builtin "object.__setattr__"))) (hp:PySem.W.plainOver K C=true) (l:PySem.W.takerIn K C name=some none) (n:PySem.W.hasDictIn K C=true)
 (k:PySem.Within mA ns) (hsz:ns.length<=sizeLine)
 (h:∀h',ObjM h' x dx C (λy=>if y=name then some v else mA y)->Heap.SameBut dx s.heap h'->Q () {s with heap:=h',toks:=s.toks+2}):
 wpAny (model prog w) A (setAttr (.ref x) name v) Q E s:=by
 obtain⟨t,J,z⟩:=I.look;refine PySem.W.set_plain X J m (PySem.W.osa_open (s:={s with toks:=s.toks+1}) (r:=none) X J hp l λb=>?_);obtain⟨B,o,g⟩:=PySem.W.any_some n;have j:s.heap.get? x=some ⟨.ref C,some dx,.plain,#[]⟩:=I.obj;refine VM (VX (VM (VM (wpAny_loadPart j (VM (PySem.W.Looks.here (s:={s with toks:=s.toks+1}) (PySem.W.looks_clsIn X o) ?_))))));rw[g];refine VX (a:=some dx) (VM (VX (VM ?_)));refine wpAny_nsSet1 (s:={s with toks:=s.toks+1}) I.ns λh' d c=>?_;obtain⟨u,p,q,e,f,i⟩:=d.count (PySem.Within.cons name v k);refine VM (wpAny_lookBehind e (by rw[f];exact pastItsLine_dict (Wl i (by rw[VV];omega))) ?_);exact VX (h _ ⟨(c.2 _ (Xp I.ne)).trans I.obj,d,I.ne⟩ c)
theorem Ee{R:Result->Shared->Prop}{vs:List Value}{a:List (Str×Value)}(X:K.In s.heap)(b:PySem.W.makesIn K C=true)
 (hi:PySem.W.findIn K (.ref C) "__init__" = some (some (.ref f))) (c:PySem.W.typeIn K (.ref f)=some (.type "function"))
 (h:codeAny (model prog w) (A.under (.builtin "type.__call__" ⟨.ref C::vs,a⟩)) (.call (.ref f) ⟨.ref (s.heap.objs.size+1)::vs,a⟩) (PySem.W.InitBack (s.heap.objs.size+1) R)
   {s with heap:=(s.heap.push PySem.W.emptyDict).push (PySem.W.instObj C s.heap.objs.size)}):
 codeAny (model prog w) A (.call (.ref C) ⟨vs,a⟩) R s:=by
 obtain⟨e,g,d,t,os⟩:=s;exact PySem.W.make_core (PySem.W.makes_of X b) (PySem.W.looks_findIn X hi) (λself=>PySem.W.bind_fn X self c) (.inl rfl) h
end
def eQ(f:Str)(v:V):List (Str×V)->List (Str×V)
 |[]=>[(f,v)]
 |(g,x)::r=>if g=f then (g,v)::r else (g,x)::eQ f v r
theorem lR(f g:Str)(v:V):∀fs:List (Str×V),(eQ f v fs).lookup g=if g=f then some v else fs.lookup g
 | []=>by
   show List.lookup g [(f,v)]=_;by_cases h:g=f
   ·have a:(g==f)=true:=Yd.mpr h;simp only[List.lookup,a,VL h]
   ·have a:(g==f)=false:=Wt.mpr h;simp only[List.lookup,a,on h]
 | (k,x)::r=>by
   have c:=lR f g v r;rw[show eQ f v ((k,x)::r)=(if k=f then (k,v)::r else (k,x)::eQ f v r) from rfl];by_cases b:k=f
   · rw[VL b];by_cases h:g=k
     ·have a:(g==k)=true:=Yd.mpr h;simp only[List.lookup,a,VL (h.trans b)]
     ·have a:(g==k)=false:=Wt.mpr h;simp only[List.lookup,a,on (λe:g=f=>h (e.trans b.symm))]
   · rw[on b];by_cases h:g=k
     ·have a:(g==k)=true:=Yd.mpr h;simp only[List.lookup,a,on (λe:g=f=>b (h.symm.trans e))]
     ·have a:(g==k)=false:=Wt.mpr h;simp only[List.lookup,a];exact c
theorem lh(f:Str)(v:V):∀fs:List (Str×V),f∈(eQ f v fs).map (·.1)/\∀g,g∈fs.map (·.1)->g∈(eQ f v fs).map (·.1)
 |[]=>⟨by simp[eQ],λg h=>by simp at h⟩
 | (k,x)::r=>by
   obtain⟨c,b⟩:=lh f v r;rw[show eQ f v ((k,x)::r)=(if k=f then (k,v)::r else (k,x)::eQ f v r) from rfl];by_cases a:k=f
   ·rw[VL a];subst a;exact⟨by simp,λg h=>by simpa using h⟩
   · rw[on a];refine⟨?_,λg h=>?_⟩
     ·rw[VN];exact VR _ c
     · rw[VN]at h ⊢;rcases VY.mp h with e|e
       ·exact VY.mpr (.inl e)
       ·exact VR _ (b g e)
theorem lV(f:Str)(v:V):∀fs:List (Str×V),(eQ f v fs).length<=fs.length+1
 |[]=>by simp[eQ]
 | (k,x)::r=>by
   have b:=lV f v r;rw[show eQ f v ((k,x)::r)=(if k=f then (k,v)::r else (k,x)::eQ f v r) from rfl];by_cases a:k=f
   ·rw[VL a,VV,VV];omega
   ·rw[on a,VV,VV];omega
theorem RelO.some_of{v:V}{o:Option Value}(r:RelO (some v) o):∃u,o=some u/\RelV v u:=by
 cases o with
 |none=>exact(show False from r).elim
 |some u=>exact⟨u,rfl,r⟩
theorem RelO.none_of{o:Option Value}(r:RelO none o):o=none:=by
 cases o with
 |none=>rfl
 |some u=>exact(show False from r).elim
theorem Bd{v:V}{u:Value}(r:RelV v u):PySem.W.handedIn u=true:=by
 cases v with
 |non=>cases(show u=Value.none from r);rfl
 |bl b=>cases(show u=Value.bool b from r);rfl
 |int i=>obtain⟨t,e⟩:=(show ∃t,u=Value.int i t from r);cases e;rfl
 |str x=>obtain⟨t,e⟩:=(show ∃t,u=Value.str x t from r);cases e;rfl
 |byt b=>obtain⟨t,e⟩:=(show ∃t,u=Value.bytes b t from r);cases e;rfl
 |flt b=>obtain⟨t,e⟩:=(show ∃t,u=Value.float b t from r);cases e;rfl
 |ref a=>cases(show u=Value.ref a from r);rfl
 |ty n=>cases(show u=Value.type n from r);rfl
section
variable{P:Program}{w:World}{H H':Hp}{h h':Heap}{a C dx:Addr}{fs fs':List (Str×V)}
theorem mL(hok:HOk P w H h)(e:H a=some (.ins C dx fs)):∃b,ObjM h a dx C b/\(∀f,RelO (fs.lookup f) (b f))/\PySem.Within b (fs.map (·.1))/\fs.length<=1000/\H dx=some (.own a):=by
 obtain⟨d,z,ne,ob,b,n,r,q⟩:=(show ObjOk P w H h a (.ins C dx fs) from hok a _ e);exact⟨b,⟨ob,n,ne⟩,r,q,z,d⟩
end
structure Cls (K:F0) (C:Addr):Prop where
 pg:PySem.W.plainGet K C Str.empty=true
 hd:PySem.W.hasDictIn K C=true
 po:PySem.W.plainOver K C=true
 sa:PySem.W.findIn K (.ref C) "__setattr__" = some (some (.builtin "object.__setattr__"))
theorem Cls.get{K:F0}{C:Addr}(c:Cls K C)(f:Str):PySem.W.plainGet K C f=true:=c.pg
def NoAttr(K:F0)(C:Addr)(f:Str):Prop:=PySem.W.findIn K (.ref C) f=some none
theorem NoAttr.taker{K:F0}{C:Addr}{f:Str}(n:NoAttr K C f):PySem.W.takerIn K C f=some none:=by
 unfold PySem.W.takerIn;rw[show PySem.W.findIn K (.ref C) f=some none from n];rfl
structure Meth (K:F0) (C:Addr) (m:Str) (f:Addr):Prop where
 at_:PySem.W.findIn K (.ref C) m=some (some (.ref f))
 fn:PySem.W.isFn K (.ref f)=true
 kp:PySem.W.keepIn K (.ref f)=true
section
variable{X:Cx}{G:L9}{Z:St}{H:Hp}{s:Shared}{a C dx:Addr}{fs:List (Str×V)}{f:Str}{v:V}{A:Around}{E:LV}
theorem wS{b:Bool}{Q:LV}(I:Inv X G Z H s)(e:H a=some (.ins C dx fs))(c:Cls X.K C)(n:NoAttr X.K C f)(l:fs.lookup f=some v)
 (h:∀u d,Inv X G Z H d->RelV v u->Q u d):wpAny (model X.prog X.w) A (getAttr (.ref a) f b) Q E s:=by
 obtain⟨i,O,r,_,_,_⟩:=mL I.hok e;obtain⟨u,j,g⟩:=RelO.some_of (v:=v) (o:=i f) (by rw[<-l];exact r f);exact Jb I.kIn O (c.get f) c.hd n j (Bd g) (h u _ (I.tok _) g)
theorem nI{m:Str}{g:Addr}{pl:Sem Bool}{Q:Value×List Value->Shared->Prop}(I:Inv X G Z H s)(e:H a=some (.ins C dx fs))(c:Cls X.K C)(k:Meth X.K C m g)(l:fs.lookup m=none)
 (h:Q (.ref g,[.ref a]) s):wpAny (model X.prog X.w) A (getMethod (.ref a) m pl) Q E s:=by
 obtain⟨b,O,r,_,_,_⟩:=mL I.hok e;have d:b m=none:=RelO.none_of (by rw[<-l];exact r m);exact Fg I.kIn O (c.get m) k.at_ k.fn d h
theorem wd{y:V}{u:Value}{Q:Unit->Shared->Prop}(I:Inv X G Z H s)(e:H a=some (.ins C dx fs))(c:Cls X.K C)(n:NoAttr X.K C f)(D:fs.length<1000)(p:RelV y u)
 (h:∀j,Inv X G Z (upd H a (.ins C dx (eQ f y fs))) j->Q () j):wpAny (model X.prog X.w) A (setAttr (.ref a) f u) Q E s:=by
 obtain⟨k,O,r,i,_,l⟩:=mL I.hok e;have hz:(fs.map (·.1)).length<=sizeLine:=by rw[VO,Y1];omega
 refine Hl I.kIn O c.sa c.po n.taker c.hd i hz λh' d m=>h _ ?_;have hd:∃o,h'.get? dx=some o:=let ⟨o,_,_,B,_⟩:=d.ns;⟨o,B⟩
 refine I.write (x:=a) (e:=dx) (by rw[e];exact True.intro) (.inr l) (λb q v z=>(m.2 b v).trans z) hd ?_;refine⟨by rw[ao O.ne];exact l,?_,O.ne,d.obj,_,d.ns,λg=>?_,λg t=>?_⟩
 ·have:=lV f y fs;omega
 · show RelO ((eQ f y fs).lookup g) (if g=f then some u else k g);rw[lR];by_cases q:g=f
   ·rw[VL q,VL q];exact p
   ·rw[on q,on q];exact r g
 · by_cases q:g=f
   ·rw[q];exact(lh f y fs).1
   ·refine(lh f y fs).2 g (i g λz=>t ?_);show(if g=f then some u else k g)=none;rw[on q];exact z
theorem Inv.made(I:Inv X G Z H s):Inv X G Z (upd (upd H s.heap.objs.size (.own (s.heap.objs.size+1))) (s.heap.objs.size+1) (.ins C s.heap.objs.size []))
 {s with heap:=(s.heap.push PySem.W.emptyDict).push (PySem.W.instObj C s.heap.objs.size)}:=by
 have e1:(s.heap.push PySem.W.emptyDict).get? s.heap.objs.size=some PySem.W.emptyDict:=V8 s.heap rfl
 have g:((s.heap.push PySem.W.emptyDict).push (PySem.W.instObj C s.heap.objs.size)).get? (s.heap.objs.size+1)=some (PySem.W.instObj C s.heap.objs.size):=by
  have:=V8 (s.heap.push PySem.W.emptyDict) (o:=PySem.W.instObj C s.heap.objs.size) rfl
  rwa [XG]at this
 have f:(s.heap.push PySem.W.emptyDict).Ns s.heap.objs.size (λ_=>none):=⟨PySem.W.emptyDict,#[],_,e1,rfl,(λe d=>absurd d (by simp)),λ_=>rfl⟩;have h:=I.laid (a:=s.heap.objs.size) (o:=.own (s.heap.objs.size+1)) (h':=s.heap.push PySem.W.emptyDict) (t':=s.toks) (λb u q=>VT _ q) (V2 _) ⟨_,e1⟩;refine h.laid (a:=s.heap.objs.size+1) (o:=.ins C s.heap.objs.size []) (t':=s.toks) (λb u q=>VT _ q) (Nat.le_of_eq (XG _ _)) ?_;have ne:s.heap.objs.size≠s.heap.objs.size+1:=Wk (XH _);refine⟨by rw[ao ne,az],WP _,ne,g,λ_=>none,(Heap.Ns1.of_empty f).at λo q=>VT _ q,λ_=>True.intro,λy c=>absurd rfl c⟩
theorem Jt{prog:Program}{w:World}{env:Env}{e:Expr}{f:Str}{pos:Pos}{s:Shared}{Q:LV}(b:attributeBase e f env (eval e env)=eval e env)
 (h:wpAny (model prog w) A (eval e env) (λo a=>wpAny (model prog w) A (getAttr o f true) Q E a) E s):wpAny (model prog w) A (eval (.Attribute e f pos) env) Q E s:=
 Attribute_any_ h (by rw[arm_eval_Attribute,b])
end
def mV(K:F0)(ta:TE)(f:Str):TE:=λZ H Q=>ta Z H λx H1=>∃a C dx fs v,x=.ref a/\H1 a=some (.ins C dx fs)/\Cls K C/\NoAttr K C f/\fs.lookup f=some v/\Q v H1
def Ce(K:F0)(ta c:TE)(f:Str):TS:=λD Z H=>c Z H λy H1=>ta Z H1 λx b=>∃a C dx fs,x=.ref a/\b a=some (.ins C dx fs)/\Cls K C/\NoAttr K C f/\fs.length<1000/\
 D.nx Z (upd b a (.ins C dx (eQ f y fs)))
section
variable{X:Cx}{o e value:Expr}{f:Str}{pos pos' tpos:Pos}{ta tv:TE}
theorem MW(g:PE X e ta)(i:attributeBase e f X.env (eval e X.env)=eval e X.env):PE X (.Attribute e f pos) (mV X.K ta f):=by
 intro G s Z H Q I h;refine Jt i (bb (g G s Z H _ I h) λu r ⟨x,H1,m,b,a,C,dx,fs,v,ex,j,c,n,l,q⟩=>?_);subst ex;obtain rfl:u=Value.ref a:=b;exact wS m j c n l λo p k d=>⟨v,H1,k,d,q⟩
theorem MB(k:PE X o ta)(i:PE X value tv)(j:swapsWith value (some (.Attribute o f pos')) pos.line X.env=pure false):PS X (.Assign [.Attribute o f pos'] value pos) (Ce X.K ta tv f):=by
 intro G s Z H D I h;refine plainObj_wpAny_Assign_Attribute (bb (i G s Z H _ I h) λu b ⟨y,H1,t,d,q⟩=>bb (k G b Z H1 _ t q) λov w ⟨x,z,r,e,a,C,dx,fs,ex,m,c,n,l,g⟩=>?_) j;subst ex;obtain rfl:ov=Value.ref a:=e;exact wd r m c n l d λv p=>⟨Z,_,p,g⟩
end
section
variable{X:Cx}{G:L9}{Z:St}{H:Hp}{s:Shared}{A:Around}{E:LV}{Q:LV}{c:Value}{b:Bool}
inductive TyOf (K:F0) (H:Hp):V->Value->Prop where
 |non:TyOf K H .non (.type "NoneType")
 |bl (x:Bool):TyOf K H (.bl x) (.type "bool")
 |int (i:Int):TyOf K H (.int i) (.type "int")
 |str (x:Str):TyOf K H (.str x) (.type "str")
 |flt (x:UInt64):TyOf K H (.flt x) (.type "float")
 |lst {a:Addr} {xs:List V} (e:H a=some (.lst xs)):TyOf K H (.ref a) (.type "list")
 |frz {a:Addr} {o:Obj} {xs:List V} (e:H a=some (.frz o (.lst xs))):TyOf K H (.ref a) (.type "list")
 |tup {a:Addr} {xs:List V} (e:H a=some (.tup xs)):TyOf K H (.ref a) (.type "tuple")
 |dK {a:Addr} {kvs:List (ay×V)} (e:H a=some (.dK kvs)):TyOf K H (.ref a) (.type "dict")
 |dT {a:Addr} {kvs:List (List ay×V)} (e:H a=some (.dT kvs)):TyOf K H (.ref a) (.type "dict")
 | ins {a C dx:Addr} {fs:List (Str×V)} (e:H a=some (.ins C dx fs)) (cl:Cls K C) (ha:PySem.W.findIn K (.ref C) "__class__" = some (some (.builtin "object.__class__")))
    (hn:PySem.W.specialIn K (.builtin "object.__class__") "__get__" = some (some (.builtin "getset_descriptor.__get__"))) (htk:PySem.W.takesIn K (.builtin "object.__class__")=some true)
    (hm:PySem.W.mroIn K C (.type "object")=some true):TyOf K H (.ref a) (.ref C)
theorem A8{x:V}{u t:Value}(I:Inv X G Z H s)(d:RelV x u)(ty:TyOf X.K H x t)(e:PySem.W.kitOne X.K t c=some b)(h:∀m,Q (.bool b) {s with toks:=m}):
 wpAny (model X.prog X.w) A (call (.builtin "isinstance") [u,c]) Q E s:=by
 cases ty with
 |non=>cases(show u=Value.none from d);exact WJ PySem.W.kitx_none I.kIn True.intro e (λz=>nomatch z) h
 |bl y=>cases(show u=Value.bool y from d);exact WJ PySem.W.kitx_bool I.kIn True.intro e (λz=>nomatch z) h
 |int i=>obtain⟨t,q⟩:=(show ∃t,u=Value.int i t from d);cases q;exact WJ PySem.W.kitx_int I.kIn True.intro e (λz=>nomatch z) h
 |str y=>obtain⟨t,q⟩:=(show ∃t,u=Value.str y t from d);cases q;exact WJ PySem.W.kitx_str I.kIn True.intro e (λz=>nomatch z) h
 |flt y=>obtain⟨t,q⟩:=(show ∃t,u=Value.float y t from d);cases q;exact WJ PySem.W.kitx_float I.kIn True.intro e (λz=>nomatch z) h
 |@lst a xs f=>
   cases(show u=Value.ref a from d);obtain⟨_,_,n,_,g⟩:=(show ObjOk X.prog X.w H s.heap a (.lst xs) from I.hok a _ f);exact WJ PySem.W.kitx_list I.kIn ⟨_,g,rfl⟩ e (λz=>nomatch z) h
 |@frz a ob xs f=>
   cases(show u=Value.ref a from d);obtain⟨_,_,_,n,_,g⟩:=(show ObjOk X.prog X.w H s.heap a (.frz ob (.lst xs)) from I.hok a _ f);exact WJ PySem.W.kitx_list I.kIn ⟨_,g,rfl⟩ e (λz=>nomatch z) h
 |@tup a xs f=>
   cases(show u=Value.ref a from d);obtain⟨_,_,_,p⟩:=(show ObjOk X.prog X.w H s.heap a (.tup xs) from I.hok a _ f);obtain⟨o,g,j,_⟩:=p;exact WJ PySem.W.kitx_tuple I.kIn ⟨o,g,j⟩ e (λz=>nomatch z) h
 |@dK a kvs f=>
   cases(show u=Value.ref a from d);obtain⟨_,_,vs,_,p⟩:=(show ObjOk X.prog X.w H s.heap a (.dK kvs) from I.hok a _ f);obtain⟨o,D,ep,g,j,_⟩:=p;exact WJ PySem.W.kitx_dict I.kIn ⟨o,g,j.1⟩ e (λz=>nomatch z) h
 |@dT a kvs f=>
   cases(show u=Value.ref a from d);obtain⟨_,_,xs,_,o,D,ep,g,j,_⟩:=(show ObjOk X.prog X.w H s.heap a (.dT kvs) from I.hok a _ f);exact WJ PySem.W.kitx_dict I.kIn ⟨o,g,j.1⟩ e (λz=>nomatch z) h
 |@ins a C dx fs f l B r k v=>
   cases(show u=Value.ref a from d);obtain⟨L,O,_⟩:=mL I.hok f;obtain⟨F,J,_⟩:=O.look;exact WJ (PySem.W.kitx_own (l.get _) l.hd B r k v) I.kIn J e (λz=>nomatch z) h
end
structure Room (k:Nat) (A:Around):Prop where
 hd:A.handled=none
 dp:A.depth+3*k+5<recursionLimit
 un:A.units+16*k+200<cLine
theorem Room.mono{j k:Nat}{A:Around}(r:Room k A)(h:j<=k):Room j A:=⟨r.hd,by have:=r.dp;omega,by have:=r.un;omega⟩
theorem Room.deeper{k:Nat}{A:Around}(r:Room (k+1) A)(env:Env):Room k (A.deeper env):=
 ⟨r.hd,by have:=r.dp;show A.depth+1+3*k+5<_;omega,by have:=r.un;show A.units+3+16*k+200<_;omega⟩
theorem wH{A:Around}{C:Addr}{us:List Value}{a:List (Str×Value)}:(A.under (.builtin "type.__call__" ⟨.ref C::us,a⟩)).depth=A.depth+1:=by
 first | rfl | simp[Around.under,Code.weight,Code.isCreation,Code.isGuard,Code.isCaller,Code.frames,Code.isFrame,guardIds]
theorem wG{A:Around}{C:Addr}{us:List Value}{a:List (Str×Value)}:(A.under (.builtin "type.__call__" ⟨.ref C::us,a⟩)).units=A.units+1:=by
 first | rfl | simp[Around.under,Code.cUnits,Code.frames,Code.isFrame]
theorem Room.make{k:Nat}{A:Around}(r:Room (k+1) A)(C:Addr)(us:List Value)(a:List (Str×Value)):Room k (A.under (.builtin "type.__call__" ⟨.ref C::us,a⟩)):=
 ⟨r.hd,by have:=r.dp;rw[wH];omega,by have:=r.un;rw[wG];omega⟩
theorem Room.depth{k:Nat}{A:Around}(r:Room k A):A.depth<recursionLimit:=by have:=r.dp;omega
theorem Room.units{k:Nat}{A:Around}(r:Room k A):A.units+64<cLine:=by have:=r.un;omega
def bO:TA:=λ_ H Q=>Q [] H
def aM(ta:TE)(a:TA):TA:=λZ H Q=>ta Z H λx H1=>a Z H1 λxs b=>Q (x::xs) b
section
variable{X:Cx}{e:Expr}{es:List Expr}{te:TE}{t:TA}{pos:Pos}
theorem M5:PA X [] bO:=λ_ _ _ _ H Q I h=>W5 ⟨[],H,I,.nil,h⟩
theorem Ig(j:PE X e te)(i:PA X es t)(g:starEach (e::es) X.env=(false,eval e X.env)::starEach es X.env:=by rfl):PA X (e::es) (aM te t):=by
 intro pos G s Z H Q I h;rw[g];show wpAny _ _ (spliced ((false,eval e X.env)::backTo pos (starEach es X.env))) _ _ s;refine WC (bb (j G s Z H _ I h) λu a ⟨x,H1,l,c,f⟩=>?_);exact bb (i pos G a Z H1 _ l f) λus n ⟨xs,m,k,b,d⟩=>⟨x::xs,m,k,.cons c b,d⟩
def LM(t:TA):TE:=λZ H Q=>t Z H λxs H1=>xs.length<=sizeLine/\∀p,H1 p=none->Q (.ref p) (upd H1 p (.tup xs))
def LP(t:TA):TE:=λZ H Q=>t Z H λxs H1=>xs.length<=sizeLine/\∀p,H1 p=none->Q (.ref p) (upd H1 p (.lst xs))
theorem MQ{d}(h:PA X es t):PE X (.Tuple es d pos) (LM t):=by
 intro G s Z H Q I f;refine wpAny_Tuple_spliced (bb (h pos G s Z H _ I f) λus a ⟨xs,H1,c,r,z,q⟩=>⟨by rw[<-r.length];exact z,?_⟩);have g:H1 a.heap.objs.size=none:=c.hok.fresh (V2 _);refine⟨.ref a.heap.objs.size,upd H1 a.heap.objs.size (.tup xs),c.laid (t':=a.toks) (λb u e=>VT _ e) (V2 _) ?_,rfl,q _ g⟩;exact⟨z,us,r,⟨_,V8 _ rfl,rfl,_,rfl⟩⟩
theorem MU(h:PA X es t):PE X (.List es pos) (LP t):=by
 intro G s Z H Q I d;refine wpAny_List_spliced (bb (h pos G s Z H _ I d) λus a ⟨xs,H1,c,r,z,q⟩=>⟨by rw[<-r.length];exact z,?_⟩);have f:H1 a.heap.objs.size=none:=c.hok.fresh (V2 _);refine⟨.ref a.heap.objs.size,upd H1 a.heap.objs.size (.lst xs),c.laid (t':=a.toks) (λb u e=>VT _ e) (V2 _) ?_,rfl,q _ f⟩;exact⟨z,us,0,r,V8 _ rfl⟩
end
abbrev Sp:=List V->Hp->VK->XK->Prop
abbrev BE:=List Env->Hp->Shared->XK->Value->Shared->Prop
structure Env0 (P:Program) (w:World) (K:F0) (mg:Str->Option Value) (base:Heap) (A:Around) (outer:List Env) (s:Shared) (H:Hp):Prop where
 frames:A.frames=some outer
 mod:Mod K mg base
 bs:∀b o,base.get? b=some o->s.heap.get? b=some o/\H b=none
 bsz:base.objs.size<=s.heap.objs.size
 funs:s.heap.FunFrames base outer
 frf:∀b∈wT outer,H b=none
 hok:HOk P w H s.heap
 bare:AllBare s.gens
def CE(outer:List Env)(P:Program)(w:World)(H:Hp)(s:Shared)(Q:VK)(u:Value)(a:Shared):Prop:=
 ∃v H',a.os=s.os/\AllBare a.gens/\Un (wT outer) [] H H' s.heap a.heap/\HOk P w H' a.heap/\RelV v u/\Q v H'
def CR(CX:BE)(outer:List Env)(P:Program)(w:World)(H:Hp)(s:Shared)(Q:VK)(E:XK)(r:Result)(a:Shared):Prop:=
 match r with
 |.ok (.ret u)=>CE outer P w H s Q u a
 |.ok _=>False
 |.error e=>CX outer H s E e a
structure FnOk (P:Program) (w:World) (K:F0) (mg:Str->Option Value) (base:Heap) (CX:BE) (k:Nat) (f:Addr) (fd:FuncData) (ps:List Str) (sp:Sp):Prop where
 len:∀vs H Q E,sp vs H Q E->vs.length=ps.length
 run:∀(A:Around) (outer:List Env) (s:Shared) (H:Hp) (args:Args) (us:List Value) (vs:List V) (Q:VK) (E:XK),Room k A->Env0 P w K mg base A outer s H->BindsTo s fd args (ps.zip us)->Vals vs us->sp vs H Q E->
  codeAny (model P w) A (.call (.ref f) args) (CR CX outer P w H s Q E) s
theorem FnOk.imp{P:Program}{w:World}{K:F0}{mg:Str->Option Value}{base:Heap}{CX:BE}{k:Nat}{f:Addr}{fd:FuncData}{ps:List Str}{sp a:Sp}(F:FnOk P w K mg base CX k f fd ps sp)
 (h:∀vs H Q E,a vs H Q E->sp vs H Q E):FnOk P w K mg base CX k f fd ps a:=
 ⟨λvs H Q E q=>F.len vs H Q E (h _ _ _ _ q),λA outer s H args us vs Q E d e g b c=>F.run A outer s H args us vs Q E d e g b (h _ _ _ _ c)⟩
theorem Env0.make{P:Program}{w:World}{K:F0}{mg:Str->Option Value}{base:Heap}{A:Around}{outer:List Env}{s:Shared}{H:Hp}(e:Env0 P w K mg base A outer s H)(C:Addr)(us:List Value)(a:List (Str×Value)):
 Env0 P w K mg base (A.under (.builtin "type.__call__" ⟨.ref C::us,a⟩)) outer s H:=⟨by first | exact e.frames | (simpa [Around.under,Code.envs,Code.isFrame,pushEnvs] using e.frames),e.mod,e.bs,e.bsz,e.funs,e.frf,e.hok,e.bare⟩
section
variable{X:Cx}{G:L9}{Z:St}{H:Hp}{s s':Shared}
theorem Inv.env0(I:Inv X G Z H s):Env0 X.prog X.w X.K X.mg X.base X.A X.stack s H:=
 ⟨I.ok.frames,I.ok.mod,I.bs,Wl I.ok.bsz I.sz,I.stack,I.stkFree,I.hok,I.bare⟩
theorem Inv.after{Q:VK}{u:Value}(I:Inv X G Z H s)(h:CE X.stack X.prog X.w H s Q u s'):EP X G Z Q u s':=by
 obtain⟨v,H',os,bare,un,hok,r,q⟩:=h;obtain⟨c,g,d,t,a⟩:=s';obtain rfl:a=s.os:=os;exact⟨v,H',I.call (h':=c) (g':=g) (d':=d) (t':=t) (ch:=[]) un hok bare (λb z=>absurd z (by simp)),r,q⟩
end
def ik(sp:Sp)(a:List V)(E:XK)(t:TA):TE:=λZ H Q=>t Z H λvs H1=>sp (vs++a) H1 Q E
def cT(C:Addr)(m:Str)(sp:Sp)(b:List V)(E:XK)(ta:TE)(t:TA):TE:=λZ H Q=>ta Z H λx H1=>∃a dx fs,x=.ref a/\H1 a=some (.ins C dx fs)/\fs.lookup m=none/\
 t Z H1 λvs c=>sp (x::(vs++b)) c Q E
def p6(C:Addr)(sp:Sp)(a:List V)(E:XK)(t:TA):TE:=λZ H Q=>t Z H λvs H1=>∀x dx,H1 x=none->H1 dx=none->dx≠x->
 sp (.ref x::(vs++a)) (upd (upd H1 dx (.own x)) x (.ins C dx [])) (λv b=>v=.non/\Q (.ref x) b) E
def Binds(K:F0)(fd:FuncData)(ps:List Str)(ds:List Value):Prop:=
 ∀(s:Shared) (us:List Value),K.In s.heap->(us++ds).length=ps.length->BindsTo s fd ⟨us,[]⟩ (ps.zip (us++ds))
theorem Binds.all{K:F0}{fd:FuncData}{ps:List Str}(h:∀us:List Value,us.length=ps.length->bindArgs fd ⟨us,[]⟩=pure (ps.zip us)):Binds K fd ps []:=λs us _ a=>by
 rw[Wh]at a ⊢;exact .of_eq (h us a)
def jH(CX:BE)(X:Cx)(E:XK):Prop:=∀(G:L9) (Z:St) (H:Hp) (s:Shared) (e:Value) (a:Shared),Inv X G Z H s->CX X.stack H s E e a->X.xe e a
section
variable{X:Cx}{CX:BE}{k:Nat}{f C:Addr}{fd:FuncData}{ps:List Str}{sp:Sp}{dvs:List V}{ds:List Value}{E:XK}{x m:Str}{p pos apos:Pos}{e o:Expr}{es:List Expr}{ta:TE}{t:TA}
theorem wj{G:L9}{Z:St}{H:Hp}{s:Shared}{Q:VK}{us:List Value}{vs:List V}(F:FnOk X.prog X.w X.K X.mg X.base CX k f fd ps sp)(g:Room k X.A)(j:Binds X.K fd ps ds)(hd:Vals dvs ds)(d:jH CX X E)
 (I:Inv X G Z H s) (r:Vals vs us) (h:sp (vs++dvs) H Q E):wpAny (model X.prog X.w) X.A (call (.ref f) us) (EP X G Z Q) X.xe s:=by
 have b:Vals (vs++dvs) (us++ds):=r.append hd;have i:(us++ds).length=ps.length:=by rw[<-b.length];exact F.len _ _ _ _ h
 refine wpAny_call (YC (F.run X.A X.stack s H ⟨us,[]⟩ (us++ds) (vs++dvs) Q E g I.env0 (j s us I.kIn i) b h) λr c a=>?_);cases r with
 |error e=>exact d G Z H s e c I a
 |ok l=>
   cases l with
   |ret u=>exact I.after a
   |next=>exact False.elim a
   |brk=>exact False.elim a
   |cont=>exact False.elim a
theorem Ia(F:FnOk X.prog X.w X.K X.mg X.base CX k f fd ps sp)(g:Room k X.A)(l:Gl X x)(i:X.mg x=some (.ref f))(j:PySem.W.keepIn X.K (.ref f)=true)(n:Binds X.K fd ps ds)(hd:Vals dvs ds)(d:jH CX X E)
 (o:PA X (e::es) t) (b:(x==("__debug__" : Str))=false:=by decide) (m:starEach (e::es) X.env=(false,eval e X.env)::starEach es X.env:=by rfl) (a:(backTo pos (starEach es X.env)).any (·.1)=false:=by rfl):
 PE X (.Call (.Name x p) (e::es) [] pos) (ik sp dvs E t):=by
 intro G s Z H Q I h;refine Xc (rM I l i ?_ b);refine Ye (h₀:=X.base) I.ok.mod.kin j (bb (o pos G s Z H _ I h) λus u ⟨vs,H1,c,r,q⟩=>⟨c.kIn,?_⟩) m a;exact wj F g n hd d c r q
theorem HW{pl:Sem Bool}(D:PE X o ta)(c:Cls X.K C)(g:Meth X.K C m f)(F:FnOk X.prog X.w X.K X.mg X.base CX k f fd ps sp)(B:Room k X.A)(J:Binds X.K fd ps ds)(hd:Vals dvs ds)(y:jH CX X E)(L:PA X (e::es) t)
 (b:starEach (e::es) X.env=(false,eval e X.env)::starEach es X.env:=by rfl) (d:(backTo pos (starEach es X.env)).any (·.1)=false:=by rfl)
 (z:eval (.Call (.Attribute o m apos) (e::es) [] pos) X.env=(do
   let ov <-eval o X.env
   standAt apos.atName
   let (f,first) <-holding [ov] (getMethod ov m pl)
   callWith pos f first (backTo pos (starEach (e::es) X.env)) (backToKw pos (keywordEach [] X.env))):=by rfl):
 PE X (.Call (.Attribute o m apos) (e::es) [] pos) (cT C m sp dvs E ta t):=by
 intro G s Z H Q I h;refine YS (pl:=pl) (bb (D G s Z H _ I h) λu n ⟨x,H1,j,p,a,dx,fs,ex,M,l,q⟩=>?_) z;subst ex;obtain rfl:u=Value.ref a:=p;refine nI j M c g l ?_;refine Ye (first:=[.ref a]) (h₀:=X.base) I.ok.mod.kin g.kp (bb (L pos G n Z H1 _ j q) λus N ⟨vs,O,i,r,v⟩=>⟨i.kIn,?_⟩) b d;exact wj (us:=.ref a::us) (vs:=.ref a::vs) F B J hd y i (.cons rfl r) v
theorem C6{pl:Sem Bool}(n:PE X o ta)(c:Cls X.K C)(d:Meth X.K C m f)(F:FnOk X.prog X.w X.K X.mg X.base CX k f fd ps sp)(j:Room k X.A)(p:Binds X.K fd ps ds)(hd:Vals dvs ds)(g:jH CX X E)
 (i:eval (.Call (.Attribute o m apos) [] [] pos) X.env=(do
   let ov <-eval o X.env
   standAt apos.atName
   let (f,first) <-holding [ov] (getMethod ov m pl)
   callWith pos f first (backTo pos (starEach [] X.env)) (backToKw pos (keywordEach [] X.env))):=by rfl):
 PE X (.Call (.Attribute o m apos) [] [] pos) (cT C m sp dvs E ta bO):=by
 intro G s Z H Q I h;refine YS (pl:=pl) (bb (n G s Z H _ I h) λu t ⟨x,H1,b,e,a,dx,fs,ex,r,l,q⟩=>?_) i;subst ex;obtain rfl:u=Value.ref a:=e;refine nI b r c d l ?_;exact PySem.W.callWith_K0 (first:=[.ref a]) b.kIn d.kp (wj (us:=[.ref a]) (vs:=[.ref a]) F j p hd g b (.cons rfl .nil) q)
structure Mk (K:F0) (C f:Addr):Prop where
 makes:PySem.W.makesIn K C=true
 init:PySem.W.findIn K (.ref C) "__init__" = some (some (.ref f))
 fn:PySem.W.isFn K (.ref f)=true
 kp:PySem.W.keepIn K (.ref C)=true
theorem Cg{G:L9}{Z:St}{H:Hp}{s:Shared}{Q:VK}{us:List Value}{vs:List V}(M:Mk X.K C f)(F:FnOk X.prog X.w X.K X.mg X.base CX k f fd ps sp)(m:Room (k+1) X.A)(o:Binds X.K fd ps ds)(hd:Vals dvs ds)
 (l:jH CX X E) (I:Inv X G Z H s) (r:Vals vs us)
 (h:∀x dx,H x=none->H dx=none->dx≠x->sp (.ref x::(vs++dvs)) (upd (upd H dx (.own x)) x (.ins C dx [])) (λv y=>v=.non/\Q (.ref x) y) E):
 wpAny (model X.prog X.w) X.A (call (.ref C) us) (EP X G Z Q) X.xe s:=by
 have d:=h (s.heap.objs.size+1) s.heap.objs.size (I.hok.fresh (Nat.le_succ _)) (I.hok.fresh (V2 _)) (Wk (XH _));have b:=Inv.made (C:=C) I;have c:Vals (V.ref (s.heap.objs.size+1)::(vs++dvs)) (Value.ref (s.heap.objs.size+1)::(us++ds)):=.cons rfl (r.append hd)
 have n:(Value.ref (s.heap.objs.size+1)::us++ds).length=ps.length:=by
  have e:=c.length;rw[F.len _ _ _ _ d]at e;exact e.symm
 refine wpAny_call (Ee (f:=f) I.kIn M.makes M.init (Yd.mp M.fn) (YC (F.run _ X.stack _ _ ⟨Value.ref (s.heap.objs.size+1)::us,[]⟩ (Value.ref (s.heap.objs.size+1)::(us++ds)) _ _ E (m.make C us [])
  (b.env0.make C us []) (o _ (Value.ref (s.heap.objs.size+1)::us) b.kIn n) c d) λr g a=>?_))
 cases r with
 |error e=>exact l G Z _ _ e g b a
 |ok p=>
   cases p with
   |ret u=>
     obtain⟨v,H',t,i,q,j⟩:=b.after a;subst q;exact⟨i,⟨V.ref (s.heap.objs.size+1),H',t,rfl,j⟩⟩
   |next=>exact False.elim a
   |brk=>exact False.elim a
   |cont=>exact False.elim a
theorem HX(M:Mk X.K C f)(F:FnOk X.prog X.w X.K X.mg X.base CX k f fd ps sp)(g:Room (k+1) X.A)(j:Gl X x)(i:X.mg x=some (.ref C))(m:Binds X.K fd ps ds)(hd:Vals dvs ds)(d:jH CX X E)
 (n:PA X (e::es) t) (b:(x==("__debug__" : Str))=false:=by decide) (l:starEach (e::es) X.env=(false,eval e X.env)::starEach es X.env:=by rfl) (a:(backTo pos (starEach es X.env)).any (·.1)=false:=by rfl):
 PE X (.Call (.Name x p) (e::es) [] pos) (p6 C sp dvs E t):=by
 intro G s Z H Q I h;refine Xc (rM I j i ?_ b);refine Ye (h₀:=X.base) I.ok.mod.kin M.kp (bb (n pos G s Z H _ I h) λus o ⟨vs,H1,c,r,q⟩=>⟨c.kIn,?_⟩) l a;exact Cg M F g m hd d c r q
end
def PK(X:Cx)(a:List Keyword)(t:TA):Prop:=
 ∀(pos:Pos) (G:L9) (s:Shared) (Z:St) (H:Hp) (Q:List V->Hp->Prop),Inv X G Z H s->t Z H Q->wpAny (model X.prog X.w) X.A (evalAll ((backToKw pos (keywordEach a X.env)).map (·.2))) (AP X G Z Q) X.xe s
section
variable{X:Cx}{CX:BE}{k:Nat}{f C:Addr}{fd:FuncData}{ps ks:List Str}{sp:Sp}{E:XK}{x m:Str}{p pos apos kpos:Pos}{e o:Expr}{es:List Expr}{kws:List Keyword}{te ta:TE}{t tk:TA}{nm:Option Str}
theorem MK:PK X [] bO:=λ_ _ _ _ H Q I h=>wpAny_evalAll_nil ⟨[],H,I,.nil,h⟩
theorem HN(i:PE X e te)(g:PK X kws t):PK X (⟨nm,e,kpos⟩::kws) (aM te t):=by
 intro pos G s Z H Q I h;show wpAny _ _ (evalAll ((do let v <-eval e X.env;standAt pos;pure v)::(backToKw pos (keywordEach kws X.env)).map (·.2))) _ _ s;refine wpAny_evalAll_cons (VM (bb (i G s Z H _ I h) λu a ⟨x,H1,k,c,f⟩=>VM (wpAny_standAt (VX ?_))));exact bb (g pos G a Z H1 _ k f) λus m ⟨xs,l,j,b,d⟩=>⟨x::xs,l,j,.cons c b,d⟩
variable{g:List Value->List Value->List Value}{gV:List V->List V->List V}
end
structure FnScope (N P:List Str) (sc:Scope):Prop where
 kind:sc.kind=.function
 co:sc.isCoroutine=false
 gen:sc.isGenerator=false
 nd:N.Nodup
 pre:N.take P.length=P
 par:∀x∈P,sc.names.lookup x=some .local\/sc.names.lookup x=some .cell
 nofree:∀y∈sc.names,y.2≠ .free
theorem qK{kindOf:Str->Option NameKind}{x:Str}:∀{binds:List (Str×Value)} {m:Str->Option Value},(∀v,(x,v)∉binds)->bindL kindOf binds m x=m x
 |[],_,_=>rfl
 | (n,v)::r,m,h=>by
   unfold bindL;rw[qK λw a=>h w (List.mem_cons_of_mem _ a)];split
   · have:x≠n:=by rintro rfl;exact h v VP
     simp[this]
   ·rfl
theorem qM{kindOf:Str->Option NameKind}{x:Str}:∀{binds:List (Str×Value)} {m:Str->Option Value},(∀v,(x,v)∉binds)->bindC kindOf binds m x=m x
 |[],_,_=>rfl
 | (n,v)::r,m,h=>by
   unfold bindC;rw[qM λw a=>h w (List.mem_cons_of_mem _ a)];split
   ·rfl
   · have:x≠n:=by rintro rfl;exact h v VP
     simp[this]
theorem qL{kindOf:Str->Option NameKind}{x:Str}{v:Value}:∀{P:List Str} {vs:List Value} {i:Nat} {m:Str->Option Value},P.Nodup->P[i]?=some x->vs[i]?=some v->kindOf x=some .local->
 bindL kindOf (P.zip vs) m x=some v
 |[],_,_,_,_,h,_,_=>by simp at h
 |_::_,[],_,_,_,_,h,_=>by simp at h
 | p::P,w::vs,0,m,nd,b,a,c=>by
   simp at b a;subst b;subst a;show bindL kindOf ((p,w)::P.zip vs) m p=_;unfold bindL;rw[qK λv d=>(List.nodup_cons.mp nd).1 (List.of_mem_zip d).1,if_pos c];simp
 | p::P,w::vs,i+1,m,nd,b,a,c=>by
   show bindL kindOf ((p,w)::P.zip vs) m x=_;unfold bindL;exact qL (i:=i) (List.nodup_cons.mp nd).2 (by simpa using b) (by simpa using a) c
theorem qN{kindOf:Str->Option NameKind}{x:Str}{v:Value}:∀{P:List Str} {vs:List Value} {i:Nat} {m:Str->Option Value},P.Nodup->P[i]?=some x->vs[i]?=some v->kindOf x≠some .local->
 bindC kindOf (P.zip vs) m x=some v
 |[],_,_,_,_,h,_,_=>by simp at h
 |_::_,[],_,_,_,_,h,_=>by simp at h
 | p::P,w::vs,0,m,nd,b,a,c=>by
   simp at b a;subst b;subst a;show bindC kindOf ((p,w)::P.zip vs) m p=_;unfold bindC;rw[qM λv d=>(List.nodup_cons.mp nd).1 (List.of_mem_zip d).1,if_neg c];simp
 | p::P,w::vs,i+1,m,nd,b,a,c=>by
   show bindC kindOf ((p,w)::P.zip vs) m x=_;unfold bindC;exact qN (i:=i) (List.nodup_cons.mp nd).2 (by simpa using b) (by simpa using a) c
def gY(N:List Str)(vs:List V):St:=vs.map some++List.replicate (N.length-vs.length) none
def uG(CX:BE)(P:Program)(w:World)(K:F0)(mg:Str->Option Value)(base:Heap)(N:List Str)(qual:Str)(scope:Scope)(f:Addr)(b:Value)(A:Around)(outer:List Env)(s:Shared)(H:Hp)(E:XK):Cx where
 prog:=P
 w:=w
 K:=K
 mg:=mg
 base:=base
 A:=A.deeper (envOfC qual scope s.heap.objs.size f b)
 N:=N
 s₀:=s
 H₀:=H
 env:=envOfC qual scope s.heap.objs.size f b
 outer:=outer
 stack:=envOfC qual scope s.heap.objs.size f b::outer
 ex:=[]
 calm:=true
 fn:=λ_=>true
 pn:=[]
 xe:=λe c=>wpAny (model P w) (A.deeper (envOfC qual scope s.heap.objs.size f b)) («leaving» (envOfC qual scope s.heap.objs.size f b) e) (λ_ a=>CX outer H s E e a) (λd a=>CX outer H s E d a) c
theorem vv{sc:Scope}{n:Nat}{x:Str}(h:sc.names.lookup x=some .cell):∃c,(cellsFrom n sc.names []).lookup x=some c:=by
 have q:=YD sc.names n [] (.inl h);exact Xm.mp q
theorem A9{CX:BE}{P:Program}{w:World}{K:F0}{mg:Str->Option Value}{base:Heap}{N ps:List Str}{qual:Str}{scope:Scope}{f:Addr}{o:Value}{A:Around}{outer:List Env}{s t:Shared}{H:Hp}{E:XK}{us:List Value}{vs:List V}
 (S:FnScope N ps scope) (hd:A.handled=none) (e0:Env0 P w K mg base A outer s H) (J:vs.length=ps.length) (r:Vals vs us)
 (x:InCallC s s.heap.objs.size (bindL (envOfC qual scope s.heap.objs.size f o).kindOf (ps.zip us) λ_=>none) (cellsFrom (s.heap.objs.size+1) scope.names []) (bindC (envOfC qual scope s.heap.objs.size f o).kindOf (ps.zip us) λ_=>none) t):
 Inv (uG CX P w K mg base N qual scope f o A outer s H E) [] (gY N vs) H t:=by
 have F:ps.length<=N.length:=by have:=congrArg List.length S.pre;rw[Yw]at this;omega
 obtain⟨m,I,rfl,C⟩:=x.done;have g:∀b:Addr,b∉(uG CX P w K mg base N qual scope f o A outer s H E).ex:=λb z=>absurd (show b∈([]:List Addr) from z) (by simp)
 refine⟨⟨e0.mod,S.kind,rfl,rfl,V2 _,λy z c m d=>?_,λy j=>?_,λy c _ h=>?_,λ_=>hd,Around.frames_deeper e0.frames,.inr ⟨rfl,rfl⟩,λb z=>absurd z (g b),e0.bs,e0.bsz,λb _ _=>g b,λb z=>absurd z (g b),e0.funs,e0.frf⟩,
  rfl,e0.bare,Un.kept C,⟨_,x.toInCall.ns,λi y v m d L=>?_⟩,λy c h=>⟨_,x.cell y c h⟩,e0.hok.fresh (V2 _),λy c h=>?_,λp hp=>absurd (show p∈([]:L9) from hp) (by simp),e0.hok.kept C,?_⟩
 ·exact name_of_addr x.apart (W6 m) (W6 d)
 · have j:scope.names.lookup y=some .cell\/scope.names.lookup y=some .free:=j;rcases j with j|j
   ·exact vv j
   ·exact absurd rfl (S.nofree _ (W6 j))
 ·exact WY (x.above y c (W6 h))
 · have hi:i<vs.length:=by
    unfold gY at d;by_cases hi:i<vs.length
    ·exact hi
    ·rw[Ww (by simpa using hi)]at d;rw[Xq]at d;split at d<;>cases d
   have G:vs[i]?=some v:=by
    unfold gY at d;rw[List.getElem?_append_left (by simpa using hi),List.getElem?_map]at d;cases e:vs[i]? with
    |none=>rw[e]at d;cases d
    |some a=>rw[e]at d;cases d;rfl
   obtain⟨u,B,D⟩:=r.get G
   have hp:ps[i]?=some y:=by
    rw[<-S.pre,List.getElem?_take_of_lt (by omega)];exact m
   have l:ps.Nodup:=by rw[<-S.pre];exact S.nd.sublist (List.take_sublist _ _)
   refine⟨u,D,?_⟩;rcases S.par y (Wz hp) with k|k
   ·exact .inl ⟨k,qL l hp B k⟩
   ·obtain⟨c,e⟩:=vv (n:=s.heap.objs.size+1) k;refine .inr ⟨.inl k,c,e,?_⟩;have q:=x.cell y c e;rw[qN l hp B (by show scope.names.lookup y≠_;rw[k];decide)]at q;exact q
 ·exact e0.hok.fresh (WY (x.above y c (W6 h)))
 ·unfold gY;show _=N.length;rw[List.length_append,List.length_map,List.length_replicate];omega
theorem fn_of{CX:BE}{P:Program}{w:World}{K:F0}{mg:Str->Option Value}{base:Heap}{k:Nat}{f:Addr}{name qual:Str}{c:Arguments}{d:List Stmt}{scope:Scope}{M kV p pm a ct oc:Value}{an R:Option Addr}
 {C:Array (Option Value)} {N ps:List Str} {sp:Sp} (lk:K.lookup f=some ⟨oc,R,.func (PySem.W.fnOf name qual c d scope M kV p pm an a ct),C⟩) (G:PySem.W.codeIn K a qual=true) (S:FnScope N ps scope)
 (len:∀vs H Q E,sp vs H Q E->vs.length=ps.length)
 (i:∀(A:Around) (outer:List Env) (s:Shared) (H:Hp) (vs:List V) (Q:VK) (E:XK),Room k (A.deeper (envOfC qual scope s.heap.objs.size f a))->sp vs H Q E->
   ∃t,PSs (uG CX P w K mg base N qual scope f a A outer s H E) d t/\t {nx:=λ_ H'=>Q .non H',rt:=Q} (gY N vs) H):
 FnOk P w K mg base CX (k+1) f (PySem.W.fnOf name qual c d scope M kV p pm an a ct) ps sp:=by
 refine⟨len,λA outer s H args us vs Q E F e0 hb r l=>?_⟩;have Y:=len _ _ _ _ l;have O:K.In s.heap:=e0.mod.kin.keeps λb o e=>(e0.bs b o e).1;have D:s.heap.NoLimit:=e0.mod.nolimit.keeps λb o e=>(e0.bs b o e).1
 have h:∀y∈ps.zip us,scope.names.lookup y.1=some .local\/(scope.names.lookup y.1=some .cell/\((cellsFrom (s.heap.objs.size+1) scope.names []).lookup y.1).isSome=true):=λ⟨n,v⟩ T=>by
  rcases S.par n (List.of_mem_zip T).1 with q|q
  ·exact .inl q
  ·exact .inr ⟨q,YD _ _ _ (.inl q)⟩
 refine codeAny_call_function F.depth (O _ _ lk) rfl S.co S.gen rfl (PySem.W.codeRec_of O G) (hb _ _ _ _ ?_);refine wpAny_newFunctionEnv_cells S.kind h λenv Z L x=>?_;subst Z;refine⟨D.keeps x.toInCall.keep,codeAny_func ?_⟩;obtain⟨t,U,X⟩:=i A outer s H vs Q E (F.deeper _) l;have I:Inv (uG CX P w K mg base N qual scope f a A outer s H E) [] (gY N vs) H L:=A9 S F.hd e0 Y r x;refine XZ (U [] L (gY N vs) H _ I X) (λfl z j=>?_) λe z j=>j
 have m:∀{g:St} {H':Hp} {v:V} {u:Value},Inv (uG CX P w K mg base N qual scope f a A outer s H E) [] g H' z->RelV v u->Q v H'->CE outer P w H s Q u z:=
  λ{g H' v u} J B q=>⟨v,H',J.os,J.bare,J.base,J.hok,B,q⟩
 cases fl with
 |ret u=>
   obtain⟨v,g,H',J,B,q⟩:=j;exact m J B q
 |next=>
   obtain⟨g,H',J,q⟩:=j;exact m (v:=V.non) (u:=Value.none) J rfl q
 |brk=>
   obtain⟨_,_,_,q⟩:=j;exact False.elim q
 |cont=>
   obtain⟨_,_,_,q⟩:=j;exact False.elim q
section
variable{X:Cx}{x:Str}{p pos:Pos}{e:Expr}{es:List Expr}{t:TA}{id T:String}{r:List V->Hp->VK->Prop}
def tF(r:List V->Hp->VK->Prop)(t:TA):TE:=λZ H Q=>t Z H λvs H1=>r vs H1 Q
theorem Df(m:cz X (.builtin id) r)(k:Gl X x)(j:X.mg x=none)(g:bootBuiltins x=some (.builtin id))(n:PA X (e::es) t)(i:x ≠ "__name__" := by decide)(b:(x==("__debug__" : Str))=false:=by decide)
 (l:starEach (e::es) X.env=(false,eval e X.env)::starEach es X.env:=by rfl) (a:(backTo pos (starEach es X.env)).any (·.1)=false:=by rfl):PE X (.Call (.Name x p) (e::es) [] pos) (tF r t):=by
 intro G s Z H Q I h;refine Xc (jo I k j g ?_ i b);exact PyProof.Rows.callWith_builtin1 (bb (n pos G s Z H _ I h) λus c ⟨vs,H1,o,d,f⟩=>m G c Z H1 vs us Q o d f) l a
theorem AC(m:cz X (.type T) r)(k:Gl X x)(j:X.mg x=none)(g:bootBuiltins x=some (.type T))(n:PA X (e::es) t)(i:x ≠ "__name__" := by decide)(b:(x==("__debug__" : Str))=false:=by decide)
 (l:starEach (e::es) X.env=(false,eval e X.env)::starEach es X.env:=by rfl) (a:(backTo pos (starEach es X.env)).any (·.1)=false:=by rfl):PE X (.Call (.Name x p) (e::es) [] pos) (tF r t):=by
 intro G s Z H Q I h;refine Xc (jo I k j g ?_ i b);exact W9 (bb (n pos G s Z H _ I h) λus c ⟨vs,H1,o,d,f⟩=>m G c Z H1 vs us Q o d f) l a
end
section
variable{W:Type}[DecidableEq W]
def cA(kvs:List (W×V))(k:W):Option V:=(kvs.find? λa=>decide (a.1=k)).map (·.2)
def eB(kvs:List (W×V))(k:W)(v:V):List (W×V):=
 if (kvs.any λa=>decide (a.1=k))=true then kvs.map (λa=>if a.1=k then (a.1,v) else a) else kvs++[(k,v)]
def dU(kvs:List (W×V))(k:W):List (W×V):=kvs.filter λa=>decide (a.1≠k)
theorem BL{k:W}:cA ([]:List (W×V)) k=none:=rfl
theorem jJ{p:W×V}{r:List (W×V)}{k:W}(e:p.1=k):cA (p::r) k=some p.2:=by simp[cA,WT,e]
theorem jK{p:W×V}{r:List (W×V)}{k:W}(e:¬ p.1=k):cA (p::r) k=cA r k:=by simp[cA,WT,e]
theorem tu(k:W):∀kvs:List (W×V),(kvs.any λa=>decide (a.1=k))=(cA kvs k).isSome
 |[]=>rfl
 | p::r=>by
   rw[XC];by_cases e:p.1=k
   ·simp only[jJ e,Wv e,Bool.true_or,Yg]
   ·rw[jK e,Wi e,Bool.false_or];exact tu k r
theorem lU(kvs:List (W×V))(k:W)(v:V):(eB kvs k v).length<=kvs.length+1:=by
 unfold eB;split
 ·rw[VO];omega
 ·rw[VQ,VV,List.length_nil];omega
theorem RelO.isSome_eq{o:Option V}{u:Option Value}(r:RelO o u):o.isSome=u.isSome:=by
 cases o with
 | none=>cases u with
   |none=>rfl
   |some _=>exact(show False from r).elim
 | some _=>cases u with
   |none=>exact(show False from r).elim
   |some _=>rfl
theorem RelO.getD{o:Option V}{u:Option Value}{d:V}{d':Value}(r:RelO o u)(rd:RelV d d'):RelV (o.getD d) (u.getD d'):=by
 cases o with
 | none=>cases u with
   |none=>exact rd
   |some _=>exact(show False from r).elim
 | some _=>cases u with
   |none=>exact(show False from r).elim
   |some _=>exact r
theorem KV.val{kvs:List (W×V)}{vs:List (W×Value)}(r:KV kvs vs)(k:W):RelO (cA kvs k) (valueAt vs k):=by
 unfold KV at r
 induction r with
 |nil=>exact True.intro
 |@cons p q ps a h t f=>
   obtain⟨d,g⟩:=h;by_cases e:p.1=k
   · have c:q.1=k:=d.symm.trans e;have b:valueAt (q::a) k=some q.2:=by simp[valueAt,WT,c]
     rw[jJ e,b];exact g
   · have c:¬ q.1=k:=λz=>e (d.trans z);have b:valueAt (q::a) k=valueAt a k:=by simp[valueAt,WT,c]
     rw[jK e,b];exact f
theorem KV.any{kvs:List (W×V)}{vs:List (W×Value)}(r:KV kvs vs)(k:W):(kvs.any λa=>decide (a.1=k))=vs.any λa=>decide (a.1=k):=by
 unfold KV at r
 induction r with
 |nil=>rfl
 |cons h t b=>rw[XC,XC,b,h.1]
theorem KV.repl{kvs:List (W×V)}{vs:List (W×Value)}(r:KV kvs vs)(k:W){y:V}{u:Value}(c:RelV y u):
 KV (kvs.map λa=>if a.1=k then (a.1,y) else a) (vs.map λa=>if a.1=k then (a.1,u) else a):=by
 unfold KV at r ⊢
 induction r with
 |nil=>exact .nil
 |@cons p q ps g h t d=>
   rw[VN,VN];refine .cons ?_ d;obtain⟨b,f⟩:=h;by_cases e:p.1=k
   ·rw[VL e,VL (b.symm.trans e)];exact⟨b,c⟩
   ·rw[on e,on (λz=>e (b.trans z))];exact⟨b,f⟩
theorem KV.put{kvs:List (W×V)}{vs:List (W×Value)}(r:KV kvs vs)(k:W){y:V}{u:Value}(a:RelV y u):KV (eB kvs k y) (stored vs k u):=by
 unfold eB stored;rw[r.any k];by_cases e:(vs.any λb=>decide (b.1=k))=true
 ·rw[VL e,VL e];exact r.repl k a
 ·rw[on e,on e];exact Paired.snoc r ⟨rfl,a⟩
theorem KV.drop{kvs:List (W×V)}{vs:List (W×Value)}(r:KV kvs vs)(k:W):KV (dU kvs k) (without vs k):=by
 unfold KV at r ⊢;unfold dU without
 induction r with
 |nil=>exact .nil
 |@cons p q ps i h t d=>
   obtain⟨c,f⟩:=h;rw[WQ,WQ];by_cases e:p.1=k
   · have a:¬ decide (p.1≠k)=true:=by simp[e]
     have b:¬ decide (q.1≠k)=true:=by simp[c.symm.trans e]
     rw[on a,on b];exact d
   · have g:¬ q.1=k:=λz=>e (c.trans z);have a:decide (p.1≠k)=true:=by simp[e]
     have b:decide (q.1≠k)=true:=by simp[g]
     rw[VL a,VL b];exact .cons ⟨c,f⟩ d
theorem KV.length{kvs:List (W×V)}{vs:List (W×Value)}(r:KV kvs vs):kvs.length=vs.length:=WX r
theorem nY(kvs:List (W×V))(k:W):(dU kvs k).length<=kvs.length:=YT _ _
end
theorem jY{P:Program}{w:World}{k:ay}{u:Value}(r:RelV (kV k) u):(aq P w).is k u=true:=by
 cases k with
 |inl i=>obtain⟨t,e⟩:=(show ∃t,u=Value.int i t from r);subst e;exact t7 P w i t
 |inr x=>obtain⟨t,e⟩:=(show ∃t,u=Value.str x t from r);subst e;exact t6 P w x t
theorem qu{P:Program}{w:World}:∀{a:List ay} {us:List Value},Vals (a.map kV) us->ItemsAre (aq P w) a us
 |[],_,r=>by rw[WO]at r;cases r;exact .nil
 | k::a,_,r=>by
   rw[VN]at r;cases r with
   |cons h t=>exact .cons (jY h) (qu t)
abbrev KT(H:Hp):List (List ay×V)->List (List ay×Addr×Value)->Prop:=Paired λp q=>p.1=q.1/\H q.2.1=some (.tup (p.1.map kV))/\RelV p.2 q.2.2
theorem KT.val{H:Hp}{kvs:List (List ay×V)}{xs:List (List ay×Addr×Value)}(r:KT H kvs xs)(k:List ay):RelO (cA kvs k) ((atKey xs k).map (·.2)):=by
 induction r with
 |nil=>exact True.intro
 |@cons p q ps a h t f=>
   obtain⟨d,_,g⟩:=h;by_cases e:p.1=k
   · have c:q.1=k:=d.symm.trans e;have b:atKey (q::a) k=some q.2:=by simp[atKey,WT,c]
     rw[jJ e,b];exact g
   · have c:¬ q.1=k:=λz=>e (d.trans z);have b:atKey (q::a) k=atKey a k:=by simp[atKey,WT,c]
     rw[jK e,b];exact f
theorem KT.repl{H:Hp}{kvs:List (List ay×V)}{xs:List (List ay×Addr×Value)}(r:KT H kvs xs)(k:List ay){y:V}{u:Value}(d:RelV y u):
 KT H (kvs.map λb=>if b.1=k then (b.1,y) else b) (xs.map (putAt k u)):=by
 induction r with
 |nil=>exact .nil
 |@cons p q ps i h t f=>
   rw[List.map_cons,List.map_cons];refine .cons ?_ f;obtain⟨a,c,g⟩:=h;unfold putAt;by_cases e:p.1=k
   ·rw[VL e,VL (a.symm.trans e)];exact⟨a,c,d⟩
   ·rw[on e,on (λz=>e (a.trans z))];exact⟨a,c,g⟩
theorem KT.put{H:Hp}{kvs:List (List ay×V)}{xs:List (List ay×Addr×Value)}(r:KT H kvs xs)(k:List ay){b:Addr}{y:V}{u:Value}(d:H b=some (.tup (k.map kV)))(a:RelV y u):
 KT H (eB kvs k y) (storedH xs k b u):=by
 have e:(kvs.any λc=>decide (c.1=k))=(atKey xs k).isSome:=by
  rw[tu,(r.val k).isSome_eq,Yn]
 unfold eB storedH;rw[e];by_cases q:(atKey xs k).isSome=true
 ·rw[VL q,VL q];exact r.repl k a
 ·rw[on q,on q];exact Paired.snoc r ⟨rfl,d,a⟩
theorem KT.keeps{H H':Hp}{kvs:List (List ay×V)}{xs:List (List ay×Addr×Value)}(r:KT H kvs xs)(c:∀b a,H b=some (.tup a)->H' b=some (.tup a)):KT H' kvs xs:=
 Paired.mapP r λ_ _ z=>⟨z.1,c _ _ z.2.1,z.2.2⟩
section
variable{P:Program}{w:World}{H:Hp}{h:Heap}{a:Addr}
theorem J1{u:HO}(ok:HOk P w H h)(e:Rd H a u):ObjOk P w H h a u:=e.ok ok
theorem ki{kvs:List (ay×V)}(ok:HOk P w H h)(e:Rd H a (.dK kvs)):kvs.length<=sizeLine/\(a==sysModules)=false/\∃vs,KV kvs vs/\h.DictOf (aq P w) a vs:=
 show ObjOk P w H h a (.dK kvs) from J1 ok e
theorem Fx{kvs:List (ay×V)}(ok:HOk P w H h)(e:H a=some (.dK kvs)):kvs.length<=sizeLine/\(a==sysModules)=false/\∃vs,KV kvs vs/\h.DictOf (aq P w) a vs:=ki ok (.inl e)
theorem eV{b:List ay}(ok:HOk P w H h)(e:H a=some (.tup (b.map kV))):(tupleKind (aq P w)).is h b a:=by
 obtain⟨_,its,r,o,f,d,n,c⟩:=(show ObjOk P w H h a (.tup (b.map kV)) from ok a _ e);exact⟨o,its.toArray,n,f,d,c,by simpa using qu r⟩
theorem l3{kvs:List (List ay×V)}(ok:HOk P w H h)(e:Rd H a (.dT kvs)):kvs.length<=sizeLine/\(a==sysModules)=false/\
 ∃xs,KT H kvs xs/\h.DictOfH (tupleKind (aq P w)) a xs:=by
 obtain⟨z,y,xs,r,o,n,ep,k,j,i,g,f⟩:=(show ObjOk P w H h a (.dT kvs) from J1 ok e);refine⟨z,y,xs,r,o,n,ep,k,j,i,g,λx b=>?_,f⟩
 have all:∀{l:List (List ay×V)} {m:List (List ay×Addr×Value)},KT H l m->∀x∈m,(tupleKind (aq P w)).is h x.1 x.2.1:=by
  intro l m q
  induction q with
  |nil=>intro x b;exact nomatch b
  |@cons p q ps s c t d=>
    intro x b;rcases VY.mp b with e|b
    ·subst e;exact eV ok (by rw[<-c.1];exact c.2.1)
    ·exact d x b
 exact all r x b
theorem Fs{kvs:List (List ay×V)}(ok:HOk P w H h)(e:H a=some (.dT kvs)):kvs.length<=sizeLine/\(a==sysModules)=false/\
 ∃xs,KT H kvs xs/\h.DictOfH (tupleKind (aq P w)) a xs:=l3 ok (.inl e)
end
def DGet(H:Hp)(a:Addr)(y:V)(r:Option V):Prop:=
 (∃kvs k,Rd H a (.dK kvs)/\y=kV k/\r=cA kvs k)\/∃kvs k b,Rd H a (.dT kvs)/\y=.ref b/\H b=some (.tup (k.map kV))/\r=cA kvs k
def DPut(H:Hp)(a:Addr)(y v:V)(H':Hp):Prop:=
 (∃kvs k,H a=some (.dK kvs)/\y=kV k/\kvs.length<sizeLine/\H'=upd H a (.dK (eB kvs k v)))\/
 ∃kvs k b,H a=some (.dT kvs)/\y=.ref b/\H b=some (.tup (k.map kV))/\kvs.length<sizeLine/\H'=upd H a (.dT (eB kvs k v))
theorem DGet.k{H:Hp}{a:Addr}{kvs:List (ay×V)}{k:ay}(e:H a=some (.dK kvs)):DGet H a (kV k) (cA kvs k):=.inl ⟨kvs,k,.inl e,rfl,rfl⟩
theorem DPut.k{H:Hp}{a:Addr}{kvs:List (ay×V)}{k:ay}{v:V}(e:H a=some (.dK kvs))(b:kvs.length<sizeLine):DPut H a (kV k) v (upd H a (.dK (eB kvs k v))):=.inl ⟨kvs,k,e,rfl,b,rfl⟩
theorem DPut.t{H:Hp}{a b:Addr}{kvs:List (List ay×V)}{k:List ay}{v:V}(e:H a=some (.dT kvs))(d:H b=some (.tup (k.map kV)))(c:kvs.length<sizeLine):
 DPut H a (.ref b) v (upd H a (.dT (eB kvs k v))):=.inr ⟨kvs,k,b,e,rfl,d,c,rfl⟩
section
variable{X:Cx}{G:L9}{Z:St}{H:Hp}{s:Shared}{a:Addr}{y v:V}{u r:Value}{o:Option V}{A:Around}{E:LV}
theorem Inv.big(I:Inv X G Z H s):sysModules<s.heap.objs.size:=by
 have h:mainGlobals<s.heap.objs.size:=(I.mod.glob.keeps I.bk).lt;exact Nat.lt_trans (by decide) h
theorem Bi{Q:LV}(r:A.units+1<cLine)(I:Inv X G Z H s)(g:DGet H a y (some v))(q:RelV y u)(h:∀f n,Inv X G Z H n->RelV v f->Q f n):
 wpAny (model X.prog X.w) A (getItem (.ref a) u) Q E s:=by
 rcases g with ⟨kvs,k,e,m,l⟩|⟨kvs,k,b,e,m,t,l⟩
 ·subst m;obtain⟨z,hd,vs,d,dd⟩:=ki I.hok e;obtain⟨f,i,c⟩:=RelO.some_of (v:=v) (o:=valueAt vs k) (by rw[l];exact d.val k);exact wpAny_getItem_of (jY q) dd.mapOf i (h f _ (I.tok _) c)
 ·subst m;cases(show u=Value.ref b from q);obtain⟨z,hd,xs,d,dd⟩:=l3 I.hok e;obtain⟨f,i,c⟩:=RelO.some_of (v:=v) (o:=(atKey xs k).map (·.2)) (by rw[l];exact d.val k);obtain⟨p,hp,j⟩:=V7.mp i;refine wpAny_getItem_heap (Xd r) (eV I.hok t) dd hp ?_;rw[j];exact h f _ (I.tok _) c
theorem Vz{Q:LV}(j:A.units+1<cLine)(I:Inv X G Z H s)(g:DGet H a y o)(i:RelV y u)(h:∀f,Inv X G Z H f->Q (.bool o.isSome) f):
 wpAny (model X.prog X.w) A (compareOp .In u (.ref a)) Q E s:=by
 rcases g with ⟨kvs,k,e,d,l⟩|⟨kvs,k,b,e,d,m,l⟩
 ·subst d;obtain⟨z,hd,vs,c,dd⟩:=ki I.hok e;refine wpAny_in_of (jY i) hd dd.mapOf ?_;rw[<-(c.val k).isSome_eq,<-l];exact h _ (I.tok _)
 ·subst d;cases(show u=Value.ref b from i);obtain⟨z,hd,xs,c,dd⟩:=l3 I.hok e;refine wpAny_in_heap (Xd j) (eV I.hok m) hd dd ?_;have q:=(c.val k).isSome_eq;rw[Yn]at q;rw[<-q,<-l];exact h _ (I.tok _)
theorem Jm{Q:LV}(j:A.units+1<cLine)(I:Inv X G Z H s)(g:DGet H a y o)(i:RelV y u)(h:∀f,Inv X G Z H f->Q (.bool (!o.isSome)) f):
 wpAny (model X.prog X.w) A (compareOp .NotIn u (.ref a)) Q E s:=by
 rcases g with ⟨kvs,k,e,d,l⟩|⟨kvs,k,b,e,d,m,l⟩
 ·subst d;obtain⟨z,hd,vs,c,dd⟩:=ki I.hok e;refine wpAny_notIn_of (jY i) hd dd.mapOf ?_;rw[<-(c.val k).isSome_eq,<-l];exact h _ (I.tok _)
 ·subst d;cases(show u=Value.ref b from i);obtain⟨z,hd,xs,c,dd⟩:=l3 I.hok e;refine wpAny_notIn_heap (Xd j) (eV I.hok m) hd dd ?_;have q:=(c.val k).isSome_eq;rw[Yn]at q;rw[<-q,<-l];exact h _ (I.tok _)
theorem kl{h':Heap}{t':Nat}{ob:HO}(I:Inv X G Z H s)(c:Uu (H a))(d:Heap.SameBut a s.heap h')(f:∃q,h'.get? a=some q)(new:ObjOk X.prog X.w (upd H a ob) h' a ob):
 Inv X G Z (upd H a ob) {s with heap:=h',toks:=t'}:=
 I.write (x:=a) (e:=a) c (.inl rfl) (λb q g z=>(d.2 b g).trans z) f new
theorem Fy{P:Program}{w:World}{H':Hp}{h':Heap}{kvs:List (ay×V)}{vs:List (ay×Value)}(z:kvs.length<=sizeLine)(hd:(a==sysModules)=false)(b:KV kvs vs)(dd:h'.DictOf (aq P w) a vs):
 ObjOk P w H' h' a (.dK kvs):=⟨z,hd,vs,b,dd⟩
theorem Bh{H':Hp}{Q:Unit->Shared->Prop}(D:A.units+1<cLine)(I:Inv X G Z H s)(g:DPut H a y v H')(t:RelV y u)(x:RelV v r)(h:∀p,Inv X G Z H' p->Q () p):
 wpAny (model X.prog X.w) A (setItem (.ref a) u r) Q E s:=by
 rcases g with ⟨kvs,k,e,n,l,o⟩|⟨kvs,k,b,e,n,C,l,o⟩
 · subst n o;obtain⟨z,hd,vs,d,dd⟩:=Fx I.hok e;have hz:vs.length<=sizeLine:=by rw[<-d.length];exact z
   have m:(eB kvs k v).length<=sizeLine:=by have:=lU kvs k v;omega
   refine wpAny_setItem_pairs (hsz:=hz) (jY t) dd λh' f j=>h _ ?_;have F:∃q,h'.get? a=some q:=let ⟨q,_,_,i,_⟩:=f;⟨q,i⟩
   exact kl I (by rw[e];exact True.intro) j F (Fy m hd (d.put k x) f)
 · subst n o;cases(show u=Value.ref b from t);obtain⟨z,hd,xs,d,dd⟩:=Fs I.hok e;have hz:xs.length<=sizeLine:=by rw[<-WX d];exact z
   have m:(eB kvs k v).length<=sizeLine:=by have:=lU kvs k v;omega
   refine wpAny_setItem_heap (hsz:=hz) (Xd D) (eV I.hok C) dd λh' f j=>h _ ?_;obtain⟨q,N,ep,i,M,L,K,_,J⟩:=f;refine kl I (by rw[e];exact True.intro) j ⟨q,i⟩ ⟨m,hd,_,(d.put k C x).keeps λc O B=>?_,q,N,ep,i,M,L,K,J⟩;rw[ao (DH B e (λz=>nomatch z))];exact B
end
section
variable{X:Cx}{G:L9}{Z:St}{H:Hp}{s:Shared}{a:Addr}{kvs:List (ay×V)}{k:ay}{u:Value}{A:Around}{E:LV}
theorem To{v:V}{more:List Value}{Q:LV}(I:Inv X G Z H s)(e:H a=some (.dK kvs))(f:RelV (kV k) u)(l:cA kvs k=some v)(m:more=[]\/∃x,more=[x])
 (h:∀c j,Inv X G Z (upd H a (.dK (dU kvs k))) j->RelV v c->Q c j):wpAny (model X.prog X.w) A (call (.builtin "dict.pop") (.ref a::u::more)) Q E s:=by
 obtain⟨z,hd,vs,b,dd⟩:=Fx I.hok e;obtain⟨c,n,g⟩:=RelO.some_of (v:=v) (o:=valueAt vs k) (by rw[<-l];exact b.val k)
 have hp:(keyPart u).isSome=true:=by
  cases k with
  |inl i=>obtain⟨t,q⟩:=(show ∃t,u=Value.int i t from f);subst q;rfl
  |inr x=>obtain⟨t,q⟩:=(show ∃t,u=Value.str x t from f);subst q;rfl
 have B:argsOk "dict.pop" ⟨.ref a::u::more,[]⟩:=by
  rcases m with q|⟨x,q⟩
  ·subst q;exact PySem.F.args_dict_pop_2 _ _
  ·subst q;exact Yx _ _ _
 refine XI Xf dd.typeIs YE B (meets_dict_pop_there (aq X.prog X.w) a (jY f) more m hp)
  ⟨vs,c,dd,by rw[<-b.length];exact z,n,λh' d p=>h c _ ?_ g⟩
 have y:∃q,h'.get? a=some q:=let ⟨q,_,_,r,_⟩:=d;⟨q,r⟩
 exact kl I (by rw[e];exact True.intro) p y (Fy (Wl (nY kvs k) z) hd (b.drop k) d)
theorem Pa{r:Value}{Q:LV}(I:Inv X G Z H s)(e:H a=some (.dK kvs))(b:RelV (kV k) u)(l:cA kvs k=none)(h:∀d,Inv X G Z H d->Q r d):
 wpAny (model X.prog X.w) A (call (.builtin "dict.pop") [.ref a,u,r]) Q E s:=by
 obtain⟨z,hd,vs,c,dd⟩:=Fx I.hok e;have f:valueAt vs k=none:=RelO.none_of (by rw[<-l];exact c.val k)
 have hp:(keyPart u).isSome=true:=by
  cases k with
  |inl i=>obtain⟨t,q⟩:=(show ∃t,u=Value.int i t from b);subst q;rfl
  |inr x=>obtain⟨t,q⟩:=(show ∃t,u=Value.str x t from b);subst q;rfl
 exact XI Xf dd.typeIs YE (Yx _ _ _) (meets_dict_pop_default (aq X.prog X.w) a (jY b) hd hp r) ⟨vs,dd,f,h _ (I.tok _)⟩
end
def Ut(i:Expr):Prop:=∀ov a,subscripted i false ov a=operate [ov,a] (getItem ov a)
theorem GX{prog:Program}{w:World}{A:Around}{E:LV}{s:Shared}{env:Env}{b a:Expr}{pos:Pos}{T id:String}{Q:LV}
 (n:typeLookup (.type T) "__getitem__" = pure (some (.builtin id))) (m:Ut a)
 (h:wpAny (model prog w) A (eval b env) (λo f=>wpAny (model prog w) A (eval a env) (λi c=>c.TypeIs o T/\wpAny (model prog w) A (getItem o i) Q E c) E f) E s):
 wpAny (model prog w) A (eval (.Subscript b a pos) env) Q E s:=by
 refine Subscript_ (wpAny_mono h (λo f k=>wpAny_mono k (λi c d=>?_) λ_ _ x=>x) λ_ _ x=>x);obtain⟨l,d⟩:=d;unfold subscriptTail;refine wpAny_bind ?_;rw[getitemInPython_of_ne l.not_modules];refine wpAny_bind (wpAny_specialOf l n ?_)
 have g:wpAny (model prog w) A (subscripted a false o i) (λr e=>wpAny (model prog w) A (letTemporaryGo b o r >>= λ_=>pure r) Q E e) E c:=by
  rw[m o i];exact wpAny_operating (XZ d (λr e j=>VM (wpAny_letTemporaryGo (VX j))) λ_ _ x=>x)
 first
  |exact VX (VM g)
  |exact VM (VX (VM g))
  |exact VM g
theorem uB{X:Cx}{G:L9}{Z:St}{H:Hp}{s:Shared}{a:Addr}{y:V}{o:Option V}(I:Inv X G Z H s)(g:DGet H a y o):s.TypeIs (.ref a) "dict" := by
 rcases g with ⟨kvs,k,e,_,_⟩|⟨kvs,k,b,e,_,_,_⟩
 ·obtain⟨_,_,vs,_,dd⟩:=ki I.hok e;exact dd.typeIs
 ·obtain⟨_,_,xs,_,dd⟩:=l3 I.hok e;exact dd.typeIs
def BW(c ty:TE):TE:=λZ H Q=>c Z H λx H1=>ty Z H1 λy b=>∃a v,x=.ref a/\DGet b a y (some v)/\Q v b
def LS(ty c:TE):TE:=λZ H Q=>ty Z H λy H1=>c Z H1 λx b=>∃a o,x=.ref a/\DGet b a y o/\Q (.bl o.isSome) b
def qZ(ty c:TE):TE:=λZ H Q=>ty Z H λy H1=>c Z H1 λx b=>∃a o,x=.ref a/\DGet b a y o/\Q (.bl (!o.isSome)) b
def Cf(d ty c:TE):TS:=λD Z H=>c Z H λv H1=>d Z H1 λx f=>ty Z f λy e=>∃a b,x=.ref a/\DPut e a y v b/\D.nx Z b
section
variable{X:Cx}{o i e value:Expr}{pos pos' tpos:Pos}{td ty tv:TE}
theorem H0(l:X.A.units+1<cLine)(n:PE X o td)(hi:PE X i ty)(m:Ut i):PE X (.Subscript o i pos) (BW td ty):=by
 intro G s Z H Q I h;refine GX PySem.F.slot_dict_getitem.lookup m (bb (n G s Z H _ I h) λu d ⟨x,H1,q,f,k⟩=>bb (hi G d Z H1 _ q k) λB z ⟨y,r,c,e,a,v,ex,g,j⟩=>?_);subst ex;obtain rfl:u=Value.ref a:=f;exact⟨uB c g,Bi l c g e λt w p b=>⟨v,r,p,b,j⟩⟩
theorem M3(j:X.A.units+1<cLine)(hi:PE X i ty)(k:PE X o td):PC X .In i o (LS ty td):=by
 intro G s Z H Q I h;refine bb (hi G s Z H _ I h) λt b ⟨y,H1,n,c,f⟩=>bb (k G b Z H1 _ n f) λu r ⟨x,p,m,d,a,ov,ex,g,e⟩=>?_;subst ex;obtain rfl:u=Value.ref a:=d;exact Vz j m g c λq l=>⟨.bl ov.isSome,p,l,rfl,e⟩
theorem AE(j:X.A.units+1<cLine)(hi:PE X i ty)(k:PE X o td):PC X .NotIn i o (qZ ty td):=by
 intro G s Z H Q I h;refine bb (hi G s Z H _ I h) λt b ⟨y,H1,n,c,f⟩=>bb (k G b Z H1 _ n f) λu r ⟨x,p,m,d,a,ov,ex,g,e⟩=>?_;subst ex;obtain rfl:u=Value.ref a:=d;exact Jm j m g c λq l=>⟨.bl (!ov.isSome),p,l,rfl,e⟩
theorem HI(n:X.A.units+1<cLine)(q:PE X o td)(hi:PE X i ty)(m:PE X value tv)(p:swapsWith value (some (.Subscript o i pos')) pos.line X.env=pure false):
 PS X (.Assign [.Subscript o i pos'] value pos) (Cf td ty tv):=by
 intro G s Z H D I h;refine wpAny_Assign_Subscript (bb (m G s Z H _ I h) λr c ⟨v,H1,B,f,l⟩=>bb (q G c Z H1 _ B l) λu b ⟨x,E,z,e,k⟩=>bb (hi G b Z E _ z k) λK J ⟨y,L,w,d,a,C,ex,g,j⟩=>?_) p;subst ex;obtain rfl:u=Value.ref a:=e;exact Bh n w g d f λF t=>⟨Z,C,t,j⟩
end
theorem FA{P:Program}{w:World}{H:Hp}(h:Heap)(a:sysModules<h.objs.size):ObjOk P w H (h.push {cls:=.type "dict",data:=.dict #[]}) h.objs.size (.dK []):=
 ⟨WP _,Wt.mpr (Xp (Wk a)),[],.nil,Heap.DictOf.new h⟩
theorem Ft{P:Program}{w:World}{H:Hp}(h:Heap)(a:sysModules<h.objs.size):ObjOk P w H (h.push {cls:=.type "dict",data:=.dict #[]}) h.objs.size (.dT []):=
 ⟨WP _,Wt.mpr (Xp (Wk a)),[],.nil,_,#[],0,V8 _ rfl,⟨rfl,rfl,rfl⟩,rfl,rfl,WE⟩
def v4:TE:=λ_ H Q=>∀p,H p=none->Q (.ref p) (upd H p (.dK []))
def vZ:TE:=λ_ H Q=>∀p,H p=none->Q (.ref p) (upd H p (.dT []))
section
variable{X:Cx}{pos:Pos}
theorem Db:PE X (.Dict [] [] pos) v4:=λG s Z H Q I h=>
 wpAny_Dict_empty ⟨.ref s.heap.objs.size,_,I.laid (a:=s.heap.objs.size) (o:=.dK []) (t':=s.toks) (λ_ _ q=>VT _ q) (V2 _) (FA s.heap I.big),rfl,h _ (I.hok.fresh (V2 _))⟩
theorem Da:PE X (.Dict [] [] pos) vZ:=λG s Z H Q I h=>
 wpAny_Dict_empty ⟨.ref s.heap.objs.size,_,I.laid (a:=s.heap.objs.size) (o:=.dT []) (t':=s.toks) (λ_ _ q=>VT _ q) (V2 _) (Ft s.heap I.big),rfl,h _ (I.hok.fresh (V2 _))⟩
end
structure M1 (X:Cx) (o:Expr) (m:Str) (apos:Pos) (e:Expr) (cpos:Pos):Prop where
 base:attributeBase o m X.env (eval o X.env)=eval o X.env
 few:((backTo cpos (starEach [e] X.env)).all (λx=>!x.1)&&(backToKw cpos (keywordEach [] X.env)).all (λx=>x.1.isSome)
  && decide (([e]:List Expr).length+([]:List Keyword).length+(if ([]:List Keyword).isEmpty then 0 else 1)<30))=true
 line:(apos.endLine==cpos.line)=true
 trees:backTo cpos (starEach [e] X.env)=[(false,eval e X.env)]
structure M2 (X:Cx) (o:Expr) (m:Str) (apos:Pos) (e f:Expr) (cpos:Pos):Prop where
 base:attributeBase o m X.env (eval o X.env)=eval o X.env
 few:((backTo cpos (starEach [e,f] X.env)).all (λx=>!x.1)&&(backToKw cpos (keywordEach [] X.env)).all (λx=>x.1.isSome)
  && decide (([e,f]:List Expr).length+([]:List Keyword).length+(if ([]:List Keyword).isEmpty then 0 else 1)<30))=true
 line:(apos.endLine==cpos.line)=true
 trees:backTo cpos (starEach [e,f] X.env)=[(false,eval e X.env),(false,eval f X.env)]
def LD(H:Hp)(a:Addr):Prop:=(∃kvs,Rd H a (.dK kvs))\/∃kvs,Rd H a (.dT kvs)
theorem lq{X:Cx}{G:L9}{Z:St}{H:Hp}{s:Shared}{a:Addr}(I:Inv X G Z H s)(d:LD H a):
 s.TypeIs (.ref a) "dict" /\ (∀b,Value.ref a=.ref b->∃ob,s.heap.get? b=some ob/\ob.dict=none)/\(a==sysModules)=false:=by
 rcases d with ⟨kvs,e⟩|⟨kvs,e⟩
 ·obtain⟨_,hd,vs,_,dd⟩:=ki I.hok e;refine⟨dd.typeIs,λb q=>?_,hd⟩;cases q;obtain⟨ob,_,_,f,c,_⟩:=dd;exact⟨ob,f,c.2.1⟩
 ·obtain⟨_,hd,xs,_,dd⟩:=l3 I.hok e;refine⟨dd.typeIs,λb q=>?_,hd⟩;cases q;obtain⟨ob,_,_,f,c,_⟩:=dd;exact⟨ob,f,c.2.1⟩
section
variable{X:Cx}{G:L9}{Z:St}{H:Hp}{s:Shared}{a:Addr}{y d:V}{u r:Value}{o:Option V}{A:Around}{E:LV}
theorem Pc{Q:LV}(m:A.units+1<cLine)(I:Inv X G Z H s)(g:DGet H a y o)(j:RelV y u)(h:∀f i,Inv X G Z H i->RelV (o.getD .non) f->Q f i):
 wpAny (model X.prog X.w) A (call (.builtin "dict.get") [.ref a,u]) Q E s:=by
 rcases g with ⟨kvs,k,e,d,l⟩|⟨kvs,k,b,e,d,n,l⟩
 ·subst d;obtain⟨z,hd,vs,c,dd⟩:=ki I.hok e;refine XI WV dd.typeIs Xw (Yy _ _) (meets_dict_get (aq X.prog X.w) a (jY j) hd) ⟨_,dd.mapOf,h _ _ (I.tok _) ?_⟩;rw[l];exact(c.val k).getD rfl
 ·subst d;cases(show u=Value.ref b from j);obtain⟨z,hd,xs,c,dd⟩:=l3 I.hok e;refine XI WV dd.typeIs Xw (Yy _ _) (meetsH_dict_get (tupleKind (aq X.prog X.w)) a b hd) ⟨Xd m,k,xs,eV I.hok n,dd,h _ _ (I.tok _) ?_⟩;rw[l];exact(c.val k).getD rfl
theorem Pb{Q:LV}(n:A.units+1<cLine)(I:Inv X G Z H s)(g:DGet H a y o)(m:RelV y u)(rd:RelV d r)(h:∀i j,Inv X G Z H j->RelV (o.getD d) i->Q i j):
 wpAny (model X.prog X.w) A (call (.builtin "dict.get") [.ref a,u,r]) Q E s:=by
 rcases g with ⟨kvs,k,e,f,l⟩|⟨kvs,k,b,e,f,p,l⟩
 ·subst f;obtain⟨z,hd,vs,c,dd⟩:=ki I.hok e;refine XI WV dd.typeIs Xw (Yz _ _ _) (meets_dict_get_default (aq X.prog X.w) a (jY m) hd r) ⟨_,dd.mapOf,h _ _ (I.tok _) ?_⟩;rw[l];exact(c.val k).getD rd
 ·subst f;cases(show u=Value.ref b from m);obtain⟨z,hd,xs,c,dd⟩:=l3 I.hok e;refine XI WV dd.typeIs Xw (Yz _ _ _) (meetsH_dict_get_default (tupleKind (aq X.prog X.w)) a b hd r) ⟨Xd n,k,xs,eV I.hok p,dd,h _ _ (I.tok _) ?_⟩;rw[l];exact(c.val k).getD rd
end
def v6(c ty:TE):TE:=λZ H Q=>c Z H λx H1=>∃a,x=.ref a/\LD H1 a/\ty Z H1 λy b=>∃o,DGet b a y o/\Q (o.getD .non) b
def v5(d ty c:TE):TE:=λZ H Q=>d Z H λx H1=>∃a,x=.ref a/\LD H1 a/\ty Z H1 λy e=>c Z e λz b=>∃o,DGet b a y o/\Q (o.getD z) b
def vY(d ty c:TE):TE:=λZ H Q=>d Z H λx H1=>∃a,x=.ref a/\LD H1 a/\ty Z H1 λy e=>c Z e λz b=>∃kvs k,b a=some (.dK kvs)/\y=kV k/\
 (∀v,cA kvs k=some v->Q v (upd b a (.dK (dU kvs k))))/\(cA kvs k=none->Q z b)
section
variable{X:Cx}{o e f:Expr}{apos cpos:Pos}{td ty tx:TE}
theorem Dd(q:X.A.units+1<cLine)(r:PE X o td)(t:PE X e ty)(m:M1 X o "get" apos e cpos):PE X (.Call (.Attribute o "get" apos) [e] [] cpos) (v6 td ty):=by
 intro G s Z H Q I h;refine XE m.base m.few m.line WG WV YU (bb (r G s Z H _ I h) λu j ⟨x,H1,c,l,a,ex,d,p⟩=>?_);subst ex;obtain rfl:u=Value.ref a:=l;obtain⟨i,f,_⟩:=lq c d;refine⟨i,f,?_⟩;rw[m.trees];refine WK rfl (WZ (WC (bb (t G j Z H1 _ c p) λE D ⟨y,z,w,k,ov,g,n⟩=>W5 ?_)));exact Pc q w g k λB C v b=>⟨_,z,v,b,n⟩
theorem Dc(w:X.A.units+1<cLine)(B:PE X o td)(D:PE X e ty)(C:PE X f tx)(m:M2 X o "get" apos e f cpos):PE X (.Call (.Attribute o "get" apos) [e,f] [] cpos) (v5 td ty tx):=by
 intro G s Z H Q I h;refine XE m.base m.few m.line WG WV YU (bb (B G s Z H _ I h) λu l ⟨x,H1,c,q,a,ex,d,v⟩=>?_);subst ex;obtain rfl:u=Value.ref a:=q;obtain⟨j,i,_⟩:=lq c d;refine⟨j,i,?_⟩;rw[m.trees]
 refine WK rfl (WZ (WC (bb (D G l Z H1 _ c v) λP k ⟨y,L,J,p,t⟩=>
  WC (bb (C G k Z L _ J t) λR O ⟨z,K,F,n,ov,g,r⟩=>W5 ?_))))
 exact Pb w F g p n λM N E b=>⟨_,K,E,b,r⟩
theorem C9(J:PE X o td)(L:PE X e ty)(K:PE X f tx)(m:M2 X o "pop" apos e f cpos):PE X (.Call (.Attribute o "pop" apos) [e,f] [] cpos) (vY td ty tx):=by
 intro G s Z H Q I h;refine XE m.base m.few m.line WG Xf XX (bb (J G s Z H _ I h) λu w ⟨x,H1,n,B,a,ex,d,F⟩=>?_);subst ex;obtain rfl:u=Value.ref a:=B;obtain⟨q,p,_⟩:=lq n d;refine⟨q,p,?_⟩;rw[m.trees]
 refine WK rfl (WZ (WC (bb (L G w Z H1 _ n F) λU t ⟨y,R,O,g,E⟩=>
  WC (bb (K G t Z R _ O E) λM T ⟨z,P,j,A,kvs,k,i,N,D,C⟩=>W5 ?_))))
 subst N;cases l:cA kvs k with
 |some v=>exact To j i g l (.inr ⟨M,rfl⟩) λS r c b=>⟨v,_,c,b,D v l⟩
 |none=>exact Pa j i g l λr c=>⟨z,P,c,A,C l⟩
end
end L2
namespace HT
open PySem PyProof.Rows
def fG:List Int->List Int->Bool
 |[],[]=>false
 |[],_::_=>true
 |_::_,[]=>false
 |x::xs,y::a=>if x=y then fG xs a else decide (x<y)
theorem eT(x y:Int)(xs a:List Int):fG (x::xs) (y::a)=if x=y then fG xs a else decide (x<y):=rfl
theorem CM(A:Around)(s:Shared)(a:Int)(t:Tok)(c:Int)(u:Tok)(prog:Program)(w:World)(E:LV)(Q:LV)(h:Q (.bool (decide (a<c))) s):
 wpAny (model prog w) A (richCompare .Lt (.int a t) (.int c u)) Q E s:=
 (PyProof.Rows.lt_int h:wpAny (model prog w) A (compareOp .Lt (.int a t) (.int c u)) Q E s)
section
variable{prog:Program}{w:World}{A:Around}{E:LV}{s:Shared}
def tL(n d:Nat):Option Int->Nat
 |none=>d
 |some v=>if v<0 then (v+(n:Int)).toNat else min v.toNat n
theorem Cd(n d:Nat):tL n d none=d:=rfl
end
end HT
namespace L2
open PySem PySem.Spec PyProof.Rows
abbrev TO:=St->Hp->(Option Int->Hp->Prop)->Prop
def PO(X:Cx)(e:Option Expr)(t:TO):Prop:=
 ∀(G:L9) (s:Shared) (Z:St) (H:Hp) (Q:Option Int->Hp->Prop),Inv X G Z H s->t Z H Q->
  wpAny (model X.prog X.w) X.A (evalPart e X.env) (λu a=>∃o H',Inv X G Z H' a/\IsPart u o/\Q o H') X.xe s
def xT:TO:=λ_ H Q=>Q none H
def JT(t:TE):TO:=λZ H Q=>t Z H λx H1=>∃i,x=.int i/\Q (some i) H1
theorem wR{ns:List Int}:∀{us:List Value},Vals (ns.map V.int) us->IntsAre us ns:=by
 induction ns with
 |nil=>intro us r;rw[WO]at r;cases r;exact .nil
 |cons n ns c=>
   intro us r;rw[VN]at r;cases r with
   |cons b a=>
     obtain⟨t,e⟩:=b;subst e;exact .cons n t (c a)
section
variable{X:Cx}{e:Expr}{te:TE}{lo hi:Option Expr}{tl th:TO}{pos p2:Pos}
theorem HL:PO X none xT:=by
 intro G s Z H Q I h;rw[evalPart_none];exact VX ⟨none,H,I,.none,h⟩
theorem HK(h:PE X e te):PO X (some e) (JT te):=by
 intro G s Z H Q I c;rw[evalPart_some];refine bb (h G s Z H _ I c) λu f ⟨x,H1,d,a,b⟩=>?_;obtain⟨i,rfl,q⟩:=b;obtain⟨t,rfl⟩:=a;exact⟨some i,H1,d,.int i t,q⟩
def UP(X:Cx)(r:V->Option Int->Option Int->Hp->VK->Prop):Prop:=
 ∀(G:L9) (s:Shared) (Z:St) (H:Hp) (x:V) (v b a:Value) (lo hi:Option Int) (c:Addr) (Q:VK),Inv X G Z H s->RelV x v->s.heap.IsSliceOf c b a .none->IsPart b lo->IsPart a hi->r x lo hi H Q->
  ∃T id,typeLookup (.type T) "__getitem__" = pure (some (.builtin id))/\s.TypeIs v T/\wpAny (model X.prog X.w) X.A (getItem v (.ref c)) (EP X G Z Q) X.xe s
def UV(r:V->Option Int->Option Int->Hp->VK->Prop)(te:TE)(tl th:TO):TE:=λZ H Q=>te Z H λx H1=>tl Z H1 λl b=>th Z b λu a=>r x l u a Q
theorem C4{r:V->Option Int->Option Int->Hp->VK->Prop}(t:UP X r)(B:PE X e te)(y:PO X lo tl)(o:PO X hi th):PE X (.Subscript e (.Slice lo hi none p2) pos) (UV r te tl th):=by
 intro G s Z H Q I h;refine Subscript_ (bb (B G s Z H _ I h) λv i ⟨x,H1,J,j,n⟩=>?_);refine wpAny_Slice (bb (y G i Z H1 _ J n) λd g ⟨l,K,F,pl,m⟩=>bb (o G g Z K _ F m) λc a ⟨u,f,E,pu,k⟩=>?_);rw[evalPart_none];refine wpAny_pure ?_;have D:Inv X G Z f {a with heap:=a.heap.push {cls:=.type "slice",data:=.fields #[d,c,.none]}}:=E.kept (t':=a.toks) λb ob q=>Heap.get?_push_of_some _ q;obtain⟨T,id,C,p,z⟩:=t G {a with heap:=a.heap.push {cls:=.type "slice",data:=.fields #[d,c,.none]}} Z f x v d c l u a.heap.objs.size Q D j (Heap.IsSliceOf.new ..) pl pu k;show wpAny (model X.prog X.w) X.A (subscriptTail e (.Slice lo hi none p2) v (.ref a.heap.objs.size)) (EP X G Z Q) X.xe {a with heap:=a.heap.push {cls:=.type "slice",data:=.fields #[d,c,.none]}};exact tail_any (ops:=[.ref a.heap.objs.size,v]) p C z (by with_unfolding_all rfl)
def Bj(xs:List V)(lo hi:Option Int):List V:=(xs.drop (HT.tL xs.length 0 lo)).take (HT.tL xs.length xs.length hi-HT.tL xs.length 0 lo)
theorem uI(xs:List V)(lo hi:Option Int):(Bj xs lo hi).length<=xs.length:=by
 unfold Bj;rw[List.length_take,List.length_drop];omega
end
def nF(n:Nat)(i:Int):Option Nat:=if 0<=i then (if i<n then some i.toNat else none) else if -(n:Int)<=i then some (i+n).toNat else none
def iZ{W:Type}(xs:List W)(i:Int):Option W:=(nF xs.length i).bind λj=>xs[j]?
theorem rP{n:Nat}{i:Int}{j:Nat}(h:nF n i=some j):seqIndex? i n=some j/\j<n/\-(n:Int)<=i/\i<n:=by
 unfold nF at h;by_cases h0:0<=i
 · rw[VL h0]at h;by_cases a:i<n
   ·rw[VL a]at h;have e:i.toNat=j:=Wa h;exact⟨by rw[seqIndex_of h0 a,e],by omega,by omega,a⟩
   ·rw[on a]at h;cases h
 · rw[on h0]at h;by_cases a:-(n:Int)<=i
   ·rw[VL a]at h;have e:(i+n).toNat=j:=Wa h;exact⟨by rw[seqIndex_neg (by omega) a,e],by omega,a,by omega⟩
   ·rw[on a]at h;cases h
theorem zQ{W:Type}{xs:List W}{i:Int}{v:W}(h:iZ xs i=some v):∃j,seqIndex? i xs.length=some j/\xs[j]?=some v/\j<xs.length/\-(xs.length:Int)<=i/\i<xs.length:=by
 unfold iZ at h;cases e:nF xs.length i with
 |none=>rw[e]at h;cases h
 |some j=>
   rw[e]at h;obtain⟨d,c,b,a⟩:=rP e;exact⟨j,d,h,c,b,a⟩
theorem pp{W:Type}(xs:List W)(v:W):iZ (xs++[v]) (-1)=some v:=by
 have a:(xs++[v]).length=xs.length+1:=by simp
 have e:nF (xs++[v]).length (-1)=some xs.length:=by
  unfold nF;rw[a,if_neg (by decide),if_pos (by omega)];congr 1;omega
 unfold iZ;rw[e];show(xs++[v])[xs.length]?=some v;simp
def JC(b:Expr):Prop:=∀o i,subscripted b false o i=operate [o,i] (getItem o i)
def QI(X:Cx)(r:R2):Prop:=
 ∀(b a:Expr) (G:L9) (s:Shared) (Z:St) (H:Hp) (x y:V) (v u:Value) (Q:VK),Inv X G Z H s->RelV x v->RelV y u->r x y H Q->
  subscripted a false v u=operate [v,u] (getItem v u)->wpAny (model X.prog X.w) X.A (subscriptTail b a v u) (EP X G Z Q) X.xe s
def MtR(X:Cx)(id:String)(r:V->List V->Hp->VK->Prop):Prop:=
 ∀(G:L9) (s:Shared) (Z:St) (H:Hp) (x:V) (xs:List V) (v:Value) (us:List Value) (Q:VK),Inv X G Z H s->RelV x v->Vals xs us->r x xs H Q->
  wpAny (model X.prog X.w) X.A (call (.builtin id) (v::us)) (EP X G Z Q) X.xe s
section
variable{X:Cx}{a b:Expr}{ta tb:TE}{pos:Pos}
theorem Rs{r:R2}(g:QI X r)(j:PE X a ta)(i:PE X b tb)(f:JC b):PE X (.Subscript a b pos) (BF r ta tb):=by
 intro G s Z H Q I h;exact Subscript_ (Qd j i I h λv u c x y l k e d q=>g a b G c Z l x y v u Q k e d q (f _ _))
def Hw(K:F0):R2:=λx y H Q=>∃p xs i v,x=.ref p/\y=.int i/\SqL K H p xs/\iZ xs i=some v/\Q v H
def Mp(K:F0):R2:=λx y H Q=>∃p xs i v,x=.ref p/\y=.int i/\SqT K H p xs/\iZ xs i=some v/\Q v H
theorem I8:QI X (Hw X.K):=by
 intro c d G s Z H x y v u Q I n m h g;obtain⟨p,xs,i,z,rfl,rfl,o,B,q⟩:=h;cases n;obtain⟨t,rfl⟩:=m;obtain⟨its,r,pl,hz⟩:=I.list o;obtain⟨j,b,E,J,D,C⟩:=zQ B;obtain⟨w,k,e⟩:=r.get E;have A:=r.length;have F:=rK;have a:EP X G Z Q w s:=⟨z,H,I,e,q⟩;by_cases h0:0<=i
 · have f:i.toNat=j:=by
    rw[seqIndex_of h0 C]at b;exact Wa b
   exact item_listR pl.isList h0 (by omega) (by rw[f];simpa using k) a g
 · have f:(i+(its.toArray.size:Int)).toNat=j:=by
    rw[seqIndex_neg (by omega) D]at b;rw[V3,<-A];exact Wa b
   exact subscriptTail_builtinR (x:=w) pl.isList.typeIs slot_list_getitem.lookup
    (wpAny_getItem_list_neg (Q:=λr l=>r=w/\EP X G Z Q r l) pl.isList (by omega) (by rw[V3]<;>omega) (by omega) (by rw[f];simpa using k) ⟨rfl,a⟩) g
theorem OX:QI X (Mp X.K):=by
 intro a b G s Z H x y v u Q I g f h k;obtain⟨p,xs,i,z,rfl,rfl,l,n,q⟩:=h;cases g;obtain⟨t,rfl⟩:=f;obtain⟨its,r,pl,hz⟩:=I.tuple l;obtain⟨j,A,o,F,E,D⟩:=zQ n;obtain⟨w,B,c⟩:=r.get o;have m:=r.length;have C:=rK;have d:EP X G Z Q w s:=⟨z,H,I,c,q⟩
 exact subscriptTail_builtinR (x:=w) pl.typeIs slot_tuple_getitem.lookup
  (getItem_tuple (j:=j) (Q:=λr e=>r=w/\EP X G Z Q r e) pl (by omega) (by omega) (by rw[V3,<-m];exact A) (by simpa using B) ⟨rfl,d⟩) k
theorem wF(its:List Value)(n j:Nat)(u:Value):Obj.mapSeq (·.setIfInBounds j u) {cls:=.type "list",data:=.seq its.toArray n}={cls:=.type "list",data:=.seq (its.set j u).toArray n}:=by
 simp[Obj.mapSeq]
theorem Inv.lst{G:L9}{Z:St}{H:Hp}{s:Shared}{p:Addr}{xs:List V}(I:Inv X G Z H s)(h:H p=some (.lst xs)):
 ∃(its:List Value) (n:Nat),Vals xs its/\s.heap.get? p=some {cls:=.type "list",data:=.seq its.toArray n}/\xs.length<=sizeLine:=by
 obtain⟨z,its,n,r,e⟩:=I.hok p _ h;exact⟨its,n,r,e,z⟩
theorem Inv.lstUpd{G:L9}{Z:St}{H:Hp}{s:Shared}{p:Addr}{xs a:List V}{its its':List Value}{n c:Nat}{f:Obj->Obj}(I:Inv X G Z H s)(h:H p=some (.lst xs))
 (g:s.heap.get? p=some {cls:=.type "list",data:=.seq its.toArray n}) (d:f {cls:=.type "list",data:=.seq its.toArray n}={cls:=.type "list",data:=.seq its'.toArray c}) (r:Vals a its') (hz:a.length<=sizeLine) (t:Nat):
 Inv X G Z (upd H p (.lst a)) {s with heap:=s.heap.update p f,toks:=t}:=by
 have e:(s.heap.update p f).get? p=some {cls:=.type "list",data:=.seq its'.toArray c}:=by
  rw[Wr f g (by rw[d]<;>rfl),d]
 refine I.write (x:=p) (e:=p) (by rw[h];trivial) (.inl rfl) (λb u i q=>(Wo _ _ (Xp i)).trans q) ⟨_,e⟩ ?_;exact⟨hz,its',c,r,e⟩
def J8:V->V->V->Hp->(Hp->Prop)->Prop:=λo i v H Q=>∃p xs k j,o=.ref p/\i=.int k/\H p=some (.lst xs)/\nF xs.length k=some j/\Q (upd H p (.lst (xs.set j v)))
theorem Cc:Ur X J8:=by
 intro G s Z H o i v ov y u Q I m w l h;obtain⟨p,xs,k,j,rfl,rfl,hp,x,q⟩:=h;cases m;obtain⟨t,rfl⟩:=w;obtain⟨its,n,r,b,hz⟩:=I.lst hp;obtain⟨a,A,f,e⟩:=rP x;have c:=r.length;have z:=rK
 have g:Inv X G Z (upd H p (.lst (xs.set j v))) {s with heap:=s.heap.update p (Obj.mapSeq (·.setIfInBounds j u))}:=
  I.lstUpd hp b (wF its n j u) (r.set l j) (by rw[Wd];exact hz) s.toks
 by_cases h0:0<=k
 · have d:k.toNat=j:=by
    rw[seqIndex_of h0 e]at a;exact Wa a
   exact PySem.W.ki_setAt b h0 (by omega) (by rw[V3,<-c];exact e) (by rw[d];exact⟨_,g,q⟩)
 · have d:(k+(its.toArray.size:Int)).toNat=j:=by
    rw[seqIndex_neg (by omega) f]at a;rw[V3,<-c];exact Wa a
   exact PySem.W.ki_setBack b (by omega) (by rw[V3,<-c];exact f) (by omega) (by rw[d];exact⟨_,g,q⟩)
theorem q9(lo hi:Option Int)(n:Nat):(sliceBounds lo hi none n).1=((HT.tL n 0 lo:Nat):Int)/\(sliceBounds lo hi none n).2.1=((HT.tL n n hi:Nat):Int)/\(sliceBounds lo hi none n).2.2=1:=by
 refine⟨?_,?_,rfl⟩
 · cases lo with
   |none=>simp[sliceBounds,HT.tL]
   |some i=>
     simp only[sliceBounds,HT.tL,Option.getD_none,show(1:Int)>0 by decide,YG];by_cases h:i<0
     ·simp only[h,YG]<;>omega
     ·simp only[h,Yh]<;>omega
 · cases hi with
   |none=>simp[sliceBounds,HT.tL]
   |some i=>
     simp only[sliceBounds,HT.tL,Option.getD_none,show(1:Int)>0 by decide,YG];by_cases h:i<0
     ·simp only[h,YG]<;>omega
     ·simp only[h,Yh]<;>omega
theorem pK(its:List Value)(lo hi:Option Int):slicePick its.toArray lo hi none=((its.drop (HT.tL its.length 0 lo)).take (HT.tL its.length its.length hi-HT.tL its.length 0 lo)).toArray:=by
 obtain⟨c,b,a⟩:=q9 lo hi its.toArray.size;unfold slicePick;rw[c,b,a];simp only[sliceRange_one,pick_run,List.size_toArray]<;>rfl
def Mn(K:F0):V->Option Int->Option Int->Hp->VK->Prop:=λx lo hi H Q=>∃a xs,x=.ref a/\SqL K H a xs/\∀p,H p=none->Q (.ref p) (upd H p (.lst (Bj xs lo hi)))
theorem Hk:UP X (Mn X.K):=by
 intro G s Z H x v j i lo hi k Q I e g pl pu h;obtain⟨a,xs,rfl,f,q⟩:=h;cases e;obtain⟨its,r,d,hz⟩:=I.list f;have c:=r.length;refine⟨"list",_,slot_list_getitem.lookup,d.isList.typeIs,?_⟩;refine wpAny_getItem_list_slice d.isList g pl pu .none (by simp) ?_ (by rw[V3]<;>omega);rw[pK,<-c];refine⟨.ref s.heap.objs.size,_,I.laid (t':=s.toks) (o:=.lst (Bj xs lo hi)) (λb ob q=>VT _ q) (V2 _) ?_,rfl,q _ (I.hok.fresh (V2 _))⟩;exact⟨Wl (uI xs lo hi) hz,_,0,(r.drop (HT.tL xs.length 0 lo)).take (HT.tL xs.length xs.length hi-HT.tL xs.length 0 lo),V8 _ rfl⟩
theorem sZ:cz X (.builtin "len") (λxs H Q=>∃p b,xs=[.ref p]/\(SqL X.K H p b\/SqT X.K H p b)/\Q (.int b.length) H):=by
 intro G s Z H xs us Q I r h;obtain⟨p,b,rfl,c,q⟩:=h;obtain⟨u,rfl,e⟩:=tq r;cases e;have f:=rK;rcases c with c|c
 ·obtain⟨its,d,pl,hz⟩:=I.list c;have a:=d.length;exact Calls.call_len_list pl.isList (by simp only[V3]<;>omega) ⟨.int b.length,H,I.tok _,⟨s.toks+1,by rw[V3,a]⟩,q⟩
 ·obtain⟨its,d,pl,hz⟩:=I.tuple c;have a:=d.length;exact len_tuple pl (by simp only[V3]<;>omega) ⟨.int b.length,H,I.tok _,⟨s.toks+1,by rw[V3,a]⟩,q⟩
theorem sY:cz X (.type "list") (λxs H Q=>∃p a,xs=[.ref p]/\(SqL X.K H p a\/SqT X.K H p a)/\∀l,H l=none->Q (.ref l) (upd H l (.lst a))):=by
 intro G s Z H xs us Q I r h;obtain⟨p,a,rfl,f,q⟩:=h;obtain⟨u,rfl,m⟩:=tq r;cases m
 have i:∀(its:List Value),Vals a its->a.length<=sizeLine->∀(h':Heap) (d:Nat),(∀b o',s.heap.get? b=some o'->h'.get? b=some o')->
  h'.get? s.heap.objs.size=some {cls:=.type "list",dict:=none,data:=.seq its.toArray d,slots:=#[]}->EP X G Z Q (.ref s.heap.objs.size) {s with heap:=h'}:=λits c hz h' d kp e=>
  ⟨.ref s.heap.objs.size,_,I.laid (t':=s.toks) kp (V2 _) (show ObjOk X.prog X.w _ h' _ (.lst a) from⟨hz,its,d,c,e⟩),rfl,q _ (I.hok.fresh (V2 _))⟩
 rcases f with f|f
 ·obtain⟨its,c,pl,hz⟩:=I.list f;have g:=c.length;obtain⟨o,j,k,n,hd⟩:=pl.isList;exact call_list_seq p (.inl rfl) j k hd (λh' d kp e=>i its c hz h' d kp e) (by simp only[V3]<;>omega)
 ·obtain⟨its,c,pl,hz⟩:=I.tuple f;have g:=c.length;obtain⟨o,j,k,n,hd⟩:=pl;exact call_list_seq p (.inr rfl) j k hd (λh' d kp e=>i its c hz h' d kp e) (by simp only[V3]<;>omega)
theorem pP:cz X (.type "tuple") (λxs H Q=>∃p a,xs=[.ref p]/\((SqL X.K H p a/\∀l,H l=none->Q (.ref l) (upd H l (.tup a)))\/(SqT X.K H p a/\Q (.ref p) H))):=by
 intro G s Z H xs us Q I r h;obtain⟨p,a,rfl,h⟩:=h;obtain⟨u,rfl,i⟩:=tq r;cases i;rcases h with ⟨d,q⟩|⟨d,q⟩
 · obtain⟨its,c,pl,hz⟩:=I.list d;have f:=c.length;refine call_tuple_list pl.isList (λh' kp=>?_) (by simp only[V3]<;>omega);have g:Inv X G Z H {s with heap:=h'}:=I.kept (t':=s.toks) kp
   have j:Inv X G Z (upd H h'.objs.size (.tup a)) {s with heap:=h'.push {cls:=.type "tuple",data:=.seq its.toArray}}:=
    g.laid (t':=s.toks) (λb o e=>VT _ e) (V2 _) (show ObjOk X.prog X.w _ _ _ (.tup a) from⟨hz,its,c,IsTup.new _ _⟩)
   exact⟨.ref h'.objs.size,_,j,rfl,q _ (g.hok.fresh (V2 _))⟩
 ·obtain⟨its,c,pl,hz⟩:=I.tuple d;exact call_tuple_same pl ⟨.ref p,H,I,rfl,q⟩
def tyV(K:F0)(T:String)(x:V)(H:Hp):Prop:=match x with
 |.str _=>T = "str"
 |.int _=>T = "int"
 | .ref p=>(T = "list" /\ ∃xs,SqL K H p xs)\/(T = "tuple" /\ ∃o,K.lookup p=some o/\o.cls=.type "tuple" /\ o.dict=none)\/
    (T = "dict" /\ ((∃kvs,H p=some (.dK kvs))\/∃kvs,H p=some (.dT kvs)))\/(T = "set" /\ ∃S n,H p=some (.set S n))
 |_=>False
theorem LI{G:L9}{Z:St}{H:Hp}{s:Shared}{T:String}{x:V}{v:Value}(I:Inv X G Z H s)(r:RelV x v)(ty:tyV X.K T x H):
 s.TypeIs v T/\∀a,v=.ref a->∃ob,s.heap.get? a=some ob/\ob.dict=none:=by
 cases x with
 |str z=>
   obtain⟨t,rfl⟩:=r;cases(show T = "str" from ty);exact⟨typeIs_str s z t,λ_ e=>nomatch e⟩
 |int i=>
   obtain⟨t,rfl⟩:=r;cases(show T = "int" from ty);exact⟨typeIs_int s i t,λ_ e=>nomatch e⟩
 |ref p=>
   cases r;rcases ty with ⟨rfl,xs,f⟩|⟨rfl,o,b,g,hd⟩|⟨rfl,b⟩|⟨rfl,S,n,b⟩
   ·obtain⟨its,_,pl,_⟩:=I.list f;refine⟨pl.isList.typeIs,λa e=>?_⟩;cases e;obtain⟨o,n,e,c,hd,_⟩:=pl;exact⟨o,e,hd⟩
   ·refine⟨⟨o,I.kIn p o b,g⟩,λa e=>?_⟩;cases e;exact⟨o,I.kIn _ o b,hd⟩
   · have z:∃o,s.heap.get? p=some o/\o.ExactDict:=by
      rcases b with ⟨kvs,b⟩|⟨kvs,b⟩
      ·obtain⟨_,_,_,_,o,_,_,e,ex,_⟩:=I.hok p _ b;exact⟨o,e,ex⟩
      ·obtain⟨_,_,_,_,o,_,_,e,ex,_⟩:=I.hok p _ b;exact⟨o,e,ex⟩
     obtain⟨o,e,ex⟩:=z;refine⟨⟨o,e,ex.1⟩,λa d=>?_⟩;cases d;exact⟨o,e,ex.2.1⟩
   ·obtain⟨o,_,_,_,e,ex,_⟩:=I.hok p _ b;refine⟨⟨o,e,ex.1⟩,λa d=>?_⟩;cases d;exact⟨o,e,ex.2.1⟩
 |_=>exact False.elim ty
def LU(K:F0)(T:String)(r:V->List V->Hp->VK->Prop)(to:TE)(t:TA):TE:=λZ H Q=>to Z H λx H1=>tyV K T x H1/\t Z H1 λxs a=>r x xs a Q
variable{o e:Expr}{es:List Expr}{to:TE}{t:TA}{name:Str}{apos cpos:Pos}{T id:String}{r:V->List V->Hp->VK->Prop}
theorem Rt(q:PlainAttrs T)(slot:Slot T name id)(f:typeOf (.builtin id)=pure (.type "method_descriptor"))(y:MtR X id r)(w:PE X o to)(z:PA X (e::es) t)
 (c:attributeBase o name X.env (eval o X.env)=eval o X.env:=by rfl)
 (d:((backTo cpos (starEach (e::es) X.env)).all (λx=>!x.1)&&(backToKw cpos (keywordEach [] X.env)).all (λx=>x.1.isSome)
   && decide ((e::es).length+([]:List Keyword).length+(if ([]:List Keyword).isEmpty then 0 else 1)<30))=true:=by rfl)
 (b:(apos.endLine==cpos.line)=true:=by rfl) (u:starEach (e::es) X.env=(false,eval e X.env)::starEach es X.env:=by rfl) (a:(backTo cpos (starEach es X.env)).any (·.1)=false:=by rfl):
 PE X (.Call (.Attribute o name apos) (e::es) [] cpos) (LU X.K T r to t):=by
 intro G s Z H Q I h;refine wpAny_Call_method_late c d b rfl (bb (w G s Z H _ I h) λv l ⟨x,H1,j,g,ty,p⟩=>?_);obtain⟨B,A⟩:=LI j g ty;refine⟨T,id,q,slot,f,B,A,?_⟩;have i:=z cpos G l Z H1 _ j p;rw[u]at i ⊢;refine WK (by show(false||(backTo cpos (starEach es X.env)).any (·.1))=false;rw[a]<;>rfl) (WZ ?_);exact bb i λus k ⟨vs,D,C,m,n⟩=>y G k Z D x vs v us Q C g m n
end
def VF(X:Cx)(id:String)(r:V->List V->Hp->VK->Prop):Prop:=
 ∀(G:L9) (s:Shared) (Z:St) (H:Hp) (x:V) (xs:List V) (v:Value) (us:List Value) (Q:VK),Inv X G Z H s->RelV x v->Vals xs us->r x xs H Q->
  wpAny (model X.prog X.w) X.A (call (.builtin id) (v::us)) (EP X G Z Q) X.xe s
theorem Vals.one:∀{x:V} {us:List Value},Vals [x] us->∃u,us=[u]/\RelV x u
 |_,_,.cons r .nil=>⟨_,rfl,r⟩
theorem Vals.eraseIdx:∀{xs:List V} {us:List Value} (i:Nat),Vals xs us->Vals (xs.eraseIdx i) (us.eraseIdx i)
 |_,_,_,.nil=>.nil
 |_,_,0,.cons _ t=>t
 |_,_,i+1,.cons r t=>.cons r (Vals.eraseIdx i t)
theorem Vals.rep{xs:List V}{us:List Value}(h:Vals xs us):∀k:Nat,Vals (List.replicate k xs).flatten (List.replicate k us).flatten
 |0=>.nil
 | k+1=>by
   rw[Wn,Wn,WF,WF];exact Vals.append h (Vals.rep h k)
theorem lc{W:Type}:∀(l:List W) (i:Nat),(l.eraseIdx i).length<=l.length
 |[],_=>V2 _
 |_::_,0=>Nat.le_succ _
 |_::r,i+1=>Nat.succ_le_succ (lc r i)
theorem qC(its:List Value):∀(k:Nat) (acc:List Value),
 List.foldl (λb a=>b++a) acc.toArray (List.replicate k its.toArray)=(acc++(List.replicate k its).flatten).toArray
 |0,acc=>by simp
 | k+1,acc=>by
   have e:acc.toArray++its.toArray=(acc++its).toArray:=by simp
   have c:(acc++its)++(List.replicate k its).flatten=acc++(List.replicate (k+1) its).flatten:=by
    rw[Wn,WF,Wy]
   rw[<-c,<-qC its k (acc++its),<-e,Wn,XA]
section
variable{X:Cx}{G:L9}{Z:St}{H:Hp}{s:Shared}{l b:Addr}{xs ys zs:List V}
theorem Inv.lset{its its':List Value}{n:Nat}{f:Array Value->Array Value}{t':Nat}(I:Inv X G Z H s)(g:H l=some (.lst xs))
 (e:s.heap.get? l=some {cls:=.type "list",data:=.seq its.toArray n}) (c:f its.toArray=its'.toArray) (a:Vals ys its') (hz:ys.length<=sizeLine):
 Inv X G Z (upd H l (.lst ys)) {s with heap:=s.heap.update l (Obj.mapSeq f),toks:=t'}:=by
 have q:=PySem.IsL.update e f;rw[c]at q;refine I.write (x:=l) (e:=l) (by rw[g];exact trivial) (.inl rfl) (λh u d b=>(Wo s.heap (Obj.mapSeq f) (Xp d)).trans b) ⟨_,q⟩ ?_;exact⟨hz,its',_,a,q⟩
theorem Inv.lnew{its:List Value}{t':Nat}(I:Inv X G Z H s)(a:Vals ys its)(hz:ys.length<=sizeLine):
 Inv X G Z (upd H s.heap.objs.size (.lst ys)) {s with heap:=s.heap.push {cls:=.type "list",data:=.seq its.toArray},toks:=t'}:=
 I.laid (λ_ _ q=>VT _ q) (V2 _) ⟨hz,its,0,a,V8 _ rfl⟩
theorem Inv.fresh(I:Inv X G Z H s):H s.heap.objs.size=none:=I.hok.fresh (V2 _)
theorem Inv.lstM(I:Inv X G Z H s)(a:H l=some (.lst xs)):xs.length<=sizeLine/\∃(its:List Value) (n:Nat),Vals xs its/\xs.length=its.length/\s.heap.get? l=some {cls:=.type "list",data:=.seq its.toArray n}:=by
 obtain⟨z,its,n,r,e⟩:=I.hok l _ a;exact⟨z,its,n,r,r.length,e⟩
theorem DD{n:Nat}(h:n<=sizeLine):Builtin.List.listTooLong n=false:=by
 unfold Builtin.List.listTooLong;exact decide_eq_false (by omega)
end
section
variable{X:Cx}
def yo:V->List V->Hp->VK->Prop:=λx vs H Q=>∃l xs y,x=.ref l/\vs=[y]/\H l=some (.lst xs)/\xs.length<sizeLine/\Q .non (upd H l (.lst (xs++[y])))
theorem qj:VF X "list.append" yo:=by
 intro G s Z H x vs v us Q I b c h;obtain⟨l,xs,y,rfl,rfl,a,hz,q⟩:=h;cases b;obtain⟨u,rfl,d⟩:=c.one;obtain⟨z,its,n,r,f,e⟩:=I.lstM a;refine YH F.slot_list_append ⟨_,e,rfl⟩ F.entry_list_append (F.args_list_append_2 _ _) (PySem.list_append l its.toArray n u (by rw[V3];omega)) ⟨e,?_⟩;refine⟨.non,_,I.lset (its':=its++[u]) a e (by simp) (r.append (.cons d .nil)) ?_,rfl,q⟩;rw[VQ,XD];omega
def CN:V->List V->Hp->VK->Prop:=λx vs H Q=>∃l xs i k y,x=.ref l/\vs=[.int i]/\H l=some (.lst xs)/\-(2 ^ 63)<=i/\i<2 ^ 63/\seqIndex? i xs.length=some k/\xs[k]?=some y/\Q y (upd H l (.lst (xs.eraseIdx k)))
theorem DM:VF X "list.pop" CN:=by
 intro G s Z H x vs v us Q I c d h;obtain⟨l,xs,i,k,y,rfl,rfl,b,A,p,o,g,q⟩:=h;cases c;obtain⟨u,rfl,f⟩:=d.one;obtain⟨t,rfl⟩:=f;obtain⟨z,its,n,r,m,e⟩:=I.lstM b;obtain⟨w,j,a⟩:=r.get g
 refine YH F.slot_list_pop ⟨_,e,rfl⟩ F.entry_list_pop (F.args_list_pop_2 _ _)
  (MeetsSeq.list_pop_at l its.toArray n i t k w (fitsIndex_both A p) (by rw[V3,<-m];exact o) (by rw[<-Xg];exact j) (by rw[V3];omega)) ⟨e,?_⟩
 refine⟨y,_,I.lset (its':=its.eraseIdx k) b e ?_ (r.eraseIdx k) ?_,a,q⟩
 ·show its.toArray.eraseIdxIfInBounds k=(its.eraseIdx k).toArray;rw[WU]
 · have:=lc xs k
   omega
def Mq:R2:=λx y H Q=>∃l b xs a,x=.ref l/\y=.ref b/\H l=some (.lst xs)/\H b=some (.lst a)/\xs.length+a.length<=sizeLine/\∀p,H p=none->Q (.ref p) (upd H p (.lst (xs++a)))
theorem Nw:jI X (binaryOp .Add) Mq:=by
 intro G s Z H x y v u Q I d c h;obtain⟨l,b,xs,o,rfl,rfl,i,j,hz,q⟩:=h;cases d;cases c;obtain⟨z,its,n,r,w,e⟩:=I.lstM i;obtain⟨p,a,t,f,g,m⟩:=I.lstM j;refine PySem.P.add_list e m ?_ (by rw[V3,V3];omega);have k:its.toArray++a.toArray=(its++a).toArray:=by simp
 rw[k];exact⟨.ref _,_,I.lnew (t':=s.toks) (r.append f) (by rw[VQ];omega),rfl,q _ I.fresh⟩
def Rh:R2:=λx y H Q=>∃l k xs,x=.ref l/\y=.int k/\H l=some (.lst xs)/\-(2 ^ 63)<=k/\k<2 ^ 63/\xs.length*k.toNat<=sizeLine/\
 ∀p,H p=none->Q (.ref p) (upd H p (.lst (List.replicate k.toNat xs).flatten))
theorem IW{W:Type}(xs:List W)(k:Nat):(List.replicate k xs).flatten.length=k*xs.length:=by
 induction k with
 |zero=>simp
 |succ k a=>rw[Wn,WF,VQ,a,Nat.succ_mul,Nat.add_comm]
theorem No:jI X (binaryOp .Mult) Rh:=by
 intro G s Z H x y v u Q I w p h;obtain⟨l,k,xs,rfl,rfl,B,D,C,hz,q⟩:=h;cases w;obtain⟨t,rfl⟩:=p;obtain⟨z,its,n,r,A,e⟩:=I.lstM B;have d:its.toArray.size*k.toNat<=sizeLine:=by rw[V3,<-A];exact hz
 have g:¬ its.toArray.size*k.toNat>(2 ^ 63-1) / 8:=by
  have:(sizeLine:Nat)<=(2 ^ 63-1) / 8:=by decide
  omega
 have f:¬ (!Builtin.List.listFitsIndex k)=true:=by
  rw[fitsIndex_both D C];exact V1
 have b:¬ Builtin.List.listTooLong (its.toArray.size*k.toNat)=true:=by
  rw[DD d];exact V1
 have c:List.foldl (λj i=>j++i) #[] (List.replicate (if its.toArray.isEmpty=true then 0 else k.toNat) its.toArray)=(List.replicate k.toNat its).flatten.toArray:=by
  have E:∀m:Nat,List.foldl (λj i=>j++i) #[] (List.replicate m its.toArray)=(List.replicate m its).flatten.toArray:=λm=>by
   have:=qC its m []
   rw[List.nil_append]at this;exact this
  rw[E];cases its with
  |nil=>simp
  |cons a J=>rw[on (by simp)]
 refine wpAny_binaryOp_repeat_ref (T := "list") (U := "int") (by decide) ⟨_,e,rfl⟩ (λo=>typeIs_int o k t) noFill_list_mul F.fills_int_mul F.slot_int_rmul repeat_list F.slot_int_index.lookup
  (YH F.slot_int_rmul (typeIs_int s k t) F.entry_int_rmul (F.args_int_rmul_2 _ _) (int___rmul___int_list k t l its.toArray n)
    ⟨e,rfl,⟨_,e,rfl⟩,YH F.slot_list_mul ⟨_,e,rfl⟩ F.entry_list_mul (F.args_list_mul_2 _ _) (AutoListH.list___mul___list_int_3 l its.toArray n k t f g b) ⟨e,?_⟩⟩)
 rw[c];exact⟨.ref _,_,I.lnew (t':=s.toks) (r.rep k.toNat) (by rw[IW,Nat.mul_comm];exact hz),rfl,q _ I.fresh⟩
end
end L2
namespace Att
open PySem PySem.W PySem.Calls PyProof.Rows
theorem mB{P:Params}{h:Heap}:∀(ns:List Int) (vs:List Value),WellAll P h vs (ns.map WData.int)->IntsAre vs ns:=by
 intro ns
 induction ns with
 |nil=>
   intro vs w;rw[WO]at w;cases w;exact .nil
 |cons n ns c=>
   intro vs w;rw[VN]at w;cases w with
   |cons a b=>
     cases a;exact .cons _ _ (c _ b)
theorem Ao{l:OpenLaw}{n:Nat}(u:l.most=some n){P:Params}{h:Heap}{args:List WData}{b:List Value}
 (c:l.row.toRowW.claim.pre args=true) (j:WellAll P h b args):
 ∃a vs ns,b=[Value.ref a]/\args=[WData.list (ns.map WData.int)]/\h.get? a=some {cls:=.type "list",data:=.seq vs.toArray}/\IntsAre vs ns/\ns.length<=n:=by
 have k:WShape.hasAll [] args [.list .int]=true:=(pre_splitW c).1;have m:l.pre.holds [] {args:=args}=true:=(pre_splitW c).2;obtain⟨d,r,rfl,x,w⟩:=hasAllW_cons k;obtain rfl:=hasAllW_nil w;obtain⟨xs,rfl,v⟩:=hasW_list x;obtain⟨ns,rfl⟩:=items_int v
 have e:ns.length<=n:=by
  unfold OpenLaw.pre at m
  have i:(WTm.not (.lt (.lit (.int (n:Int))) (.len (.arg 0)))).holds [] {args:=[.list (ns.map .int)]}=true:=by
   have i:=(holds_andW m).1;rw[u]at i;exact i
  have g:=condW_of i (w_not (w_lt w_lit (w_len_list (w_arg rfl))));rw[VO]at g;refine Nat.le_of_not_lt λq=>?_;have s:(n:Int)<((ns.length:Nat):Int):=by omega
  first
   |(rw[Wv s]at g;exact absurd g (by decide))
   |(simp at g;omega)
 cases j with
 |cons p o=>
   cases o;cases p with
   |list t f=>exact⟨_,_,ns,rfl,rfl,t,mB ns _ f,e⟩
theorem Aw(l:OpenLaw)(args:List WData):l.row.toRowW.claim.post args (.bool true) args=true:=
 postW_of (r:=l.row.toRowW) (X:=(true==true))
  (show WShape.has [] (.bool true) .bool=true by first | rfl | decide | simp[WShape.has,WShape.arms,WShape.armsAll])
  (show(WTm.eq .res (.lit (.bool true))).value [] {args:=args,res:=some (.bool true),after:=args}=some (.bool (true==true)) from w_eq_bool (w_res rfl) w_lit) rfl
theorem vE{l:OpenLaw}{n:Nat}{q:Program}{loose:List Str}{XP:(Str->Option Value)->Heap->Prop}{A:World->Heap->Prop}{d:DefRec}
 (E:l.most=some n) (u:d.params.defaults=[])
 (call:∀(w:World) (s₀ b:Shared) (mg p:Str->Option Value) (j:Addr) (o:Obj) (pm m e:Value) (a:Addr) (vs:List Value) (ns:List Int),
   Ground q loose [] XP w s₀ mg p b.heap->A w b.heap->
   b.heap.get? j=some o->o.data=.func (docDef d.name d.params d.body d.scope pm m e)->b.heap.CodeRec m d.name->mg d.name=some (.ref j)->
   b.heap.get? a=some {cls:=.type "list",data:=.seq vs.toArray}->IntsAre vs ns->ns.length<=n->b.gens=#[]->
   codeAny (model l.prog w) callerA (.call (.ref j) ⟨[.ref a],[]⟩) (λr k=>r=.ok (.ret (.bool true))/\OldK b.heap k.heap/\k.os=b.os/\AllBare k.gens) b):
 WalkO q loose XP A l.row.toRowW d [] (λf vs=>PySem.call f vs):=by
 intro w s₀ b mg p G Y j o pm m e M kV D hd v z t I args x N g y B s H;obtain rfl:M=.none:=Dflts.none z u;obtain rfl:kV=.none:=Dflts.noKw z;obtain⟨a,vs,ns,rfl,rfl,h,c,i⟩:=Ao E g s;refine enter_call (YC (call w s₀ b mg p j o pm m e a vs ns G Y D (fd_plain hd) v t h c i I) λr k C=>?_);obtain⟨rfl,L,K,J⟩:=C;exact⟨.inl ⟨.bool true,.bool true,[],rfl,λ_=>rfl,.bool true,Aw l _,λ_=>⟨List.Pairwise.nil,λ_ F=>(nomatch F)⟩⟩,L,K,J⟩
end Att
namespace L2
open PySem PySem.Spec PyProof.Rows
theorem pZ:∀{vs:List Value} {ns:List Int},IntsAre vs ns->Vals (ns.map V.int) vs
 |_,_,.nil=>.nil
 |_,_,.cons n t h=>.cons ⟨t,rfl⟩ (pZ h)
abbrev Tbs:=List (Addr×Pos×Str)
def Tbs.at(T:Tbs)(b:Addr):List (Pos×Str):=(T.filter λp=>p.1==b).map (·.2)
def Tbs.ok(T:Tbs):Prop:=∀y∈T,∀z∈T,y.2.1.line=z.2.1.line->y.2.1.col=z.2.1.col->y.2.2=z.2.2
theorem Tbs.mem{T:Tbs}{b:Addr}{y:Pos×Str}:y∈T.at b↔(b,y)∈T:=by
 unfold Tbs.at;simp only[List.mem_map,List.mem_filter,beq_iff_eq];constructor
 ·rintro⟨⟨c,x⟩,⟨e,d⟩,a⟩;dsimp only at d a;subst d a;exact e
 ·intro h;exact⟨(b,y),⟨h,rfl⟩,rfl⟩
def GA(T:Tbs)(H:Hp):Prop:=(∀p∈T,H p.1=some (.tbl (T.at p.1)))/\∀b,H b=none\/(∃o xs,H b=some (.frz o (.lst xs)))\/H b=some (.tbl (T.at b))
theorem E1{P:Program}{w:World}{K:F0}{mg mb:Str->Option Value}{CX:BE}{k:Nat}{fa a:Addr}{fd:FuncData}{x:Str}{sp:Sp}{f:Shared}{vs:List Value}{ns:List Int}{T:Tbs}
 (KX:K.In f.heap) (Z:f.heap.Ns mainGlobals mg) (i:f.heap.Ns builtinsNs mb) (hbb:∀x:Str,x ≠ "__name__" -> mb x=bootBuiltins x) (hlim:f.heap.NoLimit) (hg:f.gens=#[])
 (hbm:∃G ob,mg "__builtins__" = some (.ref G)/\G≠builtinsNs/\f.heap.get? G=some ob/\ob.cls=.type "module" /\ ob.dict=some builtinsNs/\ob.data=.plain)
 (hT:∀p∈T,∃c,PySem.W.CodeHd f.heap c p.1/\f.heap.get? p.1=some (PySem.W.tabObj #[])) (hTK:∀p∈T,K.lookup p.1=none) (hTo:T.ok)
 (O:f.heap.get? a=some {cls:=.type "list",data:=.seq vs.toArray}) (hi:IntsAre vs ns) (hl:ns.length<=sizeLine) (hr:Room k callerA)
 (F:∀base:Heap,K.In base->base.Ns mainGlobals mg->(∀c P,PySem.W.CodeHd f.heap c P->PySem.W.CodeHd base c P)->FnOk P w K mg base CX k fa fd [x] sp) (L:∀(s:Shared) (u:Value),BindsTo s fd ⟨[u],[]⟩ [(x,u)])
 (hsp:∀H:Hp,GA T H->SqL K H a (ns.map V.int)->sp [.ref a] H (λv _=>v=.bl true) λ_ _ _=>False)
 (hCX:∀H e A,CX [] H f (λ_ _ _=>False) e A->False):
 codeAny (model P w) callerA (.call (.ref fa) ⟨[.ref a],[]⟩) (λr A=>r=.ok (.ret (.bool true))/\OldK f.heap A.heap/\A.os=f.os/\AllBare A.gens) f:=by
 have rv:=pZ hi;have Y:=hi.length
 -- from an Q heap in which X but the D and the tables may be R
 have core:∀H:Hp,GA T H->SqL K H a (ns.map V.int)->HOk P w H f.heap->(∀b,H b≠none->b=a\/∃p∈T,p.1=b)->(H a≠none->K.lookup a=none)->
  codeAny (model P w) callerA (.call (.ref fa) ⟨[.ref a],[]⟩) (λr A=>r=.ok (.ret (.bool true))/\OldK f.heap A.heap/\A.os=f.os/\AllBare A.gens) f:=by
  intro H hO hS hok hA hK;have g:∀{b:Addr} {o:Obj},f.heap.get? b=some o->H b=none->(nG f.heap H).get? b=some o:=λe n=>Fd e n
  have noB:∀{b:Addr} {o:Obj},f.heap.get? b=some o->o≠{cls:=.type "list",data:=.seq vs.toArray}->o≠PySem.W.tabObj #[]->H b=none:=λ{b o} e d1 d2=>by
   cases q:H b with
   |none=>rfl
   |some u=>
     rcases hA b (by rw[q];simp) with j | ⟨p,hp,j⟩
     ·subst j;rw[O]at e;exact absurd (Wa e).symm d1
     ·subst j;obtain⟨_,_,e2⟩:=hT p hp;rw[e2]at e;exact absurd (Wa e).symm d2
  have noA:∀{b:Addr} {o:Obj} {es:Array DictEntry} {ep:Nat},f.heap.get? b=some o->o.data=.dict es ep->H b=none:=λ{b o es ep} e d=>
   noB e (λz=>by rw[z]at d;cases d) (λz=>by rw[z]at d;cases d)
  have E:∀{b:Addr} {m:Str->Option Value},f.heap.Ns b m->(nG f.heap H).Ns b m:=λ{b m} ⟨o,es,ep,e,d,r⟩=>⟨o,es,ep,g e (noA e d),d,r⟩
  have hKb:K.In (nG f.heap H):=λb o e=>g (KX b o e) (by
   cases q:H b with
   |none=>rfl
   |some u=>
     rcases hA b (by rw[q];simp) with j | ⟨p,hp,j⟩
     ·subst j;rw[hK (by rw[q];simp)]at e;cases e
     · subst j
       rw[hTK p hp]at e;cases e)
  have hbm':∃G ob,mg "__builtins__" = some (.ref G)/\G≠builtinsNs/\(nG f.heap H).get? G=some ob/\ob.cls=.type "module" /\ ob.dict=some builtinsNs/\ob.data=.plain:=by
   obtain⟨G,ob,h1,h2,h3,h4,h5,h6⟩:=hbm;exact⟨G,ob,h1,h2,g h3 (noB h3 (λz=>by rw[z]at h6;cases h6) λz=>by rw[z]at h6;cases h6),h4,h5,h6⟩
  have hcd:∀c P,PySem.W.CodeHd f.heap c P->PySem.W.CodeHd (nG f.heap H) c P:=λc P h=>by
   obtain⟨o,vs',file,tf,M,tg,Tb,S,tt,e,B,r⟩:=h;exact⟨o,vs',file,tf,M,tg,Tb,S,tt,g e (noB e (λz=>by rw[z]at B;simp at B) λz=>by rw[z]at B;simp at B),B,r⟩
  have hM:Mod K mg (nG f.heap H):=⟨hKb,E Z,⟨mb,E i,hbb⟩,(let ⟨mc,h1,h2⟩:=hlim;⟨mc,E h1,h2⟩),hbm'⟩;have e0:Env0 P w K mg (nG f.heap H) callerA [] f H:=⟨rfl,hM,λb o e=>Iu e,Nat.le_of_eq (Bb _ _),trivial,λb i=>absurd (show b∈([]:List Addr) from i) (by simp),hok,.of_eq hg⟩;refine YC ((F _ hKb (E Z) hcd).run callerA [] f H ⟨[.ref a],[]⟩ [.ref a] [.ref a] _ _ hr e0 (L f (.ref a)) (.cons rfl .nil) (hsp H hO hS)) λr A h=>?_;cases r with
  |error e=>exact(hCX H e A h).elim
  |ok fl=>
    cases fl with
    |next=>exact False.elim h
    |brk=>exact False.elim h
    |cont=>exact False.elim h
    |ret u=>
      obtain⟨v,H',os,bare,un,I,r',q⟩:=h;have q':v=.bl true:=q;subst q';obtain rfl:u=Value.bool true:=r';refine⟨rfl,⟨λb o e=>?_,λb o e=>un.there b o e (by simp)⟩,os,bare⟩;cases q:H b with
      |none=>exact .inl (un.keep b o e q (by intro z;exact absurd (show b∈([]:List Addr) from z) (by simp)) (by simp))
      |some u=>
        rcases hO.2 b with z|⟨ob,xs,z⟩|z
        ·rw[q]at z;cases z
        ·have z2:=un.frzs b ob _ z;obtain⟨e1,_⟩:=hok b _ z;obtain⟨e2,_⟩:=I b _ z2;rw[e]at e1;cases e1;exact .inl e2
        · have z2:=(un.tbls b _ z).1;obtain⟨_,ps,e2,_⟩:=I b _ z2
          have hb':∃p∈T,p.1=b:=by
           rcases hA b (by rw[q];simp) with j | j
           ·subst j;obtain⟨_,ps',l,_⟩:=hok b _ z;rw[O]at l;cases l
           ·exact j
          obtain⟨p,hp,j⟩:=hb';obtain⟨c,B,l⟩:=hT p hp;rw[j]at l B;rw[e]at l;cases l;refine .inr (.inl ⟨(B.tab (ps:=#[]) e).isCodeTable,rfl,#[],ps,rfl,?_⟩);rw[e2];simp
 have t:∀(H:Hp) (b:Addr),(∃p∈T,p.1=b)->ObjOk P w H f.heap b (.tbl (T.at b)):=λH b ⟨p,hp,e⟩=>by
  obtain⟨c,B,l⟩:=hT p hp;rw[e]at l;exact⟨λy hy z hz h1 h2=>hTo _ (Tbs.mem.mp hy) _ (Tbs.mem.mp hz) h1 h2,#[],l,trivial,λy hy=>.inl rfl⟩
 have J:∀p∈T,p.1≠a:=λp hp z=>by
  obtain⟨c,B,l⟩:=hT p hp;rw[z,O]at l;cases l
 cases hk:K.lookup a with
 |some o=>
   -- the D is one of the N own U
   have e:=KX a o hk;rw[O]at e;cases e;have hTa:¬ ∃p∈T,p.1=a:=λ⟨p,hp,z⟩=>J p hp z;have dec:∀b,Decidable (∃p∈T,p.1=b):=λb=>Classical.propDecidable _;refine core (λb=>if ∃p∈T,p.1=b then some (.tbl (T.at b)) else none) ⟨λp hp=>VL ⟨p,hp,rfl⟩,λb=>?_⟩ (.inr ⟨_,vs.toArray,_,hk,rfl,rfl,rfl,by rw[V3,Y];exact hl,by simpa using rv⟩) (λb u z=>?_) (λb z=>?_) λz=>absurd (on hTa) z
   · by_cases h:∃p∈T,p.1=b
     ·exact .inr (.inr (VL h))
     ·exact .inl (on h)
   · by_cases h:∃p∈T,p.1=b
     ·have C:=(VL h).symm.trans z;cases C;exact t _ b h
     ·have C:=(on h).symm.trans z;cases C
   · by_cases h:∃p∈T,p.1=b
     ·exact .inr h
     ·exact absurd (on h) z
 |none=>
   have dec:∀b,Decidable (∃p∈T,p.1=b):=λb=>Classical.propDecidable _;have hTa:∀{b},(∃p∈T,p.1=b)->b≠a:=λ⟨p,hp,z⟩ e=>J p hp (z.trans e);refine core (λb=>if b=a then some (.frz {cls:=.type "list",data:=.seq vs.toArray} (.lst (ns.map V.int))) else if ∃p∈T,p.1=b then some (.tbl (T.at b)) else none) ⟨λp hp=>(on (J p hp)).trans (VL ⟨p,hp,rfl⟩),λb=>?_⟩ (.inl (.inr ⟨{cls:=.type "list",data:=.seq vs.toArray},VL rfl⟩)) (λb u z=>?_) (λb z=>?_) λ_=>hk
   · by_cases i:b=a
     ·exact .inr (.inl ⟨_,_,VL i⟩)
     · by_cases h:∃p∈T,p.1=b
       ·exact .inr (.inr ((on i).trans (VL h)))
       ·exact .inl ((on i).trans (on h))
   · by_cases i:b=a
     ·have C:=(VL i).symm.trans z;cases C;subst i;exact⟨O,by rw[VO];exact hl,vs,_,rv,O⟩
     · by_cases h:∃p∈T,p.1=b
       ·have C:=((on i).trans (VL h)).symm.trans z;cases C;exact t _ b h
       ·have C:=((on i).trans (on h)).symm.trans z;cases C
   · by_cases i:b=a
     ·exact .inl i
     · by_cases h:∃p∈T,p.1=b
       ·exact .inr h
       ·exact absurd ((on i).trans (on h)) z
abbrev Tns:=List (Str×Pos×Str)
structure TabsOf (mg:Str->Option Value) (h:Heap) (N:Tns) (T:Tbs):Prop where
 all:∀n∈N,∃P,(P,n.2)∈T/\∃a o fd c,mg n.1=some (.ref a)/\h.get? a=some o/\o.data=.func fd/\fd.code=.ref c/\PySem.W.CodeHd h c P
theorem p5{p:Program}{loose:List Str}{b:ExcName->Option Value}{mg s:Str->Option Value}{h:Heap}(l:PyProof.Rows.Top p loose b mg s h):∀(N:Tns),(∀n∈N,n.1∈(PyProof.Rows.recsOf p).map (·.name))->
 ∃T:Tbs,TabsOf mg h N T/\(∀q∈T,∃c,PySem.W.CodeHd h c q.1/\h.get? q.1=some (PySem.W.tabObj #[]))/\∀q∈T,∃n∈N,n.2=q.2
 |[],_=>⟨[],⟨λ_ h=>nomatch h⟩,λ_ h=>(nomatch h),λ_ h=>(nomatch h)⟩
 | n::N,j=>by
   obtain⟨T,w,v,u⟩:=p5 l N λm f=>j m (VR _ f);obtain⟨d,hd,e⟩:=We.mp (j n VP);obtain⟨a,o,fd,c,P,e1,B,A,y,x,k⟩:=l.tab d hd;have i:=PySem.W.CodeHd.of x k;refine⟨(P,n.2)::T,⟨λm f=>?_⟩,λq g=>?_,λq g=>?_⟩
   · rcases VY.mp f with z|z
     ·subst z;exact⟨P,VP,a,o,fd,c,by rw[<-e];exact e1,B,A,y,i⟩
     ·obtain⟨C,t,r⟩:=w.all m z;exact⟨C,VR _ t,r⟩
   · rcases VY.mp g with z|z
     ·subst z;exact⟨c,i,k.2⟩
     ·exact v q z
   · rcases VY.mp g with z|z
     ·subst z;exact⟨n,VP,rfl⟩
     ·obtain⟨m,f,e⟩:=u q z;exact⟨m,VR _ f,e⟩
def Tns.ok(N:Tns):Prop:=∀y∈N,∀z∈N,y.2.1.line=z.2.1.line->y.2.1.col=z.2.1.col->y.2.2=z.2.2
def DF(K:F0):Bool:=K.all λp=>match p.2.cls,p.2.data with
 |.none,.fields vs=>!vs.isEmpty
 |_,_=>true
theorem nk{W:Type}:∀{K:List (Nat×W)} {b:Nat} {o:W},K.lookup b=some o->(b,o)∈K
 | (c,x)::r,b,o,h=>by
   rw[Wp]at h;by_cases z:b=c
   ·subst z;rw[Xb]at h;cases h;exact VP
   ·rw[beq_false_of_ne z]at h;exact VR _ (nk h)
theorem pL{K:F0}{h:Heap}{b:Addr}(X:K.In h)(c:DF K=true)(e:h.get? b=some (PySem.W.tabObj #[])):K.lookup b=none:=by
 cases q:K.lookup b with
 |none=>rfl
 |some o=>
   have a:=X b o q;rw[e]at a;cases a
   have:=WW.mp c (b,PySem.W.tabObj #[]) (nk q)
   cases this
theorem GP{l:PySem.W.OpenLaw}{n k:Nat}{q:Program}{loose:List Str}{XP:(Str->Option Value)->Heap->Prop}{YP:World->Heap->Prop}{d:DefRec}{K:Params->F0}{CX:World->BE}{sp:World->Tbs->Sp}{x:Str}(N:Tns)
 (hn:l.most=some n) (I:n<=sizeLine) (O:d.params.defaults=[]) (hr:Room k callerA)
 (hY:∀(w:World) (h:Heap),YP w h->(K w.params).In h) (hK:∀w:World,N≠[]->DF (K w.params)=true) (hN:∀n∈N,n.1∈(PyProof.Rows.recsOf q).map (·.name)) (R:Tns.ok N)
 (F:∀(w:World) (mg:Str->Option Value) (C:Addr) (h:Heap) (T:Tbs),(K w.params).In h->h.Ns mainGlobals mg->mg d.name=some (.ref C)->TabsOf mg h N T->
   ∃fd:FuncData,(∀(s:Shared) (u:Value),BindsTo s fd ⟨[u],[]⟩ [(x,u)])/\
    ∀base:Heap,(K w.params).In base->base.Ns mainGlobals mg->(∀c P,PySem.W.CodeHd h c P->PySem.W.CodeHd base c P)->FnOk l.prog w (K w.params) mg base (CX w) k C fd [x] (sp w T))
 (E:∀(w:World) (T:Tbs) (H:Hp) (a:Addr) (ns:List Int),ns.length<=n->GA T H->SqL (K w.params) H a (ns.map V.int)->sp w T [.ref a] H (λv _=>v=.bl true) λ_ _ _=>False)
 (S:∀(w:World) (H:Hp) (s:Shared) (e:Value) (D:Shared),CX w [] H s (λ_ _ _=>False) e D->False):
 PySem.W.WalkO q loose XP YP l.row.toRowW d [] (λf vs=>PySem.call f vs):=by
 refine Att.vE hn O λw s₀ t mg mb C o pm cd doc a vs ns G Y ho hd hcd J A j i hg=>?_;have X:=hY w _ Y;obtain⟨T,Q,B,r⟩:=p5 G.T N hN;obtain⟨fd,hb,hF⟩:=F w mg C _ T X G.T.g J Q;refine E1 (T:=T) X G.T.g G.T.b G.T.builtins G.T.nolimit hg G.T.bmain B (λp hp=>?_) (λy hy z hz h1 h2=>?_) A j (Wl i I) hr hF hb (λH hO hS=>E w T H a ns i hO hS) λH e D=>S w H t e D
 ·obtain⟨c,_,e⟩:=B p hp;obtain⟨m,Z,_⟩:=r p hp;exact pL X (hK w (λz=>by rw[z]at Z;cases Z)) e
 ·obtain⟨m1,M,e1⟩:=r y hy;obtain⟨m2,L,U⟩:=r z hz;rw[<-e1,<-U];exact R m1 M m2 L (by rw[e1];exact h1 |>.trans (by rw[U])) (by rw[e1];exact h2 |>.trans (by rw[U]))
def iY(s:Stmt):Arguments:=match s with
 |.FunctionDef _ a _ _ _ _ _ _ _ _=>a
 |_=>{posonlyargs:=[],args:=[],vararg:=none,kwonlyargs:=[],kw_defaults:=[],kwarg:=none,defaults:=[]}
def cM(s:Stmt):List Stmt:=match s with
 |.FunctionDef _ _ b _ _ _ _ _ _ _=>b
 |_=>[]
def a6(s:Stmt):Scope:=match s with
 |.FunctionDef _ _ _ _ _ _ sc _ _ _=>sc
 |_=>{kind:=.function,names:=[],isGenerator:=false,isCoroutine:=false}
abbrev tj:BE:=λ_ _ _ _ _ _=>False
abbrev E0:XK:=λ_ _ _=>False
theorem yq{X:Cx}:jH tj X E0:=λ_ _ _ _ _ _ _ h=>h.elim
structure Fun (K:F0) (x qual:Str) (st:Stmt) (f:Addr) (fd:FuncData):Prop where
 ex:∃(oc:Value) (od:Option Addr) (kV doc pm:Value) (an:Option Addr) (cdv ct:Value) (osl:Array (Option Value)),
  fd=PySem.W.fnOf x qual (iY st) (cM st) (a6 st) .none kV doc pm an cdv ct/\K.lookup f=some ⟨oc,od,.func fd,osl⟩/\PySem.W.codeIn K cdv qual=true
 kp:PySem.W.keepIn K (.ref f)=true
section
variable{P:Program}{w:World}{K:F0}{mg:Str->Option Value}{base:Heap}
theorem Fun.ok{x qual:Str}{st:Stmt}{f:Addr}{fd:FuncData}{N ps:List Str}{k:Nat}{sp:Sp}(F:Fun K x qual st f fd)(S:FnScope N ps (a6 st))(len:∀vs H Q E,sp vs H Q E->vs.length=ps.length)
 (b:∀(a:Value) (A:Around) (outer:List Env) (s:Shared) (H:Hp) (vs:List V) (Q:VK) (E:XK),Room k (A.deeper (envOfC qual (a6 st) s.heap.objs.size f a))->sp vs H Q E->
   ∃t,PSs (uG tj P w K mg base N qual (a6 st) f a A outer s H E).nox (cM st) t/\t {nx:=λ_ H'=>Q .non H',rt:=Q} (gY N vs) H):FnOk P w K mg base tj (k+1) f fd ps sp:=by
 obtain⟨oc,j,kV,i,pm,an,a,ct,e,rfl,lk,d⟩:=F.ex;refine fn_of lk d S len λA outer s H vs Q E g c=>?_;obtain⟨t,h,q⟩:=b a A outer s H vs Q E g c;exact⟨t,h.nox,q⟩
theorem Fun.binds{x qual:Str}{st:Stmt}{f:Addr}{fd:FuncData}{ps:List Str}(F:Fun K x qual st f fd)
 (h:∀(kV a pm:Value) (an:Option Addr) (b ct:Value) (us:List Value),us.length=ps.length->bindArgs (PySem.W.fnOf x qual (iY st) (cM st) (a6 st) .none kV a pm an b ct) ⟨us,[]⟩=pure (ps.zip us)):Binds K fd ps []:=by
 obtain⟨oc,e,kV,a,pm,an,b,ct,c,rfl,lk,d⟩:=F.ex;exact .all (h kV a pm an b ct)
theorem O3{x qual:Str}{st:Stmt}{f:Addr}{oc:Value}{e an:Option Addr}{d:Array (Option Value)}{kV b pm a ct:Value}(l:K.lookup f=some ⟨oc,e,.func (PySem.W.fnOf x qual (iY st) (cM st) (a6 st) .none kV b pm an a ct),d⟩)
 (c:PySem.W.codeIn K a qual=true) (k:PySem.W.keepIn K (.ref f)=true):Fun K x qual st f (PySem.W.fnOf x qual (iY st) (cM st) (a6 st) .none kV b pm an a ct):=⟨⟨oc,e,kV,b,pm,an,a,ct,d,rfl,l,c⟩,k⟩
end
theorem Td{A:Around}{k:Nat}(a:Room k A):A.units+1<cLine:=Xx (Nat.add_le_add_left (by decide:1<=64) _) a.units
section
variable{X:Cx}
theorem pv(i:Nat){x:Str}{pos:Pos}(c:X.N[i]?=some x:=by rfl)(b:UM X.env.scope x:=by first | exact Or.inl rfl | exact Or.inr (Or.inl rfl) | exact Or.inr (Or.inr rfl))(hd:(x == ("__debug__" : Str))=false:=by decide)
 (a:(x==("__classdict__" : Str))=false:=by decide):PE X (.Name x pos) (cF i):=MP c b hd a
end
def Same(H H':Hp):Prop:=∀b o,H b=some o->H' b=some o
theorem Same.refl(H:Hp):Same H H:=λ_ _ h=>h
theorem Same.trans{H H1 d:Hp}(a:Same H H1)(b:Same H1 d):Same H d:=λc o h=>b c o (a c o h)
theorem Same.free{H H':Hp}(e:Same H H'){l:Addr}(h:H' l=Option.none):H l=Option.none:=by
 cases q:H l with
 |none=>rfl
 |some o=>
   rw[e l o q]at h;cases h
def cj(env:Env):List (Str×NameKind)->List (Str×Addr)->List (Str×Addr)
 |[],acc=>acc
 |(n,k)::r,acc=>if (k==NameKind.free)=true then cj env r ((n,(env.cells.lookup n).getD 0)::acc) else cj env r acc
theorem gS{env:Env}{y:Str}{c:Addr}:∀{l:List (Str×NameKind)} {acc:List (Str×Addr)},(∀z∈l,z.2=.free->∃c,env.cells.lookup z.1=some c)->(cj env l acc).lookup y=some c->
 acc.lookup y=some c\/env.cells.lookup y=some c
 |[],acc,_,h=>.inl h
 | (n,k)::r,acc,a,h=>by
   unfold cj at h;split at h
   · rename_i d;rcases gS (λz hz=>a z (VR _ hz)) h with e|e
     · by_cases q:(y==n)=true
       · have f:y=n:=by simpa using q
         subst f;obtain⟨g,b⟩:=a (y,k) List.mem_cons_self (by simpa using d);dsimp only at b;rw[List.lookup_cons,beq_self_eq_true,b]at e;exact .inr (b.trans e)
       ·rw[Bool.not_eq_true]at q;rw[Wp,q]at e;exact .inl e
     ·exact .inr e
   ·exact gS (λz hz=>a z (VR _ hz)) h
theorem gT{env:Env}{y:Str}:∀{l:List (Str×NameKind)} {acc:List (Str×Addr)},((y,NameKind.free)∈l\/∃c,acc.lookup y=some c)->∃c,(cj env l acc).lookup y=some c
 | [],acc,h=>by
   rcases h with h|h
   ·cases h
   ·exact h
 | (n,k)::r,acc,h=>by
   unfold cj;split
   · rename_i a;refine gT ?_;by_cases q:(y==n)=true
     ·exact .inr ⟨_,by rw[Wp,q]⟩
     · rw[Bool.not_eq_true]at q;rcases h with h|⟨c,h⟩
       · rcases VY.mp h with e|e
         ·cases e;rw[Xb]at q;cases q
         ·exact .inl e
       ·exact .inr ⟨c,by rw[Wp,q];exact h⟩
   · rename_i a;refine gT ?_;rcases h with h|h
     · rcases VY.mp h with e|e
       ·cases e;exact absurd (by rfl) a
       ·exact .inl e
     ·exact .inr h
theorem il{scope:Scope}{env:Env}{y:Str}{k:NameKind}(h:(relabel scope env).names.lookup y=some k):∃a,(y,a)∈scope.names/\(a=k\/(a=.free/\k=.cell)):=by
 obtain⟨⟨n,d⟩,b,e⟩:=List.mem_map.mp (PySem.mem_of_lookup h);dsimp only at e;split at e
 ·rename_i c;simp only[Xr,Yd]at c;cases e;exact⟨d,b,.inr ⟨c.1.1,rfl⟩⟩
 ·cases e;exact⟨_,b,.inl rfl⟩
structure CompSc (osc sc:Scope) (x:Str) (cs:List Str):Prop where
 kind:sc.kind=.function
 cell:∀y∈sc.names,y.2≠ .cell
 loc:∀y∈sc.names,y.2=.local->sc.names.lookup y.1=some .local
 var:sc.names.lookup x=some .local
 cap:∀y∈cs,(osc.names.lookup y=some .cell\/osc.names.lookup y=some .free)/\sc.names.lookup y=some .free
 free:∀y∈sc.names,y.2=.free->osc.names.lookup y.1=some .cell\/osc.names.lookup y.1=some .free
 nd:(x::cs).Nodup
def lD(X:Cx)(scope:Scope)(b:List (Str×Addr))(C:Addr)(N:List Str)(a:List Addr)(s₀:Shared)(H₀:Hp):Cx where
 prog:=X.prog
 w:=X.w
 K:=X.K
 mg:=X.mg
 base:=X.base
 A:=X.A
 N:=N
 s₀:=s₀
 H₀:=H₀
 env:=compEnvC scope b C X.env
 outer:=X.stack
 stack:=X.stack
 ex:=a
 fn:=λ_=>false
 calm:=X.calm
 pn:=[]
 xe:=λ_ _=>False
def ig(Z:St)(a:List Nat):St:=a.map λj=>(Z[j]?).join
section
variable{X:Cx}{G:L9}{Z:St}{H:Hp}{s:Shared}{scope:Scope}{x:Str}{cs:List Str}{ix:List Nat}{fp:List Addr}
theorem vn(I:Inv X G Z H s)(a:CompSc X.env.scope scope x cs):∀y∈scope.names,y.2=.free->∃c,X.env.cells.lookup y.1=some c:=λy b d=>I.ok.has _ (a.free y b d)
theorem Fa{g:Heap}{t₁:Nat}{V:Str->Option Value}(I:Inv X G Z H s)(n:CompSc X.env.scope scope x cs)(D:ix.map (λi=>X.N[i]?)=cs.map some)(L:∀b∈fp,pF X G H b)
 (Q:∀b∈fp,b<s.heap.objs.size) (hn:g.Ns s.heap.objs.size V) (K:∀b o,s.heap.get? b=some o->g.get? b=some o):
 Inv (lD X scope (cj X.env scope.names []) s.heap.objs.size (x::cs) fp s H) [] (none::ig Z ix) H {s with heap:=g,toks:=t₁}:=by
 have U:=vn I n
 have d:∀y c,(cj X.env scope.names []).lookup y=some c->X.env.cells.lookup y=some c:=λy c e=>by
  rcases gS U e with z|z
  ·cases z
  ·exact z
 have t:ix.length=cs.length:=by
  have:=congrArg List.length D
  rwa [VO,VO]at this
 refine⟨⟨I.ok.mod,n.kind,I.ok.glob,I.ok.blt,V2 _,λy z c S E=>I.ok.inj y z c (d y c S) (d z c E),λy hy=>?_,λy c h=>(nomatch h),I.ok.hd,I.ok.frames,.inl rfl,λb A=>⟨Wk (Q b A),λy c e=>(L b A).2.2.2.2.1 y c (d y c e)⟩,
  I.bs,Wl I.ok.bsz I.sz,λb o e A=>?_,λb A R=>?_,I.stack,I.stkFree⟩,rfl,I.bare,Un.kept K,⟨V,hn,λi y v S E h3=>?_⟩,λy c e=>?_,I.hok.fresh (V2 _),λy c e=>I.freeC y c (d y c e),λp hp=>absurd (show p∈([]:L9) from hp) (by simp),I.hok.kept K,?_⟩
 · have O:(relabel scope X.env).names.lookup y=some .cell\/(relabel scope X.env).names.lookup y=some .free:=hy
   have:(y,NameKind.free)∈scope.names:=by
    rcases O with q|q
    · obtain⟨Y,B,e|⟨e,_⟩⟩:=il q
      ·subst e;exact absurd rfl (n.cell _ B)
      ·subst e;exact B
    · obtain⟨Y,B,e|⟨_,e⟩⟩:=il q
      ·subst e;exact B
      ·cases e
   exact gT (.inl this)
 · rcases(L b A).2.2.2.1 with z|z
   ·exact I.ok.noex b o e z
   ·exact absurd (Wj (VZ e) (Wl I.ok.bsz z)) (WI _)
 · rcases VY.mp (I.stkSub b R) with z|z
   ·exact(L b A).2.1 z
   ·exact(L b A).2.2.1 z
 · -- a C name
   cases i with
   |zero=>
     have:(none::ig Z ix:St)[0]?=some none:=rfl
     rw[this]at E;cases E
   |succ j=>
     have F:cs[j]?=some y:=S;have f:(ig Z ix)[j]?=some (some v):=E;unfold ig at f;rw[List.getElem?_map]at f;cases T:ix[j]? with
     |none=>rw[T]at f;cases f
     |some k=>
       rw[T]at f;have M:(Z[k]?).join=some v:=Wa f
       have h5:Z[k]?=some (some v):=by
        cases e:Z[k]? with
        |none=>rw[e]at M;cases M
        |some w=>rw[e]at M;exact congrArg some M
       have h6:X.N[k]?=some y:=by
        have q:=congrArg (λl=>l[j]?) D;simp only[V9,T,F,XB]at q;exact Wa q
       obtain⟨c1,c2⟩:=n.cap y (Wz F);obtain⟨m,hn',hl⟩:=I.loc;obtain⟨u,r,l⟩:=hl k y v h6 h5 (c1.elim (λz=>.inr (.inl z)) λz=>.inr (.inr z));refine⟨u,r,?_⟩;rcases l with ⟨l,_⟩|⟨_,c,ec,hc⟩
       ·have W:X.env.scope.names.lookup y=some .local:=l;rcases c1 with z|z<;>(rw[z]at W;cases W)
       · obtain⟨c',J⟩:=gT (env:=X.env) (y:=y) (l:=scope.names) (acc:=[]) (.inl (W6 c2));have e':=d y c' J;rw[ec]at e';cases e';refine .inr ⟨?_,c,J,?_⟩
         · rcases h3 with z|z|z
           · have z':(relabel scope X.env).names.lookup y=some .local:=z;obtain ⟨Y,B,e | ⟨_,e⟩⟩:=il z'
             · subst e
               have:=n.loc _ B rfl
               dsimp only at this;rw[c2]at this;cases this
             ·cases e
           ·exact .inl z
           ·exact .inr z
         ·obtain⟨o,P,hd⟩:=hc;exact⟨o,K c o P,hd⟩
 ·obtain⟨v,o,P,hd⟩:=I.cell y c (d y c e);exact⟨v,o,K c o P,hd⟩
 ·show(none::ig Z ix:St).length=(x::cs).length;rw[VV,VV,ig,VO,t]
end
def QG(X:Cx)(a:List Expr)(t:TT):Prop:=
 ∀(G:L9) (s:Shared) (Z:St) (H:Hp) (Q:Bool->Hp->Prop),Inv X G Z H s->t Z H Q->
  wpAny (model X.prog X.w) X.A (forIn a true λc r=>if r=true then do let ok <-isTrue c X.env (eval c X.env);pure (ForInStep.yield ok) else pure (ForInStep.yield r)) (TP X G Z Q) X.xe s
def LL:TT:=λ_ H Q=>Q true H
theorem HA{X:Cx}:QG X [] LL:=λ_ _ _ H _ I h=>wpAny_tests_nil ⟨H,I,h⟩
theorem Hz{X:Cx}{c:Expr}{t:TT}(h:PT X c t):QG X [c] t:=λG s Z H Q I a=>wpAny_tests_one (h G s Z H Q I a)
section
variable{prog:Program}{w:World}{A:Around}{R:Result->Shared->Prop}{s:Shared}
theorem vm{o a iter:Expr}{k:List Expr}{scope:Scope}{pos:Pos}{B acc:Value}{env:Env}(I:Nat->Shared->Prop)
 (p:∀n s,I n s->wpAny (model prog w) A (pyNext B) (λr b=>match r with
   |none=>R (.ok .next) b
   |some v=>wpAny (model prog w) A (letOwnedTupleGo a B v) (λ_ b=>wpAny (model prog w) A (assign a env v) (λ_ g=>
      wpAny (model prog w) A (forIn k true λc r=>if r=true then do let ok <-isTrue c env (eval c env);pure (ForInStep.yield ok) else pure (ForInStep.yield r)) (λok d=>
       if ok=true then wpAny (model prog w) A (eval o env) (λx f=>
        wpAny (model prog w) A (call (.builtin "list.append") [acc,x]) (λ_ e=>∃m,m<n/\I m e) (λ_ _=>False) f) (λ_ _=>False) d
       else ∃m,m<n/\I m d) (λ_ _=>False) g) (λ_ _=>False) b) (λ_ _=>False) b) (λ_ _=>False) s)
 (n:Nat) (h:I n s):codeAny (model prog w) A (.compLoop (.ListComp o [⟨a,iter,k,0⟩] scope pos) 0 B acc env) R s:=by
 refine codeAny_loop rfl I (λn s D=>?_) n h;have up:∀{W:Type} {t:Sem W} {Q:W->Shared->Prop} {E:LV} {s:Shared},wpAny (model prog w) A t Q (λ_ _=>False) s->wpAny (model prog w) A t Q E s:=λh=>XZ h (λ_ _ z=>z) λ_ _ z=>z.elim;show wpAny _ A ((compTurn (.ListComp o [⟨a,iter,k,0⟩] scope pos) 0 B acc env).onRaise _) _ _ s;refine wpAny_noted (up ?_);rw[compTurn_list];refine VM (wpAny_standAt (VM (bb (p n s D) λr b j=>?_)));cases r with
 |none=>exact VX j
 |some v=>
   refine VM (bb j λ_ C l=>VM (bb l λ_ g y=>VM (bb y λok d i=>?_)));cases ok with
   |false=>exact VX ⟨rfl,i⟩
   |true=>exact VM (VM (bb i λx f u=>VM (bb u λ_ e q=>VX (VX ⟨rfl,q⟩))))
end
def GB(J:It)(τ:V->St)(h:TT)(te:TE)(p:Addr)(H1:Hp)(Q:VK):Prop:=
 ∃W:Nat->Nat->List V->Hp->Prop,(∃m,W 0 m [] (upd H1 p (.lst [])))/\∀i m a c,W i m a c->c p=some (.lst a)/\a.length<sizeLine/\
  ((J.stop i c/\Q (.ref p) c)\/(J.go i c/\∀v g,J.yld i c v g->h (τ v) g λb f=>if b=true then te (τ v) f λy e=>e p=some (.lst a)/\∃d,d<m/\W (i+1) d (a++[y]) (upd e p (.lst (a++[y])))
    else ∃d,d<m/\W (i+1) d a f))
def lH(a:TI)(c:List Nat)(b:TT)(te:TE):TE:=λZ H Q=>a Z H λJ H1=>∀p,H1 p=none->GB J (λv=>some v::ig Z c) b te p H1 Q
section
variable{X:Cx}{G:L9}{Z:St}{H:Hp}{s:Shared}{scope:Scope}{x:Str}{px pos:Pos}{cs:List Str}{ix:List Nat}{fp:List Addr}{elt iter:Expr}{ifs:List Expr}{ti:TT}{te:TE}
theorem w8{J:It}{it:Addr}{tn:Nat->Heap->Prop}{Qe:VK}{RR:Value->Addr->Result->Shared->Prop}{E:LV}(Q:X.calm=true)(I2:Inv X G Z H s)(g:CompSc X.env.scope scope x cs)(hix:ix.map (λi=>X.N[i]?)=cs.map some)
 (T:Turn X.prog X.w X.K (.Name x px) J fp it tn) (st0:tn 0 s.heap) (B:∀b∈fp,pF X G H b)
 (hti:∀C fp s₀ H₀,QG (lD X scope (cj X.env scope.names []) C (x::cs) fp s₀ H₀) ifs ti) (hte:∀C fp s₀ H₀,PE (lD X scope (cj X.env scope.names []) C (x::cs) fp s₀ H₀) elt te)
 (hW:∀p,H p=none->GB J (λv=>some v::ig Z ix) ti te p H Qe)
 (hRR:∀p C H' f,Inv X G Z H' f->pF X G H' C->(∃m,f.heap.Ns C m)->Qe (.ref p) H'->RR (.ref p) C (.ok .next) f):
 wpAny (model X.prog X.w) X.A (newList []) (λacc s₃=>wpAny (model X.prog X.w) X.A (newFunctionEnv scope X.env.globals (cj X.env scope.names []) [] X.env.qual none .none (some X.env)) (λL S=>
  codeAny (model X.prog X.w) X.A (.compStart (.ListComp elt [⟨.Name x px,iter,ifs,0⟩] scope pos) 0 (.ref it) acc { L with scope:=relabel scope X.env }) (RR acc L.locals) S) E s₃) E s:=by
 refine wpAny_newObj_type (wpAny_newFunctionEnv g.cell (by intro y hy;simp at hy) (λh k j=>?_) g.kind);dsimp only at k j ⊢;have hD:H s.heap.objs.size=none:=I2.hok.fresh (Nat.le_refl _)
 have I3:Inv X G Z (upd H s.heap.objs.size (.lst [])) {s with heap:=s.heap.push {cls:=.type "list",dict:=none,data:=.seq ([]:List Value).toArray}}:=
  I2.laid (t':=s.toks) (λb u e=>VT _ e) (V2 _) ⟨WP _,[],0,.nil,V8 _ rfl⟩
 obtain⟨W,⟨m0,w0⟩,R⟩:=hW _ hD
 have I:∀b∈fp,b<s.heap.objs.size:=λb a=>by
  obtain⟨o,e,_⟩:=T.obj 0 _ st0 b a;exact VZ e
 have hlt:∀b∈fp,b<(s.heap.push {cls:=.type "list",dict:=none,data:=.seq ([]:List Value).toArray}).objs.size:=λb a=>by
  rw[XG];exact Yo (I b a)
 have hf3:∀b∈fp,pF X G (upd H s.heap.objs.size (.lst [])) b:=λb a=>⟨by rw[ao (Wk (I b a))];exact(B b a).1,(B b a).2⟩
 have kept:∀b o,(s.heap.push {cls:=.type "list",dict:=none,data:=.seq ([]:List Value).toArray}).get? b=some o->h.get? b=some o:=λb o e=>
  j.extBut b o (Wk (VZ e)) (VT _ e)
 have P:∀b o,s.heap.get? b=some o->h.get? b=some o:=λb o e=>kept b o (VT _ e);have I4:=Fa (t₁:=s.toks+([]:List (Str×Value)).length) I3 g hix hf3 hlt k kept;have st4:tn 0 h:=T.keep 0 _ _ st0 λb _ o e=>P b o e
 have F:codeAny (model X.prog X.w) X.A (.compLoop (.ListComp elt [⟨.Name x px,iter,ifs,0⟩] scope pos) 0 (.ref it) (.ref s.heap.objs.size) (compEnvC scope (cj X.env scope.names []) (s.heap.push {cls:=.type "list",dict:=none,data:=.seq ([]:List Value).toArray}).objs.size X.env))
  (RR (.ref s.heap.objs.size) (s.heap.push {cls:=.type "list",dict:=none,data:=.seq ([]:List Value).toArray}).objs.size) {s with heap:=h,toks:=s.toks+([]:List (Str×Value)).length}:=by
  generalize l:lD X scope (cj X.env scope.names []) (s.heap.push {cls:=.type "list",dict:=none,data:=.seq ([]:List Value).toArray}).objs.size (x::cs) fp {s with heap:=s.heap.push {cls:=.type "list",dict:=none,data:=.seq ([]:List Value).toArray}} (upd H s.heap.objs.size (.lst []))=Y at I4;have hti':QG Y ifs ti:=by rw[<-l];exact hti _ _ _ _
  have hte':PE Y elt te:=by rw[<-l];exact hte _ _ _ _
  have hcY:Y.calm=true:=by rw[<-l];exact Q
  have hg:PG Y (.Name x px) (d8 0):=by
   rw [<-l];exact yp g.nd rfl (.inl (lookup_relabel_local g.var)) (.inr (lookup_relabel_local g.var))
  have f4:∀{H':Hp},(∀b∈fp,H' b=none)->∀b∈fp,pF Y [] H' b:=λ{H'} hn b a=>by
   rw[<-l];refine⟨hn b a,Wk (hlt b a),λz=>?_,.inl a,λy c e z=>?_,λp hp=>absurd (show p∈([]:L9) from hp) (by simp)⟩
   · rcases VY.mp (I3.stkSub b z) with q|q
     ·exact(B b a).2.1 q
     ·exact(B b a).2.2.1 q
   · rcases gS (vn I2 g) e with q|q
     ·cases q
     ·exact(B b a).2.2.2.2.1 y c q z
  have fin:∀{D:Option V} {H':Hp} {f:Shared},Inv Y [] (D::ig Z ix) H' f->Qe (.ref s.heap.objs.size) H'->RR (.ref s.heap.objs.size) (s.heap.push {cls:=.type "list",dict:=none,data:=.seq ([]:List Value).toArray}).objs.size (.ok .next) f:=λ{D H' f} J q=>by
   rw[<-l]at J;have Ix:Inv X G Z H' f:=I3.call' (ch:=fp) J.os J.base J.hok J.bare λb a=>⟨(B b a).2.2.2.1,(B b a).2.1,(B b a).2.2.2.2.1,(B b a).2.2.2.2.2⟩;refine hRR _ _ H' f Ix (I3.fpOk (V2 _) J.free) ?_ q;obtain⟨m,hm,_⟩:=J.loc;exact⟨m,hm⟩
  have eY:compEnvC scope (cj X.env scope.names []) (s.heap.push {cls:=.type "list",dict:=none,data:=.seq ([]:List Value).toArray}).objs.size X.env=Y.env:=by rw[<-l];rfl
  have eP:X.prog=Y.prog:=by rw[<-l];rfl
  have eW:X.w=Y.w:=by rw[<-l];rfl
  have eK:X.K=Y.K:=by rw[<-l];rfl
  have eA:X.A=Y.A:=by rw[<-l];rfl
  have eX:Y.xe=λ_ _=>False:=by rw[<-l];rfl
  rw[eP,eW,eK]at T;rw[eY,eP,eW,eA];refine vm (λn f=>∃i M D H',Inv Y [] (D::ig Z ix) H' f/\tn i f.heap/\(∀b∈fp,H' b=none)/\W i n M H') ?_ m0 ⟨0,[],none,_,I4,st4,λb a=>(hf3 b a).1,w0⟩;rintro n f ⟨i,M,D,H',I',st',fr',w'⟩;obtain⟨hp,hlen,U⟩:=R i n M H' w';rcases U with ⟨stop,q⟩|⟨go,step⟩
  ·refine bb (T.done Y rfl rfl rfl hcY i [] f (D::ig Z ix) H' (λ_ _=>False) I' (f4 fr') st' stop) λr s1 ⟨hr,I1⟩=>?_;subst hr;exact fin I1 q
  · refine bb (T.item Y rfl rfl rfl hcY i [] f (D::ig Z ix) H' (λ_ _=>False) I' (f4 fr') st' go) λr s1 ⟨u,hr,h4⟩=>?_;subst hr;refine bb h4 λ_ s2 ⟨v,H2,J2,r2,y2,O,fr2⟩=>?_;have J2p:=J2.pinned (f4 fr2) (T.obj _ _ O)
    have again:∀{t:St} {H7:Hp} {s7:Shared},Inv Y ([]++na fp s2.heap) t H7 s7->tn (i+1) s7.heap/\∀b∈fp,H7 b=none:=λ{t H7 s7} I7=>by
     refine⟨T.keep _ _ _ O λb a o e=>(I7.pin (b,o) (VS _ (VS _ (gx a e)))).1,λb a=>?_⟩;obtain⟨o,e,d⟩:=T.obj _ _ O b a;exact(I7.pin (b,o) (VS _ (VS _ (gx a e)))).2.1
    have hga:=hg _ s2 (D::ig Z ix) H2 v u (λt H'=>t=some v::ig Z ix/\H'=H2) J2p r2 ⟨rfl,rfl⟩;rw[eX]at hga;refine bb hga λ_ s3 ⟨σ3,H3,J3,e3,e3'⟩=>?_;subst e3 e3';have htt:=hti' _ s3 _ H3 _ J3 (step v H3 y2);rw[eX]at htt;refine bb htt λb s4 ⟨H4,J4,q4⟩=>?_;cases b with
    |false=>
      rw[on V1]at q4 ⊢;obtain⟨m',hm,w4⟩:=q4;exact⟨m',hm,i+1,M,some v,H4,J4.unpinned,(again J4).1,(again J4).2,w4⟩
    |true=>
      rw[VL rfl]at q4 ⊢;have hee:=hte' _ s4 _ H4 _ J4 q4;rw[eX]at hee;refine bb hee λy s5 ⟨yv,H5,J5,r5,hp5,m',hm,w5⟩=>?_;have hap:=qj (X:=Y) _ s5 _ H5 (.ref s.heap.objs.size) [yv] (.ref s.heap.objs.size) [y] (λ_ H6=>H6=upd H5 s.heap.objs.size (.lst (M++[yv]))) J5 rfl (.cons r5 .nil) ⟨_,M,yv,rfl,rfl,hp5,hlen,rfl⟩;rw[eX]at hap;refine bb hap λ_ s6 ⟨_,H6,J6,_,e6⟩=>?_;subst e6;exact⟨m',hm,i+1,M++[yv],some v,_,J6.unpinned,(again J6).1,(again J6).2,w5⟩
 exact codeAny_compStart_list F (T.self _ 0 _ _ _ st4 F)
theorem H8{n:TI}(c:X.calm=true)(hi:PI X (.Name x px) iter n)(a:CompSc X.env.scope scope x cs)(k:ix.map (λi=>X.N[i]?)=cs.map some)
 (f:∀C fp s₀ H₀,QG (lD X scope (cj X.env scope.names []) C (x::cs) fp s₀ H₀) ifs ti) (g:∀C fp s₀ H₀,PE (lD X scope (cj X.env scope.names []) C (x::cs) fp s₀ H₀) elt te)
 (l:closureFor scope X.env=pure (cj X.env scope.names []):=by rfl) (u:∀x,foldedSetIterable iter X.env x=pure x:=by intro _;rfl):
 PE X (.ListComp elt [⟨.Name x px,iter,ifs,0⟩] scope pos) (lH n ix ti te):=by
 intro G s Z H Q I h;rw[eval_ListComp];refine wpAny_comprehension_free (use:=none) rfl u l a.kind a.loc (bb (hi G s Z H _ I h) λv V E=>bb E λt U D=>?_);obtain⟨W,fp,tn,J,Y,e,R,T,d,M,B⟩:=D;subst e;refine w8 (RR:=λacc C=>compPost (model X.prog X.w) X.A X.xe none (EP X G Z Q) acc C) c R a k T d M f g B ?_;rintro p C H' r S ⟨P,O,_,L,K,F⟩ ⟨m,y⟩ q;exact⟨m,y,λh' j=>⟨.ref p,H',S.turned (t':=r.toks) (λb o z e=>j.extBut b o z e) P O L K F,rfl,q⟩⟩
end
mutual
def Den(K:F0)(H:Hp):PyData->V->Prop
 |.none,v=>v=.non
 |.bool b,v=>v=.bl b
 |.int i,v=>v=.int i
 |.str x,v=>v=.str x
 |.list ds,v=>∃a xs,v=.ref a/\SqL K H a xs/\Dens K H ds xs
 |.tuple ds,v=>∃a xs,v=.ref a/\SqT K H a xs/\Dens K H ds xs
 |.dict _,_=>False
def Dens(K:F0)(H:Hp):List PyData->List V->Prop
 |[],xs=>xs=[]
 |d::ds,xs=>∃x r,xs=x::r/\Den K H d x/\Dens K H ds r
end
section
variable{X:Cx}{G:L9}{Z:St}{H:Hp}{s:Shared}
mutual
theorem den_reads(I:Inv X G Z H s):∀(d:PyData) {v:V} {u:Value},Den X.K H d v->RelV v u->∃m,Reads s.heap u d m
 | .none,v,u,h,r=>by
   rw[Den]at h;subst h;have c:u=Value.none:=r;subst c;exact⟨_,.none⟩
 | .bool b,v,u,h,r=>by
   rw[Den]at h;subst h;have c:u=Value.bool b:=r;subst c;exact⟨_,.bool b⟩
 | .int i,v,u,h,r=>by
   rw[Den]at h;subst h;obtain⟨t,c⟩:=(show ∃t,u=Value.int i t from r);subst c;exact⟨_,.int i t⟩
 | .str x,v,u,h,r=>by
   rw[Den]at h;subst h;obtain⟨t,c⟩:=(show ∃t,u=Value.str x t from r);subst c;exact⟨_,.str x t⟩
 | .list ds,v,u,h,r=>by
   rw[Den]at h;obtain⟨a,xs,rfl,j,hd⟩:=h;have c:u=Value.ref a:=r;subst c;obtain⟨its,f,p,hz⟩:=I.list j;obtain⟨m,g⟩:=dens_reads I ds hd f;obtain⟨o,k,l,n,e⟩:=p.isList;exact⟨_,.list k l e (by simpa using g)⟩
 | .tuple ds,v,u,h,r=>by
   rw[Den]at h;obtain⟨a,xs,rfl,j,hd⟩:=h;have c:u=Value.ref a:=r;subst c;obtain⟨its,f,p,hz⟩:=I.tuple j;obtain⟨m,g⟩:=dens_reads I ds hd f;obtain⟨o,k,l,n,e⟩:=p;exact⟨_,.tuple k l e (by simpa using g)⟩
 | .dict _,v,u,h,r=>by
   rw[Den]at h;exact h.elim
theorem dens_reads(I:Inv X G Z H s):∀(ds:List PyData) {xs:List V} {us:List Value},Dens X.K H ds xs->Vals xs us->∃a,ReadsAll s.heap us ds a
 | [],xs,us,h,r=>by
   rw[Dens]at h;subst h;cases r;exact⟨_,.nil⟩
 | d::ds,xs,us,h,r=>by
   rw[Dens]at h;obtain⟨x,t,rfl,g,i⟩:=h;cases r with
   |cons f e=>
     obtain⟨a,c⟩:=den_reads I d g f;obtain⟨bs,b⟩:=dens_reads I ds i e;exact⟨_,.cons c b⟩
end
end
theorem qI{K:F0}{H:Hp}:∀ns:List Int,Dens K H (ns.map PyData.int) (ns.map V.int)
 |[]=>by rw[WO,WO,Dens]
 | n::r=>by
   rw[VN,VN,Dens];exact⟨_,_,rfl,by rw[Den],qI r⟩
theorem uE{K:F0}{H:Hp}{a:Addr}{ns:List Int}(h:SqL K H a (ns.map V.int)):Den K H (.list (ns.map PyData.int)) (.ref a):=by
 rw[Den];exact⟨a,_,rfl,h,qI ns⟩
theorem Fj(ns M:List Int):PyData.eqv (.list (ns.map PyData.int)) (.list (M.map PyData.int))=decide (ns=M):=by
 rw[<-SeqAt.same_eq_eqv _ _ (by simp only[SeqAt.noMix];exact PySem.W.noMix_ints ns M)];simp only[same];exact PySem.W.same_ints ns M
section
variable{X:Cx}
def CP(K:F0)(neg:Bool):R2:=λx y H Q=>∃d e,Den K H d x/\Den K H e y/\SeqAt.shaped d=true/\SeqAt.shaped e=true/\Q (.bl (if neg then !PyData.eqv d e else PyData.eqv d e)) H
theorem Nv(j:X.A.units+64<cLine):jI X (compareOp .Eq) (CP X.K false):=by
 intro G s Z H x y v u Q I f c h;obtain⟨d,e,hd,k,b,a,q⟩:=h;obtain⟨l,i⟩:=den_reads I d hd f;obtain⟨bs,g⟩:=den_reads I e k c;exact eq_dataH i g b a j ⟨.bl _,H,I,rfl,q⟩
theorem Np(j:X.A.units+64<cLine):jI X (compareOp .NotEq) (CP X.K true):=by
 intro G s Z H x y v u Q I f c h;obtain⟨d,e,hd,k,b,a,q⟩:=h;obtain⟨l,i⟩:=den_reads I d hd f;obtain⟨bs,g⟩:=den_reads I e k c;exact ne_dataH i g b a j ⟨.bl _,H,I,rfl,q⟩
theorem Nu(j:X.A.units+65<cLine):jI X (compareOp .In) (λx y H Q=>∃d xs,Den X.K H d x/\Den X.K H (.list xs) y/\SeqAt.shaped d=true/\SeqAt.shaped (.list xs)=true/\(∀z∈xs,SeqAt.noMix z d=true)/\Q (.bl (decide (countIn d xs≠0))) H):=by
 intro G s Z H x y v u Q I e c h;obtain⟨d,xs,hd,k,b,a,i,q⟩:=h;obtain⟨l,g⟩:=den_reads I d hd e;obtain⟨bs,f⟩:=den_reads I _ k c;exact in_list_dataH f g a b j i ⟨.bl _,H,I,rfl,q⟩
end
section
variable{X:Cx}
theorem Gm:cz X (.builtin "isinstance") (λxs H Q=>∃x c t b,xs=[x,.ty c]/\TyOf X.K H x t/\PySem.W.kitOne X.K t (.type c)=some b/\Q (.bl b) H):=by
 intro G s Z H xs us Q I r h;obtain⟨x,c,t,b,rfl,ty,e,q⟩:=h;obtain⟨u,a,rfl,i,g⟩:=BK r;have f:a=Value.type c:=g;subst f;exact A8 I i ty e λd=>⟨.bl b,H,I.tok d,rfl,q⟩
end
def S5(g:Bool):String:=cond g "max.loop" "min.loop"
def Qw(g:Bool):String:=cond g "max" "min"
def UR(g:Bool):CmpOp:=cond g .Gt .Lt
theorem OP:∀g,plainId (S5 g)=true|false=>PySem.F.plain_min_loop|true=>PySem.F.plain_max_loop
theorem Vq:∀g,entryFor table (S5 g)=some (cond g Builtin.«max.loop» Builtin.«min.loop»)|false=>PySem.F.entry_min_loop|true=>PySem.F.entry_max_loop
theorem xmE:∀g,entryFor table (Qw g)=some (cond g Builtin.«max» Builtin.«min»)|false=>PySem.F.entry_min|true=>PySem.F.entry_max
theorem xmP:∀g,builtinKind (Qw g)=none/\plainId (Qw g)=true|false=>⟨PySem.F.kind_min,PySem.F.plain_min⟩|true=>⟨PySem.F.kind_max,PySem.F.plain_max⟩
theorem Jx(a d:Value):∀g,argsOk (Qw g) ⟨[a],[(Str.ofString "default",d)]⟩|false=>by unfold argsOk;kernel_rfl|true=>by unfold argsOk;kernel_rfl
theorem UE:(toString "min" ++ toString ".loop" : String)=S5 false:=by decide
theorem UD:(toString "max" ++ toString ".loop" : String)=S5 true:=by decide
section
variable{prog:Program}{w:World}{A:Around}{R:Result->Shared->Prop}{I:Addr}{fp wr:List Addr}{n:Nat}{P:Nat->Value->Prop}{St:Nat->Heap->Prop}
theorem FC(g:Bool)(W:Walks prog w A.in1 I fp wr n P St)(T:List (Str×Value))(x:Nat->Nat->Bool)(S:Addr)(L:S∉fp)(G:Shared->Prop)
 (N:∀(s:Shared) h' l,G s->(∀b o,b∉wr->b≠S->s.heap.get? b=some o->h'.get? b=some o)->G {s with heap:=h',toks:=l})
 (F:∀i j J H (s:Shared) (Q:LV) (E:LV),G s->P i J->P j H->Q (.bool (x i j)) s->wpAny (model prog w) A.in1 (richCompare (UR g) J H) Q E s):∀(k j:Nat) (s:Shared) (h:Value) (c:Nat),
 n-(j+1)=k->j+1<=n->G s->St (j+1) s.heap->P (argBest x j) h->s.heap.get? S=some {cls:=.type "list",dict:=none,data:=.seq #[h,h] c,slots:=#[]}->
 (∀v h' l,P (argBest x (n-1)) v->(∀b o,b∉wr->b≠S->s.heap.get? b=some o->h'.get? b=some o)->R (.ok (.ret v)) {s with heap:=h',toks:=l})->
 codeAny (model prog w) A (.builtin (S5 g) ⟨[.ref I,.none,.ref S],T⟩) R s:=by
 have K:S∉wr:=λz=>L (W.sub _ z);cases g
 all_goals
  intro k
  induction k with
  |zero=>
    intro j s h c e1 V g st C B p;refine Xj (Vq _) ?_;rw[WR (OP _) _];refine VM (m:=seqItems? (.ref S)) (wpAny_seqItems B rfl ?_);refine VM (m:=tryCatch (pyNext (.ref I)) _) (XV (W.done s _ _ ((show j+1=n by omega)▸st) λh' l kp=>?_));refine VM (m:=updateSeq S (λ_=>#[])) ?_;refine YM (kp S _ K B) rfl (VM (XS (VX ?_)));exact p h _ l (by rw[show n-1=j by omega];exact C) λb o f q e=>(Wo _ _ (Xp q)).trans (kp b o f e)
  |succ k M=>
    intro j s h c e1 V g st C B p;have lt:j+1<n:=by omega
    refine Xj (Vq _) ?_;rw[WR (OP _) _];refine VM (m:=seqItems? (.ref S)) (wpAny_seqItems B rfl ?_);refine VM (m:=tryCatch (pyNext (.ref I)) _) (XV (W.item (j+1) s _ _ lt st λv h' l pv y kp=>?_));have t:=kp S _ K B;have g':G {s with heap:=h',toks:=l}:=N s h' l g λb o f _ e=>kp b o f e;refine VM (m:=tryCatch (holding [v,v] (richCompare _ v h >>= _)) _) (XV (Xa (VM (F (j+1) (argBest x j) v h _ _ _ g' pv C ?_))));refine VM (Xa (W4 (VM (XS (VX ?_)))));cases O:x (j+1) (argBest x j) with
    |true=>
      rw[VL rfl];refine VM ?_;refine YM t rfl (VM (XS ?_))
      first | rw[UE] | rw[UD]
      refine VX ⟨Xn (OP _) _,M (j+1) _ v _ (by omega) lt (N _ _ l g' λb o f q e=>(Wo _ _ (Xp q)).trans e) (W.frame _ _ _ y λb U o e=>?_) (by simp only[argBest,O,YG];exact pv) (Wr _ t rfl) λD u a r d=>?_⟩
      ·exact(Wo _ _ (λz:S=b=>L (by rw[z];exact U))).trans e
      ·exact p D u a r λb o f q e=>d b o f q ((Wo _ _ (Xp q)).trans (kp b o f e))
    |false=>
      rw[on V1];refine VM (XS ?_)
      first | rw[UE] | rw[UD]
      exact VX ⟨Xn (OP _) _,M (j+1) _ h c (by omega) lt g' y (by simp only[argBest,O,Xy,Yh];exact C) t λD u a r d=>p D u a r λb o f q e=>d b o f q (kp b o f e)⟩
end
section
variable{prog:Program}{w:World}{A:Around}{E:LV}{s:Shared}
theorem vD(g:Bool){x d:Value}{Q:LV}
 (h:wpAny (model prog w) A.in1 (pyIter x) (λN a=>∃I u f n P St y,∃G:Shared->Prop,N=.ref I/\Walks prog w A.in1 I u f n P St/\St 0 a.heap/\(∀b∈u,b<a.heap.objs.size)/\
   G a/\(∀(s:Shared) h' c,G s->(∀b o,b∉f->b≠a.heap.objs.size->s.heap.get? b=some o->h'.get? b=some o)->G {s with heap:=h',toks:=c})/\
   (∀i j L K (s:Shared) (Q:LV) (E:LV),G s->P i L->P j K->Q (.bool (y i j)) s->wpAny (model prog w) A.in1 (richCompare (UR g) L K) Q E s)/\
   (n=0->∀h' c,(∀b o,b∉f->a.heap.get? b=some o->h'.get? b=some o)->Q d {a with heap:=h',toks:=c})/\
   (0<n->∀v h' c,P (argBest y (n-1)) v->(∀b o,b∉f->a.heap.get? b=some o->h'.get? b=some o)->Q v {a with heap:=h',toks:=c})) E s):
 wpAny (model prog w) A (call (.builtin (Qw g)) [x] [(Str.ofString "default",d)]) Q E s:=by
 cases g
 all_goals
  refine kmk_tree (xmP _).1 (xmP _).2 (xmE _) (Jx _ _ _) ?_;refine VM (m:=Builtin.Builtins.bindParams _ ["key","default"] 0 ⟨[],[(Str.ofString "default",d)]⟩) (wpAny_of_eq (show _=pure [none,some d] from rfl) ?_);refine VM (VX (VM (XZ h (λN a t=>?_) λ_ _ e=>e)));obtain⟨I,u,f,n,P,St,y,G,rfl,W,st,lts,Y,O,J,T,S⟩:=t;refine VM (Yp ?_);have D:a.heap.objs.size∉u:=λz=>WI _ (lts _ z);have U:a.heap.objs.size∉f:=λz=>D (W.sub _ z)
  first | rw[UE] | rw[UD]
  have p:=W.frame _ _ (a.heap.push {cls:=.type "list",dict:=none,data:=.seq ([]:List Value).toArray}) st λb _ o e=>VT _ e;have M:(a.heap.push {cls:=.type "list",dict:=none,data:=.seq ([]:List Value).toArray}).get? a.heap.objs.size=some {cls:=.type "list",dict:=none,data:=.seq ([]:List Value).toArray}:=V8 _ rfl;refine VX ⟨Xn (OP _) _,Xj (Vq _) ?_⟩;rw[WR (OP _) _];refine VM (m:=seqItems? (.ref a.heap.objs.size)) (wpAny_seqItems M rfl ?_);by_cases F:n=0
  ·refine VM (m:=tryCatch (pyNext (.ref I)) _) (XV (W.done _ _ _ (F▸p) λh' c kp=>?_));refine VM (m:=rule _) (wpAny_rule (VX ?_));exact T F h' c λb o k e=>kp b o k (VT _ e)
  · have lt:0<n:=Nat.pos_of_ne_zero F;refine VM (m:=tryCatch (pyNext (.ref I)) _) (XV (W.item 0 _ _ _ lt p λv h' c pv B kp=>?_));have q:=kp _ _ U M;refine VM (m:=updateSeq a.heap.objs.size (λ_=>#[v,v])) ?_;refine YM q rfl ?_
    first | rw[UE] | rw[UD]
    refine VX ⟨Xn (OP _) _,FC _ W _ y _ D G O J _ 0 _ v _ rfl lt (O a _ _ Y λb o k X e=>(Wo _ _ (Xp X)).trans (kp b o k (VT _ e))) (W.frame _ _ _ B λb V o e=>?_) pv (Wr _ q rfl) λR H l C r=>?_⟩
    ·exact(Wo _ _ (λz:a.heap.objs.size=b=>D (by rw[z];exact V))).trans e
    ·exact S lt R H l C λb o k e=>r b o k (Wk (VZ e)) ((Wo _ _ (Nat.ne_of_gt (VZ e))).trans (kp b o k (VT _ e)))
end
def fV(X:Cx)(f:Value)(c:List Str)(r:List V->List V->Hp->VK->Prop):Prop:=
 ∀(G:L9) (s:Shared) (Z:St) (H:Hp) (xs a:List V) (us b:List Value) (Q:VK),Inv X G Z H s->Vals xs us->Vals a b->r xs a H Q->
  wpAny (model X.prog X.w) X.A (call f us (c.zip b)) (EP X G Z Q) X.xe s
def Ae(r:List V->List V->Hp->VK->Prop)(t b:TA):TE:=λZ H Q=>t Z H λvs H1=>b Z H1 λa c=>r vs a c Q
section
variable{X:Cx}{x:Str}{p pos:Pos}{e:Expr}{es:List Expr}{kws:List Keyword}{t tk:TA}{id:String}{ks:List Str}{r:List V->List V->Hp->VK->Prop}
theorem AD(A:fV X (.builtin id) ks r)(y:Gl X x)(v:X.mg x=none)(q:bootBuiltins x=some (.builtin id))(B:PA X (e::es) t)(w:PK X kws tk)
 (c:(backToKw pos (keywordEach kws X.env)).filterMap (·.1)=ks:=by rfl) (u:x ≠ "__name__" := by decide) (f:(x==("__debug__" : Str))=false:=by decide)
 (z:backTo pos (starEach (e::es) X.env)=(false,eval e X.env)::backTo pos (starEach es X.env):=by rfl) (b:(backTo pos (starEach (e::es) X.env)).any (·.1)=false:=by rfl)
 (a:(backToKw pos (keywordEach kws X.env)).all (·.1.isSome)=true:=by rfl) (d:(backToKw pos (keywordEach kws X.env)).any (·.1.isNone)=false:=by rfl):
 PE X (.Call (.Name x p) (e::es) kws pos) (Ae r t tk):=by
 intro G s Z H Q I h;refine Xc (jo I y v q ?_ u f);refine PyProof.Rows.callWith_kw (bb (B pos G s Z H _ I h) λus k ⟨vs,H1,D,m,o⟩=>bb (w pos G k Z H1 _ D o) λi j ⟨g,E,C,l,n⟩=>?_) z b a d;rw[c];exact A G j Z E vs g us i Q C m l n
end
theorem dJ:∀{ns:List Int} {us:List Value} {i:Nat} {u:Value},Vals (ns.map V.int) us->us[i]?=some u->∃t,u=.int (ns.getD i 0) t
 | [],us,i,u,r,e=>by
   cases r;cases e
 | n::ns,us,i,u,r,e=>by
   rw[VN]at r;cases r with
   |cons b a=>
     cases i with
     |zero=>
       cases e;exact b
     |succ i=>
       show ∃t,u=.int (ns.getD i 0) t;exact dJ (ns:=ns) (i:=i) a (by simpa using e)
theorem Py{P:Program}{w:World}{A:Around}{R:Nat->Value->Prop}(v:Nat->Int)(h:∀i u,R i u->∃t,u=.int (v i) t):∀g,CmpOf P w A (UR g) R (cond g (λi j=>decide (v i>v j)) λi j=>decide (v i<v j))|false=>CmpOf.ints_lt v h|true=>CmpOf.ints_gt v h
theorem Jr(v:Nat->Int)(k:Nat):∀g,argBest (cond g (λi j=>decide (v i>v j)) λi j=>decide (v i<v j)) k<=k/\∀j,j<=k->cond g (v j<=v (argBest (cond g (λi j=>decide (v i>v j)) λi j=>decide (v i<v j)) k)) (v (argBest (cond g (λi j=>decide (v i>v j)) λi j=>decide (v i<v j)) k)<=v j)|false=>argBest_lt v k|true=>argBest_gt v k
theorem vA(g:Bool){X:Cx}(U:X.calm=true):fV X (.builtin (Qw g)) ["default"] (λxs y H Q=>∃p ns d,xs=[.ref p]/\y=[d]/\SqL X.K H p (ns.map V.int)/\(ns=[]->Q d H)/\∀m∈ns,(∀x∈ns,cond g (x<=m) (m<=x))->Q (.int m) H):=by
 intro G s Z H xs y us ws Q I r J h;obtain⟨p,ns,d,rfl,rfl,S,N,M⟩:=h;obtain⟨u,rfl,L⟩:=Vals.one r;have l:u=Value.ref p:=L;subst l;obtain⟨dv,rfl,rd⟩:=Vals.one J;obtain⟨its,k,pl,hz⟩:=I.list S;have B:ns.length=its.length:=by rw[<-k.length,VO]
 obtain⟨O,c,w,n⟩:=id pl.isList;have f:p<s.heap.objs.size:=VZ c;refine vD g (XU pl.isList ⟨s.heap.objs.size,_,_,_,_,_,_,λ_=>True,rfl,Walks.list (A:=X.A.in1) (I.ok.hd U) _ p (Wk f) its.toArray,⟨⟨_,V8 _ rfl,rfl,rfl⟩,⟨O,VT _ c,w,n⟩⟩,λb W=>?_,trivial,λ_ _ _ _ _=>trivial,λi j D C s Q E _=>Py (R:=λi v=>its.toArray[i]?=some v) (λi=>ns.getD i 0) (λi v e=>dJ k (by simpa using e)) g i j D C s Q E,λe h' F kp=>?_,λe v h' F pv kp=>?_⟩)
 · rw[XG];rcases VY.mp W with z|z
   ·rw[z];exact XH _
   · have a:b=p:=by simpa using z
     rw[a];exact Yo f
 · have Y:ns=[]:=Wx.mp (by rw[B];simpa using e);refine⟨d,H,I.kept λb o q=>kp b o (λz=>?_) (VT _ q),rd,N Y⟩;have a:b=s.heap.objs.size:=by simpa using z
   exact absurd (VZ q) (by rw[a];exact WI _)
 · have e':0<its.length:=by simpa using e
   have e1:its.toArray.size-1=ns.length-1:=by rw[V3,B]
   rw[e1]at pv;obtain⟨b1,b2⟩:=Jr (λi=>ns.getD i 0) (ns.length-1) g;rw[YV]at pv;obtain⟨t,rfl⟩:=dJ k pv
   have up:∀i,i<ns.length->ns.getD i 0∈ns:=λi hi=>by
    rw[V5,V4 hi];exact YA hi
   refine⟨.int _,H,I.kept λb o q=>kp b o (λz=>?_) (VT _ q),⟨t,rfl⟩,M _ (up _ (by omega)) λx P=>?_⟩
   · have a:b=s.heap.objs.size:=by simpa using z
     exact absurd (VZ q) (by rw[a];exact WI _)
   · obtain⟨j,T,rfl⟩:=X6 P
     have:=b2 j (by omega)
     rwa [show ns.getD j 0=ns[j] by rw[V5,V4 T];rfl]at this
theorem Bu{X:Cx}(b:X.calm=true):fV X (.builtin "min") ["default"] (λxs a H Q=>∃p ns d,xs=[.ref p]/\a=[d]/\SqL X.K H p (ns.map V.int)/\(ns=[]->Q d H)/\∀m∈ns,(∀x∈ns,m<=x)->Q (.int m) H):=vA false b
theorem Bv{X:Cx}(b:X.calm=true):fV X (.builtin "max") ["default"] (λxs a H Q=>∃p ns d,xs=[.ref p]/\a=[d]/\SqL X.K H p (ns.map V.int)/\(ns=[]->Q d H)/\∀m∈ns,(∀x∈ns,x<=m)->Q (.int m) H):=vA true b
def dd(ns:List Int):List Int:=ns.foldl step_dedup []
theorem wu(ns:List Int):(List.range ns.length).map (λi=>ns.getD i 0)=ns:=by
 apply Yq;intro i;rw[V9];by_cases h:i<ns.length
 ·rw[XM h,V4 h,XB,V5,V4 h];rfl
 ·rw[Wb (by rw[XW];omega),Wb (by omega)];rfl
theorem uv(ns:List Int):firstMet (λi=>ns.getD i 0) ns.length=dd ns:=by
 unfold firstMet dd;rw[wu]
theorem Ln:∀(ns acc:List Int),ns.Nodup->(∀x∈ns,x∉acc)->ns.foldl step_dedup acc=acc++ns
 |[],acc,_,_=>by rw[List.foldl_nil,Wh]
 | n::r,acc,h,hd=>by
   have c:=Wc.mp h
   have e:step_dedup acc n=acc++[n]:=by
    unfold step_dedup;rw[if_neg];intro z;obtain⟨y,d,e⟩:=List.any_eq_true.mp z;have a:y=n:=by simpa using e
    subst a;exact hd y VP d
   rw[XA,e,Ln r (acc++[n]) c.2 λx b z=>?_,Wy]
   ·rfl
   · rcases VW.mp z with z|z
     ·exact hd x (VR _ b) z
     · have a:x=n:=by simpa using z
       subst a;exact c.1 b
theorem FF{ns:List Int}(h:ns.Nodup):dd ns=ns:=by
 unfold dd;rw[Ln ns [] h λ_ _ z=>nomatch z];rfl
section
variable{X:Cx}
theorem Bl(j:X.calm=true):cz X (.type "set") (λxs H Q=>∃p ns,xs=[.ref p]/\SqL X.K H p (ns.map V.int)/\ns.length<4000/\∀q,H q=none->Q (.ref q) (upd H q (.set (λk=>(dd ns).any (·==k)) (dd ns).length))):=by
 intro G s Z H xs us Q I r h;obtain⟨p,ns,rfl,i,n,q⟩:=h;obtain⟨u,rfl,g⟩:=Vals.one r;have a:u=Value.ref p:=g;subst a;obtain⟨its,c,pl,hz⟩:=I.list i;have d:its.length=ns.length:=by rw[<-c.length,VO]
 refine PySem.call_set_list (ns:=ns) (I.ok.hd j) pl.isList (by simpa using wR c) (by rw[List.size_toArray,d];unfold scanBound;omega) λh' m f kp=>?_;have l:its.toArray.size=ns.length:=by rw[List.size_toArray,d]
 rw[l,uv]at f;exact⟨.ref s.heap.objs.size,_,I.laid (o:=.set _ _) (λb o e=>kp b o (VZ e) e) (V2 _) f,rfl,q _ (I.hok.fresh (V2 _))⟩
theorem Bq:cz X (.builtin "len") (λxs H Q=>∃a S n,xs=[.ref a]/\H a=some (.set S n)/\Q (.int n) H):=by
 intro G s Z H xs us Q I r h;obtain⟨a,S,n,rfl,i,q⟩:=h;obtain⟨u,rfl,c⟩:=Vals.one r;have b:u=Value.ref a:=c;subst b;obtain⟨o,j,ep,t,d,hex,hd,_,_,g,f,e⟩:=(show s.heap.SetOf (intKind X.prog X.w) a S n from I.hok a _ i);refine call_len_set d hex hd f (Int.lt_of_lt_of_le (Int.ofNat_lt.mpr g) (by unfold scanBound;decide)) ?_;rw[e];exact⟨.int n,H,I.tok _,⟨_,rfl⟩,q⟩
end
def RawD(h:Heap)(d:Addr)(a:Array DictEntry)(ep:Nat):Prop:=∃o,h.get? d=some o/\o.ExactDict/\o.data=.dict a ep
section
variable{prog:Program}{w:World}{A:Around}{E:LV}{s:Shared}{d it:Addr}{es:Array DictEntry}{ep i:Nat}
theorem RawD.typeIs(x:RawD s.heap d es ep):s.TypeIs (.ref d) "dict" := by
 obtain⟨o,b,a,_⟩:=x;exact⟨o,b,a.1⟩
theorem mZ{Q:LV}(c:(d==sysModules)=false)(x:RawD s.heap d es ep)
 (e:Q (.ref s.heap.objs.size) {s with heap:=s.heap.push {cls:=.type "dict_keyiterator",data:=.fields #[.ref d,.int 0 0,.int es.size 0,.int ep 0]}}):wpAny (model prog w) A (pyIter (.ref d)) Q E s:=by
 have a:=x.typeIs;obtain⟨o,b,f,hd⟩:=x;refine wpAny_pyIter_slot a PySem.F.slot_dict_iter (wpAny_call_entry PySem.F.slot_dict_iter a PySem.F.entry_dict_iter ?_ (PySem.F.args_dict_iter_1 _));unfold Builtin.«dict.__iter__» Builtin.Dict.dictSlotNone;refine wpAny_bind (wpAny_bind (wpAny_notOrdered_dict a (wpAny_pure ?_)));refine wpAny_bind (m:=Builtin.Dict.showsAll d) ?_;unfold Builtin.Dict.showsAll;rw[if_neg (by rw[c];exact Bool.false_ne_true)];refine wpAny_pure (wpAny_bind (wpAny_dictEntries b hd (wpAny_bind (wpAny_dictEpoch b hd ?_))));exact wpAny_bind (wpAny_newObj_type (wpAny_pure ⟨_,rfl, "dict_keyiterator",_,⟨_,Heap.get?_push_size _ rfl,rfl⟩,PySem.F.slot_dict_keyiterator_next.lookup,e⟩))
theorem m6{Q:Option Value->Shared->Prop}(a:s.heap.IsKeyIter it d i es.size ep)(x:RawD s.heap d es ep)(g:i<es.size)
 (j:∀h',h'.IsKeyIter it d (i+1) es.size ep->Heap.SameBut it s.heap h'->Q (some es[i].key) {s with heap:=h'}):wpAny (model prog w) A (pyNext (.ref it)) Q E s:=by
 obtain⟨o,f,h,hd⟩:=id a;obtain⟨k,c,_,e⟩:=id x;unfold pyNext;refine wpAny_bind (wpAny_attempt (wpAny_callSpecial?_slot (name:=Str.ofString "__next__") a.typeIs PySem.F.slot_dict_keyiterator_next (wpAny_call_entry PySem.F.slot_dict_keyiterator_next a.typeIs PySem.F.entry_dict_keyiterator_next ?_ (PySem.F.args_dict_keyiterator_next_1 _))));refine wpAny_bind (wpAny_pure (wpAny_bind (wpAny_bind ?_)))
 first | refine VM (W3 a.typeIs (VX ?_)) | refine VM (Xo a.typeIs (VX ?_))
 refine VM (wpAny_fieldsOf f hd ?_);simp only[show Builtin.Dict_items.ownsTuple "dict_keyiterator" = false from by decide,Xy,Yh];show wpAny _ _ (if (Value.ref d==Value.none)=true then _ else _) _ _ s;rw[on (show ¬ ((Value.ref d==Value.none)=true) from V1)];refine VM (VX (VM (Xl c e ?_)));rw[on (by simp)];refine VM (VX (VM (YN c e ?_)));rw[on (by simp)];refine VX ?_;simp only[show ¬ ((i:Int)<0) from by omega,Yh,Int.toNat_natCast,WL g];refine VM ?_
 first | refine VM (W3 a.typeIs (VX ?_)) | refine VM (Xo a.typeIs (VX ?_))
 refine VM (wpAny_isOneOf_keyiter a.typeIs ?_);refine VM (m:=setField (.ref it) 1 (rawInt ((i:Int)+1))) (wpAny_setField f hd (by simp) ?_)
 have b:(s.heap.update it (Obj.mapFields (·.setIfInBounds 1 (rawInt ((i:Int)+1))))).IsKeyIter it d (i+1) es.size ep:=
  ⟨_,Wr _ f (Obj.isFreed_of_fields (Obj.data_mapFields hd _)),(Obj.cls_mapFields ..).trans h,by rw[Obj.data_mapFields hd];simp[rawInt]⟩
 refine VM (Xa ?_);refine VM (wpAny_isOneOf_keyiter (s:={s with heap:=s.heap.update it (Obj.mapFields (·.setIfInBounds 1 (rawInt ((i:Int)+1))))}) b.typeIs ?_);exact VX (VX ⟨_,rfl,VX (j _ b (XN ..))⟩)
theorem rA{Q:Option Value->Shared->Prop}(h:A.handled=none)(c:s.heap.IsKeyIter it d es.size es.size ep)(x:RawD s.heap d es ep)
 (i:∀h',Heap.ExtBut it s.heap h'->Q none {s with heap:=h'}):wpAny (model prog w) A (pyNext (.ref it)) Q E s:=by
 obtain⟨o,g,k,hd⟩:=id c;obtain⟨j,e,_,f⟩:=id x;unfold pyNext;refine wpAny_bind (wpAny_attempt (wpAny_callSpecial?_slot (name:=Str.ofString "__next__") c.typeIs PySem.F.slot_dict_keyiterator_next (wpAny_call_entry PySem.F.slot_dict_keyiterator_next c.typeIs PySem.F.entry_dict_keyiterator_next ?_ (PySem.F.args_dict_keyiterator_next_1 _))));refine wpAny_bind (wpAny_pure (wpAny_bind (wpAny_bind ?_)))
 first | refine VM (W3 c.typeIs (VX ?_)) | refine VM (Xo c.typeIs (VX ?_))
 refine VM (wpAny_fieldsOf g hd ?_);simp only[show Builtin.Dict_items.ownsTuple "dict_keyiterator" = false from by decide,Xy,Yh];show wpAny _ _ (if (Value.ref d==Value.none)=true then _ else _) _ _ s;rw[on (show ¬ ((Value.ref d==Value.none)=true) from V1)];refine VM (VX (VM (Xl e f ?_)));rw[on (by simp)];refine VM (VX (VM (YN e f ?_)));rw[on (by simp)];refine VX ?_;simp only[show ¬ ((es.size:Int)<0) from by omega,Yh,Int.toNat_natCast,Array.getElem?_eq_none (V2 _)];refine VM ?_
 first | refine VM (W3 c.typeIs (VX ?_)) | refine VM (Xo c.typeIs (VX ?_))
 refine VM (m:=setField (.ref it) 0 .none) (wpAny_setField g hd (by simp) ?_);refine VM (m:=newExc (.type "StopIteration") []) ?_;simp only[newExc,newTuple];refine VM (Yp ?_ (by size_fits));refine VM (m:=firstArgMember _ _) (wpAny_of_eq (a:=Value.none) (by first | rfl | (simp only[firstArgMember];rfl)) ?_);refine Yp ?_ (by size_fits);simp only[raiseNew];refine VM (wpAny_handled ?_);rw[show A.in1.handled=none from h];refine VM (VX (wpAny_throw ?_));refine VM (wpAny_isInstance (T := "StopIteration") (b:=true) ⟨_,V8 _ rfl,rfl⟩ isSubtype_stop ?_);exact VX (i _ (((XN ..).extBut.push _).push _))
theorem At(n:A.handled=none)(I d:Addr)(k:d≠I)(es:Array DictEntry)(ep:Nat):
 Walks prog w A I [I,d] [I] es.size (λi v=>∃e,es[i]?=some e/\v=e.key) (λi h=>h.IsKeyIter I d i es.size ep/\RawD h d es ep) where
 sub:=λb f=>by
  have e:b=I:=by simpa using f
  rw[e];exact VP
 frame:=λ_ _ _ st m=>⟨st.1.at λo e=>m I (by simp) o e,let ⟨o,j,r⟩:=st.2;⟨o,m d (by simp) o j,r⟩⟩
 item:=λi s Q E hi st g=>m6 st.1 st.2 hi λh' c a=>by
  obtain⟨o,j,r⟩:=st.2;exact g _ h' s.toks ⟨es[i],WL hi,rfl⟩ ⟨c,o,a.extBut d o k j,r⟩ λb o f e=>a.extBut b o (λz=>f (by simp[z])) e
 done:=λs Q E st g=>rA n st.1 st.2 λh' l=>g h' s.toks λb o f e=>l b o (λz=>f (by simp[z])) e
 self:=λ_ _ _ _ st g=>wpAny_pyIter_keyiter st.1 g
theorem Hv(lo:(d==sysModules)=false):PySem.W.KdlSrc prog w "dict" d d es.size (λi v=>∃e,es[i]?=some e/\v=e.key) (λh=>RawD h d es ep) where
 type:=λ_ x=>x.typeIs
 there:=λ_ x=>let ⟨_,a,_⟩:=x;⟨VZ a,VZ a⟩
 keep:=λ_ _ x c=>let ⟨o,a,r⟩:=x;⟨o,c d (.inl rfl) o a,r⟩
 notList:=by decide
 notTuple:=by decide
 hint:=λ_ _ _ _ x b=>PySem.W.kdl_hint_dict x.typeIs b
 iter:=λ_ _ f x=>⟨_,_,(λ_ _ b=>mZ lo x b),At f _ d (let ⟨_,a,_⟩:=x;Wk (VZ a)) es ep,⟨⟨_,V8 _ rfl,rfl,rfl⟩,let ⟨o,a,r⟩:=x;⟨o,VT _ a,r⟩⟩⟩
end
theorem li{P:Program}{w:World}{x:List ay×Addr×Value}:(entryOfKey (tupleKind (aq P w)) x).key=.ref x.2.1:=rfl
theorem xD{X:Cx}(hc:X.calm=true):cz X (.type "list") (λxs H Q=>∃a kvs,xs=[.ref a]/\Rd H a (.dT kvs)/\
 ∀(K:List Addr) (l:Addr),K.length=kvs.length->(∀(i:Nat) k v b,kvs[i]?=some (k,v)->K[i]?=some b->H b=some (.tup (k.map kV)))->H l=none->Q (.ref l) (upd H l (.lst (K.map V.ref)))):=by
 intro G s Z H xs us Q I r h;obtain⟨a,kvs,rfl,ha,q⟩:=h;obtain⟨u,rfl,O⟩:=Vals.one r;have F:u=Value.ref a:=O;subst F;obtain⟨z,hd,g,A,o,M,ep,T,R,E,C,U⟩:=(show ObjOk X.prog X.w H s.heap a (.dT kvs) from ha.ok I.hok);have d:kvs.length=g.length:=WX A
 have j:M.size=g.length:=by
  have e:=congrArg List.length C
  rwa [VO,Wu]at e
 refine PySem.W.kdl_call (Hv hd) (I.ok.hd hc) ⟨o,T,R,E⟩ (by rw[j,<-d];exact z) λh' tk c c' kp hD f=>?_
 have keys:c.toList=(g.map λy=>y.2.1).map Value.ref:=by
  apply Yq;intro i;rw[V9,V9];cases n:g[i]? with
  |none=>
    have hi:g.length<=i:=Xh.mp n;rw[Wb (by rw[Wu,f.1];omega)];rfl
  |some y=>
    have hi:i<g.length:=(V6.mp n).1;have B:i<c.size:=by rw[f.1,j];exact hi
    obtain⟨e,Y,S⟩:=f.2 i c[i] (WL B);have D:M.toList[i]?=some e:=by rw[Xg];exact Y
    rw[C,V9,n]at D;have ee:entryOfKey (tupleKind (aq X.prog X.w)) y=e:=Wa D;rw[Xg,WL B,S,<-ee,li];rfl
 have N:∀l:List Addr,Vals (l.map V.ref) (l.map Value.ref):=λl=>by
  induction l with
  |nil=>exact .nil
  |cons x t L=>exact .cons rfl L
 refine⟨.ref s.heap.objs.size,_,I.laid kp (V2 _) ?_,rfl,q (g.map λy=>y.2.1) _ (by rw[VO];exact d.symm) (λi k v b e1 m=>?_) (I.hok.fresh (V2 _))⟩
 ·refine⟨by rw[VO,VO,<-d];exact z,c.toList,c',by rw[keys];exact N _,?_⟩;rw[Array.toArray_toList];exact hD
 · rw[V9]at m;cases n:g[i]? with
   |none=>rw[n]at m;cases m
   |some y=>
     rw[n]at m;have eb:y.2.1=b:=Wa m
     have P:∀{J:List (List ay×V)} {l2:List (List ay×Addr×Value)},Paired (λ(p:List ay×V) (q:List ay×Addr×Value)=>p.1=q.1/\H q.2.1=some (.tup (p.1.map kV))/\RelV p.2 q.2.2) J l2->
      ∀{i:Nat} {p q},J[i]?=some p->l2[i]?=some q->H q.2.1=some (.tup (p.1.map kV)):=by
      intro J l2 hp
      induction hp with
      |nil=>intro i p q e;cases e
      |cons h1 _ L=>
        intro i p q e1 m;cases i with
        |zero=>cases e1;cases m;exact h1.2.1
        |succ i=>exact L e1 m
     rw[<-eb];exact P A e1 n
end L2
namespace HT
open PySem PyProof.Rows
open PySem.SeqAt
open PySem.AutoSeq1 (wpAny_loadPart')
open PySem.MeetsSeq PySem.MeetsSeq2 PySem.MeetsSeq3 PySem.SeqRoads2
def LtAt(A:Around)(s:Shared)(y x:Value)(b:Bool):Prop:=
 ∀(prog:Program) (w:World) (E:LV) (Q:LV),Q (.bool b) s->wpAny (model prog w) A (richCompare .Lt y x) Q E s
def gy(p:Nat->Bool×Bool)(t:Bool):Nat->Nat->Bool
 |0,_=>t
 |k+1,i=>if (p i).1=true then gy p t k (i+1) else (p i).2
theorem wL(l b:Addr)(items items2:Array Value)(n n2:Nat)(dd dd2:Option Addr)(sl sl2:Array (Option Value))(p:Nat->Bool×Bool)(k:Nat):
 ∀i:Nat,min items.size items2.size-i=k->i<=min items.size items2.size->Meets (Builtin.«list.__eq__.loop» ⟨[.ref l,.ref b,rawInt i,rawInt 0],[]⟩)
  (λA R s=>s.heap.get? l=some {cls:=.type "list",dict:=dd,data:=.seq items n,slots:=sl}/\s.heap.get? b=some {cls:=.type "list",dict:=dd2,data:=.seq items2 n2,slots:=sl2}/\
    (∀j (h1:j<items.size) (h2:j<items2.size),EqAt A.in1 s items[j] items2[j] (p j).1/\((p j).1=false->LtAt A.in1 s items[j] items2[j] (p j).2))/\
    R (.ok (.ret (.bool (gy p (decide (items.size<items2.size)) k i)))) s):=by
 induction k with
 |zero=>
   intro i hk hi prog w A R s h;obtain⟨hp,g,d,tk,os⟩:=s;obtain⟨hl,hb,he,h⟩:=h
   wp_walk using wpAny_loadPart' hl,wpAny_loadPart' hb
   by_cases hlt:i<items.size
   · have hi1:items[((i:Nat):Int).toNat]?=some items[i]:=by simp[hlt]
     have hi2:items2[((i:Nat):Int).toNat]?=none:=by simp;omega
     rw[hi1,hi2]
     wp_walk using wpAny_loadPart' hl,wpAny_loadPart' hb
     exact h
   · have hi1:items[((i:Nat):Int).toNat]?=none:=by simp;omega
     rw[hi1]
     wp_walk using wpAny_loadPart' hl,wpAny_loadPart' hb
     exact h
 |succ k ih=>
   intro i hk hi prog w A R s h;obtain⟨hp,g,d,tk,os⟩:=s;obtain⟨hl,hb,he,h⟩:=h
   wp_walk using wpAny_loadPart' hl,wpAny_loadPart' hb
   have hlt:i<items.size:=by omega
   have hlt2:i<items2.size:=by omega
   have hi1:items[((i:Nat):Int).toNat]?=some items[i]:=by simp[hlt]
   have hi2:items2[((i:Nat):Int).toNat]?=some items2[i]:=by simp[hlt2]
   have hc:((i:Int)+1)=((i+1:Nat):Int):=by push_cast;rfl
   rw[hi1,hi2];obtain⟨e1,e2⟩:=he i hlt hlt2;refine VM (e1 prog w _ _ ?_);cases hb':(p i).1 with
   |true=>
     rw[gy,hb',VL rfl]at h
     wp_walk
     rw[hc]
     exact⟨Xn plain_eq_loop _,Xj entry_eq_loop (by
      rw[WR plain_eq_loop _]
      exact ih (i+1) (by omega) (by omega) prog w A R _ ⟨hl,hb,he,h⟩)⟩
   |false=>
     rw[gy,hb',on V1]at h
     wp_walk using wpAny_loadPart' hl,wpAny_loadPart' hb
     rw[hi1,hi2];have e3:=e2 hb' prog w
     wp_walk using e3
     exact h
theorem AZ(l b:Addr)(items items2:Array Value)(n n2:Nat)(dd dd2:Option Addr)(sl sl2:Array (Option Value))(p:Nat->Bool×Bool):
 Meets (Builtin.«list.__lt__» ⟨[.ref l,.ref b],[]⟩)
  (λA R s=>s.heap.get? l=some {cls:=.type "list",dict:=dd,data:=.seq items n,slots:=sl}/\s.heap.get? b=some {cls:=.type "list",dict:=dd2,data:=.seq items2 n2,slots:=sl2}/\
    (∀j (h1:j<items.size) (h2:j<items2.size),EqAt A.in1 s items[j] items2[j] (p j).1/\((p j).1=false->LtAt A.in1 s items[j] items2[j] (p j).2))/\
    R (.ok (.ret (.bool (gy p (decide (items.size<items2.size)) (min items.size items2.size) 0)))) s):=by
 intro prog w A R s h;obtain⟨hp,g,d,tk,os⟩:=s;obtain⟨hl,hb,he,h⟩:=h;have f3:=AutoSeq1.sub_list_list
 wp_walk using wpAny_loadPart' hl,wpAny_loadPart' hb
 exact⟨Xn plain_eq_loop _,Xj entry_eq_loop (by
  rw[WR plain_eq_loop _]
  exact wL l b items items2 n n2 dd dd2 sl sl2 p _ 0 rfl (WP _) prog w A R _ ⟨hl,hb,he,h⟩)⟩
theorem LtAt.int_int{A:Around}{s:Shared}(a:Int)(t:Tok)(c:Int)(u:Tok):LtAt A s (.int a t) (.int c u) (decide (a<c)):=λprog w E Q h=>CM A s a t c u prog w E Q h
theorem LtAt.lists{A:Around}{s:Shared}{l b:Addr}{c a:Array Value}{p:Nat->Bool×Bool}(u:s.heap.IsList l c)(y:s.heap.IsList b a)(t:A.units<cLine)
 (v:∀j (B:j<c.size) (z:j<a.size),EqAt A.in1 s c[j] a[j] (p j).1/\((p j).1=false->LtAt A.in1 s c[j] a[j] (p j).2)):
 LtAt A s (.ref l) (.ref b) (gy p (decide (c.size<a.size)) (min c.size a.size) 0):=λprog w E Q h=>by
 obtain⟨⟨cls,dd,data,q⟩,k,m,n,hd⟩:=id u;obtain⟨⟨o,i,data2,g⟩,d,f,r,e⟩:=id y;simp only at m hd f e;subst m hd f e
 exact richCompare_meets_room (op:= .Lt) ⟨_,k,rfl⟩ ⟨_,d,rfl⟩ PySem.F.slot_list_lt PySem.F.entry_list_lt (PySem.F.args_list_lt_2 _ _) (AZ l b c a n r dd i q g p)
  ⟨k,d,v,show Value.bool (gy p (decide (c.size<a.size)) (min c.size a.size) 0)≠Value.notImplemented/\Q (.bool (gy p (decide (c.size<a.size)) (min c.size a.size) 0)) s from⟨(λx=>nomatch x),h⟩⟩ t
theorem ql:∀(ns M:List Int) (i:Nat) (f:Nat->Bool×Bool) (t:Bool),(∀j,j<min ns.length M.length->f (i+j)=(decide (ns.getD j 0=M.getD j 0),decide (ns.getD j 0<M.getD j 0)))->t=decide (ns.length<M.length)->
 gy f t (min ns.length M.length) i=fG ns M
 |[],[],i,f,t,h,e=>by rw[e];rfl
 | [],m::M,i,f,t,h,e=>by
   rw[e];show decide (0<(m::M).length)=true;simp
 | n::ns,[],i,f,t,h,e=>by
   rw[e];show decide ((n::ns).length<0)=false;simp
 | n::ns,m::M,i,f,t,h,e=>by
   have e1:min (n::ns).length (m::M).length=min ns.length M.length+1:=by
    rw[VV,VV];omega
   rw[e1,gy,eT];have h0:=h 0 (by rw[e1];omega);rw[Nat.add_zero]at h0;have a:f i=(decide (n=m),decide (n<m)):=h0;rw[a];by_cases q:n=m
   · rw[VL (by simpa using q),VL q]
     exact ql ns M (i+1) f t (λj b=>by
      have:=h (j+1) (by rw[e1];omega)
      rw[show i+1+j=i+(j+1) by omega,this]
      rfl) (by rw[e];simp)
   ·rw[on (by simpa using q),on q]
def lW(a b:Int)(xs:List Int)(c d:Int)(e:List Int):Bool:=if a=c then (if b=d then fG xs e else decide (b<d)) else decide (a<c)
theorem vT(l b:Addr)(items items2:Array Value)(n n2:Nat)(dd dd2:Option Addr)(sl sl2:Array (Option Value))(p:Nat->Bool×Bool):
 Meets (Builtin.«tuple.__lt__» ⟨[.ref l,.ref b],[]⟩)
  (λA R s=>s.heap.get? l=some {cls:=.type "tuple",dict:=dd,data:=.seq items n,slots:=sl}/\s.heap.get? b=some {cls:=.type "tuple",dict:=dd2,data:=.seq items2 n2,slots:=sl2}/\
    (∀j (h1:j<items.size) (h2:j<items2.size),EqAt A.in1 s items[j] items2[j] (p j).1/\((p j).1=false->LtAt A.in1 s items[j] items2[j] (p j).2))/\
    R (.ok (.ret (.bool (gy p (decide (items.size<items2.size)) (min items.size items2.size) 0)))) s):=
 .of_wp λprog w A R s h=>by
  obtain⟨hp,g,d,tk,os⟩:=s;obtain⟨hl,hb,he,h⟩:=h;have f2:=AutoSeq1.sub_tuple_tuple;have zl:(items.toList.zip items2.toList).length=min items.size items2.size:=by rw[List.length_zip,Wu,Wu]
  wp_walk using wpAny_loadPart' hl,wpAny_loadPart' hb,wpAny_forIn_list _ (λeM b s'=>b.1=none/\s'=⟨hp,g,d,tk,os⟩/\∃i,i<=min items.size items2.size/\eM=(items.toList.zip items2.toList).drop i/\
   R (.ok (.ret (.bool (gy p (decide (items.size<items2.size)) (min items.size items2.size-i) i)))) ⟨hp,g,d,tk,os⟩) _
  case turn=>
   rintro⟨y,x⟩ eM b s' ⟨hb',rfl,i,hi,hz,hR⟩
   have hlt:i<min items.size items2.size:=by
    rcases Nat.lt_or_ge i (min items.size items2.size) with q|q
    ·exact q
    ·rw[YJ (by rw[zl];exact q)]at hz;cases hz
   have h1:i<items.size:=by omega
   have h2:i<items2.size:=by omega
   rw[XJ (by rw[zl];exact hlt)]at hz;injection hz with hyx hrest
   rw[List.getElem_zip,Y4,Y4]at hyx;injection hyx with hy hx
   subst hy hx;obtain⟨e1,e2⟩:=he i h1 h2;rw[show min items.size items2.size-i=(min items.size items2.size-(i+1))+1 by omega,gy]at hR;refine VM (e1 prog w _ _ ?_);cases eb:(p i).1 with
   |true=>
     rw[eb,VL rfl]at hR
     wp_walk
     exact⟨rfl,rfl,i+1,by omega,hrest,hR⟩
   |false=>
     rw[eb,on V1]at hR;have e3:=e2 eb prog w
     wp_walk using e3
     exact⟨_,rfl,by simpa using hR⟩
  case fin=>
   rintro⟨b1,b2⟩ s' ⟨hb',rfl,i,hi,hz,hR⟩;simp only at hb';subst hb'
   have hge:min items.size items2.size<=i:=by
    rcases Nat.lt_or_ge i (min items.size items2.size) with q|q
    ·rw[XJ (by rw[zl];exact q)]at hz;cases hz
    ·exact q
   rw[show min items.size items2.size-i=0 by omega,gy]at hR
   wp_walk
   exact⟨_,rfl,by simpa [Builtin.Tuple.tupleCompareSizes] using hR⟩
  case h=>
   exact⟨rfl,rfl,0,WP _,rfl,h⟩
theorem LtAt.tuples{A:Around}{s:Shared}{l b:Addr}{c a:Array Value}{p:Nat->Bool×Bool}(u:s.heap.IsTuple l c)(y:s.heap.IsTuple b a)(t:A.units<cLine)
 (v:∀j (B:j<c.size) (z:j<a.size),EqAt A.in1 s c[j] a[j] (p j).1/\((p j).1=false->LtAt A.in1 s c[j] a[j] (p j).2)):
 LtAt A s (.ref l) (.ref b) (gy p (decide (c.size<a.size)) (min c.size a.size) 0):=λprog w E Q h=>by
 obtain⟨⟨cls,dd,data,q⟩,k,m,n,hd⟩:=id u;obtain⟨⟨o,i,data2,g⟩,d,f,r,e⟩:=id y;simp only at m hd f e;subst m hd f e
 exact richCompare_meets_room (op:= .Lt) ⟨_,k,rfl⟩ ⟨_,d,rfl⟩ PySem.F.slot_tuple_lt PySem.F.entry_tuple_lt (PySem.F.args_tuple_lt_2 _ _) (vT l b c a n r dd i q g p)
  ⟨k,d,v,show Value.bool (gy p (decide (c.size<a.size)) (min c.size a.size) 0)≠Value.notImplemented/\Q (.bool (gy p (decide (c.size<a.size)) (min c.size a.size) 0)) s from⟨(λx=>nomatch x),h⟩⟩ t
end HT
namespace L2
open PySem PySem.Spec PyProof.Rows
theorem jn:∀xs:List Int,HT.fG xs xs=false
 |[]=>rfl
 |x::xs=>by rw[HT.eT,VL rfl,jn xs]
section
variable{X:Cx}{G:L9}{Z:St}{H:Hp}{s:Shared}
theorem Ba{A:Around}{a b:Addr}{ns M:List Int}(I:Inv X G Z H s)(k:SqL X.K H a (ns.map V.int))(h:SqL X.K H b (M.map V.int))(r:A.units+64<cLine):
 SeqAt.EqAt A s (.ref a) (.ref b) (decide (ns=M))/\HT.LtAt A s (.ref a) (.ref b) (HT.fG ns M):=by
 constructor
 ·obtain⟨w,o⟩:=den_reads I _ (uE k) (show RelV (.ref a) (.ref a) from rfl);obtain⟨bs,n⟩:=den_reads I _ (uE h) (show RelV (.ref b) (.ref b) from rfl);rw[<-Fj];exact SeqAt.eqAt_reads _ _ A s _ _ w bs o n (Xz (X7 ns)) (Xz (X7 M)) (SeqAt.room_of_shaped (X7 ns) r)
 · obtain⟨its,g,pl,_⟩:=I.list k;obtain⟨c,d,f,_⟩:=I.list h;have q:its.toArray.size=ns.length:=by rw[V3,<-g.length,VO]
   have l2:c.toArray.size=M.length:=by rw[V3,<-d.length,VO]
   have e:=HT.LtAt.lists (A:=A) (p:=λj=>(decide (ns.getD j 0=M.getD j 0),decide (ns.getD j 0<M.getD j 0))) pl.isList f.isList (by omega) (λj m l=>?_)
   ·rw[q,l2,HT.ql ns M 0 _ _ (λj _=>by rw[Zx]) rfl]at e;exact e
   · obtain⟨t,e1⟩:=dJ g (i:=j) (u:=its.toArray[j]) (by simp at m;simp[m]);obtain⟨u,v⟩:=dJ d (i:=j) (u:=c.toArray[j]) (by simp at l;simp[l]);rw[e1,v];refine⟨?_,λ_=>HT.LtAt.int_int _ _ _ _⟩
     have:=SeqAt.EqAt.int_int (A:=A.in1) (s:=s) (ns.getD j 0) t (M.getD j 0) u
     rwa [show(ns.getD j 0==M.getD j 0)=decide (ns.getD j 0=M.getD j 0) from XY _ _]at this
theorem OM{A:Around}{p q:Addr}{a b c d:Int}{l m:Addr}{xs g:List Int}(P:A.units+100<cLine)(I:Inv X G Z H s)(hp:SqT X.K H p [.int a,.int b,.ref l])(M:SqT X.K H q [.int c,.int d,.ref m])(O:SqL X.K H l (xs.map V.int))(N:SqL X.K H m (g.map V.int)):
 HT.LtAt A s (.ref p) (.ref q) (HT.lW a b xs c d g):=by
 obtain⟨its,h,C,_⟩:=I.tuple hp;obtain⟨x,f,B,_⟩:=I.tuple M;cases h with|cons J h=>cases h with|cons F h=>cases h with|cons E h=>
 cases h;cases f with|cons rc f=>cases f with|cons rd f=>cases f with|cons D f=>
 cases f;obtain⟨ta,rfl⟩:=J;obtain⟨tb,rfl⟩:=F;obtain⟨tc,rfl⟩:=rc;obtain⟨w,rfl⟩:=rd;obtain rfl:_=Value.ref l:=E;obtain rfl:_=Value.ref m:=D;have r:A.in1.units+64<cLine:=by show A.units+1+64<cLine;omega
 obtain⟨el,L⟩:=Ba (A:=A.in1) I O N r
 have z:∀(i j:Int) (t u:Tok),SeqAt.EqAt A.in1 s (.int i t) (.int j u) (decide (i=j)):=λi j t u=>by
  have:=SeqAt.EqAt.int_int (A:=A.in1) (s:=s) i t j u
  rwa [show(i==j)=decide (i=j) from XY _ _]at this
 have o:=HT.LtAt.tuples (A:=A) (s:=s) (p:=λj=>if j=0 then (decide (a=c),decide (a<c)) else if j=1 then (decide (b=d),decide (b<d)) else (decide (xs=g),HT.fG xs g)) C B (by omega) (λj k n=>by
  have v:j<3:=k
  match j,v with
  |0,_=>exact⟨z a c ta tc,λ_=>HT.LtAt.int_int a ta c tc⟩
  |1,_=>exact⟨z b d tb w,λ_=>HT.LtAt.int_int b tb d w⟩
  |2,_=>exact⟨el,λ_=>L⟩)
 have e:HT.gy (λj=>if j=0 then (decide (a=c),decide (a<c)) else if j=1 then (decide (b=d),decide (b<d)) else (decide (xs=g),HT.fG xs g)) (decide (3<3)) 3 0=HT.lW a b xs c d g:=by
  simp only[HT.gy,HT.lW];by_cases k:a=c
  · by_cases n:b=d
    · by_cases y:xs=g
      ·subst y;simp[k,n,jn]
      ·simp[k,n,y]
    ·simp[k,n]
  ·simp[k]
 exact e▸o
end
end L2
namespace Gd
open PySem L2
theorem P9:bootBuiltins "len" = some (.builtin "len"):=by decide +kernel
theorem P7:bootBuiltins "min" = some (.builtin "min"):=by decide +kernel
theorem P8:bootBuiltins "max" = some (.builtin "max"):=by decide +kernel
theorem pS:bootBuiltins "isinstance" = some (.builtin "isinstance"):=by decide +kernel
theorem P6:bootBuiltins "set" = some (.type "set"):=by decide +kernel
theorem Jp:bootBuiltins "list" = some (.type "list"):=by decide +kernel
theorem Go:bootBuiltins "tuple" = some (.type "tuple"):=by decide +kernel
theorem Jq:bootBuiltins "bool" = some (.type "bool"):=by decide +kernel
theorem Qa:bootBuiltins "int" = some (.type "int"):=by decide +kernel
theorem tK{H H':Hp}{q:Addr}{o:HO}(h:H q=none)(e:Same H H'):Same H (upd H' q o):=λb u z=>by
 rw[ao (aR z h)];exact e b u z
theorem b8{H:Hp}{q:Addr}{o:HO}(h:H q=none):Same H (upd H q o):=tK h (Same.refl H)
def rN(e:PySem.Expr):Scope:=match e with
 |.ListComp _ _ sc _=>sc
 |_=>{kind:=.function,names:=[],isGenerator:=false,isCoroutine:=false,more:=[]}
def BY(s:Stmt):PySem.Expr:=match s with
 |.Assign _ v _=>v
 |.Return (some v) _=>v
 |.Expr v _=>v
 |.For _ a _ _ _=>a
 |.If t _ _ _=>t
 |_=> .Constant .none 0 ⟨0,0,0,0⟩
def nth(l:List Stmt)(i:Nat):Stmt:=l.getD i (.Pass ⟨0,0,0,0⟩)
abbrev AL:=List (List Int×Int)
abbrev kI(k:List Int):List ay:=k.map Sum.inl
def bp(D:AL):List (List ay×V):=D.map λp=>(kI p.1,V.int p.2)
def look(D:AL)(k:List Int):Option Int:=(D.find? λp=>decide (p.1=k)).map (·.2)
end Gd
namespace HR
open PySem MeetsSeq
theorem rn(l:Addr)(items:Array Value)(n:Nat)(x:Value)(e:Nat->Bool)(j:Nat)(hj:j<items.size)(hit:e j=true)(hs1:items.size<=sizeLine)(k:Nat):
 ∀i:Nat,j-i=k->i<=j->(∀m,i<=m->m<j->e m=false)->Meets (Builtin.«list.remove.loop» ⟨[.ref l,x,rawInt i],[]⟩)
  (λA R s=>s.heap.get? l=some {cls:=.type "list",dict:=none,data:=.seq items n,slots:=#[]}/\(∀m (h:m<items.size),m<=j->SeqAt.EqAt A.in1 s items[m] x (e m))/\
    R (.ok (.ret .none)) {s with heap:=s.heap.update l (Obj.mapSeq λxs=>xs.eraseIdxIfInBounds j)}):=by
 induction k with
 |zero=>
   intro i hk hij hno prog w A R s h;obtain⟨hp,g,d,tk,os⟩:=s;obtain⟨hl,he,h⟩:=h;have hij':i=j:=by omega
   subst hij'
   wp_walk using wpAny_loadPart' hl
   have hi:items[((i:Nat):Int).toNat]?=some items[i]:=by simp[hj]
   rw[hi];refine VM (he i hj (V2 _) prog w _ _ ?_);rw[hit];have hz':(items.eraseIdxIfInBounds i).size<=sizeLine+1:=Wl (size_erased items _) (Yr hs1)
   wp_walk using(wpAny_updateSeq hl rfl (hz:=hs1) (_hz':=hz')),wpAny_loadPart' hl
   simpa using h
 |succ k ih=>
   intro i hk hij hno prog w A R s h;obtain⟨hp,g,d,tk,os⟩:=s;obtain⟨hl,he,h⟩:=h;have hlt:i<items.size:=by omega
   wp_walk using wpAny_loadPart' hl
   have hi:items[((i:Nat):Int).toNat]?=some items[i]:=by simp[hlt]
   have hc:((i:Int)+1)=((i+1:Nat):Int):=by push_cast;rfl
   rw[hi];refine VM (he i hlt hij prog w _ _ ?_);rw[hno i (V2 _) (by omega)]
   wp_walk
   rw[hc]
   exact⟨Xn plain_remove_loop _,Xj entry_remove_loop (by
    rw[WR plain_remove_loop _]
    exact ih (i+1) (by omega) (by omega) (λm h1 h2=>hno m (by omega) h2) prog w A R _ ⟨hl,he,h⟩)⟩
theorem rJ(l:Addr)(items:Array Value)(n:Nat)(x:Value)(e:Nat->Bool)(j:Nat)(hj:j<items.size)
 (hit:e j=true) (hno:∀m,m<j->e m=false) (hs1:items.size<=sizeLine):
 Meets (Builtin.«list.remove» ⟨[.ref l,x],[]⟩)
  (λA R s=>s.heap.get? l=some {cls:=.type "list",dict:=none,data:=.seq items n,slots:=#[]}/\(∀m (h:m<items.size),m<=j->SeqAt.EqAt A.in1 s items[m] x (e m))/\
    R (.ok (.ret .none)) {s with heap:=s.heap.update l (Obj.mapSeq λxs=>xs.eraseIdxIfInBounds j)}):=by
 intro prog w A R s h;obtain⟨hp,g,d,tk,os⟩:=s;obtain⟨hl,he,h⟩:=h
 wp_walk using wpAny_loadPart' hl
 exact⟨Xn plain_remove_loop _,Xj entry_remove_loop (by
  rw[WR plain_remove_loop _]
  exact rn l items n x e j hj hit hs1 _ 0 rfl (WP _) (λm _ h2=>hno m h2) prog w A R _ ⟨hl,he,h⟩)⟩
end HR
namespace L2
open PySem PySem.Spec PyProof.Rows
theorem lZ{W X:Type}[DecidableEq W]{k:W}:∀{xs:List (W×X)},k∉xs.map (·.1)->(xs.filter λx=>decide (x.1≠k))=xs
 |[],_=>rfl
 | x::r,h=>by
   rw[VN,VY,not_or]at h;rw[WQ,VL (by simpa using Xp h.1),lZ h.2]
theorem gC{W X:Type}[DecidableEq W]{k:W}:∀{xs:List (W×X)} {j:Nat} {p:X},(xs.map (·.1)).Nodup->xs[j]?=some (k,p)->xs.eraseIdx j=xs.filter λx=>decide (x.1≠k)
 |[],j,p,_,h=>by simp at h
 | x::r,0,p,a,h=>by
   simp at h;subst h;rw[VN,Wc]at a;rw[WQ,on (by simp),lZ a.1];rfl
 | x::r,j+1,p,a,h=>by
   rw[VN,Wc]at a;have h':r[j]?=some (k,p):=by simpa using h
   have:x.1≠k:=λz=>a.1 (by rw[z];exact We.mpr ⟨(k,p),Wz h',rfl⟩)
   rw[WQ,VL (by simpa using this),WH,gC a.2 h']
theorem la{W X:Type}{f:W->X}:∀{l:List W} {j:Nat},(l.map f).eraseIdx j=(l.eraseIdx j).map f
 |[],_=>rfl
 |_::_,0=>rfl
 |x::r,j+1=>by rw[VN,WH,WH,VN,la]
theorem KT.drop{H:Hp}{kvs:List (List ay×V)}{xs:List (List ay×Addr×Value)}(r:KT H kvs xs)(k:List ay):KT H (dU kvs k) (xs.filter λx=>decide (x.1≠k)):=by
 induction r with
 |nil=>exact .nil
 |@cons p q ps b h t a=>
   unfold dU at a ⊢;rw[List.filter_cons,List.filter_cons];by_cases e:p.1=k
   ·rw[on (by simp[e]),on (by simp[h.1.symm.trans e])];exact a
   ·rw[VL (by simpa using e),VL (by simpa using λz=>e (h.1.trans z))];exact .cons h a
section
variable{X:Cx}{G:L9}{Z:St}{H:Hp}{s:Shared}{a b:Addr}{kvs:List (List ay×V)}{k:List ay}{v:V}{A:Around}{E:LV}
theorem O9{Q:LV}(P:A.units+1<cLine)(I:Inv X G Z H s)(e:H a=some (.dT kvs))(U:H b=some (.tup (k.map kV)))(l:cA kvs k=some v)
 (h:∀r M,Inv X G Z (upd H a (.dT (dU kvs k))) M->RelV v r->Q r M):wpAny (model X.prog X.w) A (call (.builtin "dict.pop") [.ref a,.ref b]) Q E s:=by
 obtain⟨z,hd,xs,i,dd⟩:=Fs I.hok e;have hz:xs.length<=sizeLine:=by rw[<-WX i];exact z
 have g:=eV I.hok U;have f:=tupleKind_room_in1 (knd:=aq X.prog X.w) P;have N:=dd.typeIs;obtain⟨o,m,ep,n,T,d,x,K,u⟩:=dd;obtain⟨r,t,y⟩:=RelO.some_of (v:=v) (o:=(atKey xs k).map (·.2)) (by rw[<-l];exact i.val k);have S:m.size=xs.length:=size_of_entries x;refine wpAny_call_entry PySem.F.slot_dict_pop N PySem.F.entry_dict_pop ?_ (PySem.F.args_dict_pop_2 _ _);unfold Builtin.«dict.pop»;refine wpAny_bind ?_;unfold Builtin.Dict.keyAndDefault;refine wpAny_bind (wpAny_notOrdered_dict N ?_);show wpAny _ _ (pure (a,Value.ref b,none)) _ _ s;refine wpAny_pure ?_;dsimp only;rw[if_neg (by simp[keyPart])];refine wpAny_bind (wpAny_dictEntries n d ?_);refine wpAny_bind (wpAny_pure ?_)
 have D:m.isEmpty=false:=by
  cases q:m.isEmpty with
  |false=>rfl
  |true=>
    have:xs=[]:=by
     have e1:m.size=0:=by simpa using q
     exact Wx.mp (by omega)
    subst this;cases t
 rw[D,if_neg Bool.false_ne_true];refine wpAny_bind ?_;unfold Builtin.Dict.takeOut
 try with_reducible refine Xa ?_
 refine VM ((tupleKind (aq X.prog X.w)).pyHash f g ?_);refine VM (wpAny_dictFind_heap (knd:=tupleKind (aq X.prog X.w)) (s:={s with toks:=s.toks+(tupleKind (aq X.prog X.w)).draws k}) f g n d x K u ?_ ?_)
 ·intro C;rw[atKey_none_of_get C]at t;cases t
 · intro j p J;have hp:atKey xs k=some p:=atKey_of_get u J;rw[hp]at t;have B:p.2=r:=Wa t;refine VM (Xl (s:={s with toks:=s.toks+(tupleKind (aq X.prog X.w)).draws k}) n d ?_);rw[entry_at x j,J];refine VM (wpAny_updateDictKeys (hz:=by omega) (s:={s with toks:=s.toks+(tupleKind (aq X.prog X.w)).draws k}) n d (VX ?_));rw[on (by simp)];refine VM (XS (VX ⟨_,rfl,?_⟩));show Q p.2 _;rw[B];refine h r _ ?_ y;have R:=XN s.heap a (Obj.mapDictKeys λm=>m.eraseIdxIfInBounds j);refine kl (s:=s) (t':=s.toks+(tupleKind (aq X.prog X.w)).draws k) I (by rw[e];exact True.intro) R ⟨_,Wr _ n (W7 (WA d _))⟩ ⟨Wl (nY kvs k) z,hd,_,(i.drop k).keeps λc V O=>?_,_,_,ep+1,Wr _ n (W7 (WA d _)),T.mapDictKeys _,WA d _,?_,?_⟩
   ·rw[ao (DH O e (λz=>nomatch z))];exact O
   ·rw[<-gC u J];obtain⟨el⟩:=m;have L:el=xs.map (entryOfKey (tupleKind (aq X.prog X.w))):=x;rw[WU];show el.eraseIdx j=_;rw[L];exact la
   ·exact(u.sublist ((List.filter_sublist).map _))
end
theorem uD{K:F0}{H:Hp}:∀{ds:List PyData} {xs:List V} {m:Nat} {x:V},Dens K H ds xs->xs[m]?=some x->∃d,ds[m]?=some d/\Den K H d x
 | [],xs,m,x,h,e=>by
   rw[Dens]at h;subst h;cases e
 | d::ds,xs,m,x,h,e=>by
   rw[Dens]at h;obtain⟨y,r,rfl,b,a⟩:=h;cases m with
   |zero=>
     cases e;exact⟨d,rfl,b⟩
   |succ m=>exact uD (m:=m) a e
theorem uC{K:F0}{H:Hp}:∀{ds:List PyData} {xs:List V},Dens K H ds xs->ds.length=xs.length
 |[],xs,h=>by rw[Dens]at h;subst h;rfl
 | d::ds,xs,h=>by
   rw[Dens]at h;obtain⟨y,r,rfl,b,a⟩:=h;rw[VV,VV,uC a]
def yn(K:F0):V->List V->Hp->VK->Prop:=λx vs H Q=>∃l xs y d ds j,x=.ref l/\vs=[y]/\H l=some (.lst xs)/\Den K H d y/\Dens K H ds xs/\SeqAt.shaped d=true/\(∀z∈ds,SeqAt.shaped z=true)/\j<ds.length/\
 (∀m e,ds[m]?=some e->m<=j->PyData.eqv e d=decide (m=j))/\Q .non (upd H l (.lst (xs.eraseIdx j)))
theorem AS{X:Cx}(S:X.A.units+66<cLine):VF X "list.remove" (yn X.K):=by
 intro G s Z H x vs v us Q I C D h;obtain⟨l,xs,y,d,ds,j,rfl,rfl,p,hd,b,B,a,U,k,q⟩:=h;cases C;obtain⟨u,rfl,E⟩:=D.one;obtain⟨z,its,n,r,T,e⟩:=I.lstM p;have R:=uC b
 refine YH Yt ⟨_,e,rfl⟩ PySem.F.entry_list_remove (PySem.F.args_list_remove_2 _ _)
  (HR.rJ l its.toArray n u (λm=>decide (m=j)) j (by rw[V3];omega) (by simp) (λm i=>by simpa using Wk i) (by rw[V3];omega)) ⟨e,λm i f=>?_,?_⟩
 · have g:m<its.length:=by simpa using i
   have o:xs[m]?=some xs[m]:=V4 (by omega);obtain⟨c,e1,O⟩:=uD b o;obtain⟨w,t,J⟩:=r.get o
   have N:its.toArray[m]=w:=by
    rw[V4 g]at t;simpa using t
   rw[N,<-k m c e1 f];obtain⟨P,M⟩:=den_reads I c O J;obtain⟨bs,L⟩:=den_reads I d hd E;exact SeqAt.eqAt_reads _ _ X.A.in1 s _ _ P bs M L (Xz (a c (Wz e1))) (Xz B) (SeqAt.room_of_shaped (a c (Wz e1)) (by show X.A.units+1+64<cLine;omega))
 · refine⟨.non,_,I.lset (its':=its.eraseIdx j) p e ?_ (r.eraseIdx j) ?_,rfl,q⟩
   ·show its.toArray.eraseIdxIfInBounds j=(its.eraseIdx j).toArray;rw[WU]
   · have:=lc xs j
     omega
def vX(d ty:TE):TE:=λZ H Q=>d Z H λx H1=>∃a,x=.ref a/\LD H1 a/\ty Z H1 λy c=>∃kvs k b v,c a=some (.dT kvs)/\y=.ref b/\c b=some (.tup (k.map kV))/\cA kvs k=some v/\Q v (upd c a (.dT (dU kvs k)))
theorem C8{X:Cx}{o e:Expr}{f c:Pos}{i ty:TE}(C:X.A.units+1<cLine)(D:PE X o i)(E:PE X e ty)(m:M1 X o "pop" f e c):PE X (.Call (.Attribute o "pop" f) [e] [] c) (vX i ty):=by
 intro G s Z H Q I h;refine XE m.base m.few m.line WG Xf XX (bb (D G s Z H _ I h) λu q ⟨x,H1,j,t,a,ex,d,z⟩=>?_);subst ex;obtain rfl:u=Value.ref a:=t;obtain⟨p,n,_⟩:=lq j d;refine⟨p,n,?_⟩;rw[m.trees];refine WK rfl (WZ (WC (bb (E G q Z H1 _ j z) λB P ⟨y,R,M,r,kvs,k,b,v,K,F,J,l,w⟩=>W5 ?_)));subst F;obtain rfl:B=Value.ref b:=r;exact O9 C M K J l λN O L g=>⟨v,_,L,g,w⟩
theorem mU:∀{bs:List Bool} {us:List Value} {i:Nat} {u:Value},Vals (bs.map V.bl) us->us[i]?=some u->u=.bool (bs.getD i false)
 | [],us,i,u,r,e=>by
   cases r;cases e
 | b::bs,us,i,u,r,e=>by
   rw[VN]at r;cases r with
   |cons c a=>
     cases i with
     |zero=>
       cases e;exact c
     |succ i=>
       show u=.bool (bs.getD i false);exact mU (bs:=bs) (i:=i) a (by simpa using e)
theorem m8(bs:List Bool):((List.range bs.length).any λi=>bs.getD i false)=bs.any id:=by
 induction bs with
 |nil=>rfl
 |cons b bs a=>
   rw[VV,List.range_succ_eq_map,XC,List.any_map,XC,<-a];rfl
theorem Bt{X:Cx}(w:X.calm=true):cz X (.builtin "any") (λxs H Q=>∃p,∃bs:List Bool,xs=[.ref p]/\SqL X.K H p (bs.map V.bl)/\Q (.bl (bs.any id)) H):=by
 intro G s Z H xs us Q I r h;obtain⟨p,bs,rfl,t,q⟩:=h;obtain⟨u,rfl,l⟩:=Vals.one r;have c:u=Value.ref p:=l;subst c;obtain⟨its,j,pl,hz⟩:=I.list t;have n:bs.length=its.length:=by rw[<-j.length,VO]
 obtain⟨m,a,g,f⟩:=id pl.isList;have d:p<s.heap.objs.size:=VZ a;refine call_any_walk (XU pl.isList ⟨s.heap.objs.size,_,_,_,_,_,λi=>bs.getD i false,rfl,Walks.list (A:=X.A.in1) (I.ok.hd w) _ p (Wk d) its.toArray,⟨⟨_,V8 _ rfl,rfl,rfl⟩,⟨m,VT _ a,g,f⟩⟩,λi v C D E y x=>?_,λh' B kp=>?_⟩)
 ·have e:=mU j (i:=i) (u:=v) (by simpa using y);rw[e];exact W4 x
 · have e:((List.range its.toArray.size).any λi=>bs.getD i false)=bs.any id:=by
    rw[V3,<-n];exact m8 bs
   rw[e];refine⟨.bl _,H,I.kept λb o q=>kp b o (λz=>?_) (VT _ q),rfl,q⟩;have k:b=s.heap.objs.size:=by simpa using z
   exact absurd (VZ q) (by rw[k];exact WI _)
def Qt(K:F0)(H:Hp)(v:V)(k:Int×Int×List Int):Prop:=∃p l,v=.ref p/\SqT K H p [.int k.1,.int k.2.1,.ref l]/\SqL K H l (k.2.2.map V.int)
def bj(a b:Int×Int×List Int):Bool:=HT.lW a.1 a.2.1 a.2.2 b.1 b.2.1 b.2.2
theorem mG:∀{vs:List V} {us:List Value} {i:Nat} {u:Value},Vals vs us->us[i]?=some u->∃v,vs[i]?=some v/\RelV v u
 |[],us,i,u,r,e=>by cases r;cases e
 | v::vs,us,i,u,r,e=>by
   cases r with
   |cons b a=>
     cases i with
     |zero=>cases e;exact⟨v,rfl,b⟩
     |succ i=>exact mG (i:=i) a (by simpa using e)
theorem jF(a:Nat->Nat->Bool):∀k,argBest a k<=k
 |0=>V2 _
 | k+1=>by
   unfold argBest;split
   ·exact V2 _
   ·exact Yr (jF a k)
theorem xE{X:Cx}(hc:X.calm=true)(hu:X.A.units+101<cLine):fV X (.builtin "min") ["default"] (λxs E H Q=>∃p vs d,∃c:List (Int×Int×List Int),xs=[.ref p]/\E=[d]/\SqL X.K H p vs/\vs.length=c.length/\(∀i v,vs[i]?=some v->Qt X.K H v (c.getD i (0,0,[])))/\
 (vs=[]->Q d H)/\∀v,vs[argBest (λi j=>bj (c.getD i (0,0,[])) (c.getD j (0,0,[]))) (vs.length-1)]?=some v->Q v H):=by
 intro G s Z H xs E us ws Q I r S h;obtain⟨p,vs,d,c,rfl,rfl,hq,N,O,W,V⟩:=h;obtain⟨u,rfl,T⟩:=Vals.one r;have t:u=Value.ref p:=T;subst t;obtain⟨dv,rfl,rd⟩:=Vals.one S;obtain⟨its,l,pl,hz⟩:=I.list hq;have M:vs.length=its.length:=l.length;obtain⟨ol,g,D,C⟩:=id pl.isList;have k:p<s.heap.objs.size:=VZ g;refine vD false (XU pl.isList ⟨s.heap.objs.size,_,_,_,_,_,λi j=>bj (c.getD i (0,0,[])) (c.getD j (0,0,[])),λn=>∃h' f,n={s with heap:=h',toks:=f}/\∀b o,s.heap.get? b=some o->h'.get? b=some o,rfl,Walks.list (A:=X.A.in1) (I.ok.hd hc) _ p (Wk k) its.toArray,⟨⟨_,V8 _ rfl,rfl,rfl⟩,⟨ol,VT _ g,D,C⟩⟩,λb hb=>?_,?_,?_,?_,λe h' f kp=>?_,λe v h' f pv kp=>?_⟩)
 · rw[XG];rcases VY.mp hb with z|z
   ·rw[z];exact XH _
   · have a:b=p:=by simpa using z
     rw[a];exact Yo k
 ·exact⟨_,_,rfl,λb o e=>VT _ e⟩
 · rintro n h' f ⟨P,L,rfl,y⟩ kp;refine⟨h',f,rfl,λb o e=>kp b o (λz=>?_) (λz=>?_) (y b o e)⟩
   · have a:b=s.heap.objs.size:=by simpa using z
     exact absurd (VZ e) (by rw[a];exact WI _)
   · have a:b=s.heap.objs.size+1:=by rw[z,XG]
     exact absurd (VZ e) (by rw[a];exact Nat.not_lt.mpr (Nat.le_succ _))
 ·rintro i j J F n Q' E' ⟨P,L,rfl,y⟩ pi Y B;have I1:Inv X G Z H {s with heap:=P,toks:=L}:=I.kept y;obtain⟨m,e1,x⟩:=mG l (i:=i) (u:=J) (by simpa using pi);obtain⟨R,e2,U⟩:=mG l (i:=j) (u:=F) (by simpa using Y);obtain⟨p1,l1,rfl,a1,b1⟩:=O i m e1;obtain⟨p2,l2,rfl,a2,b2⟩:=O j R e2;obtain rfl:J=Value.ref p1:=x;obtain rfl:F=Value.ref p2:=U;exact OM (A:=X.A.in1) (by show X.A.units+1+100<cLine;omega) I1 a1 a2 b1 b2 X.prog X.w E' Q' B
 · have en:vs=[]:=Wx.mp (by rw[M];simpa using e);refine⟨d,H,I.kept λb o q=>kp b o (λz=>?_) (VT _ q),rd,W en⟩;have a:b=s.heap.objs.size:=by simpa using z
   exact absurd (VZ q) (by rw[a];exact WI _)
 · rw[show its.toArray.size-1=vs.length-1 by rw[V3,M],YV]at pv;obtain⟨m,e1,x⟩:=mG l pv;refine⟨m,H,I.kept λb o q=>kp b o (λz=>?_) (VT _ q),x,V _ e1⟩;have a:b=s.heap.objs.size:=by simpa using z
   exact absurd (VZ q) (by rw[a];exact WI _)
end L2
namespace Mi
open PySem L2
inductive D where
 |non|bl (b:Bool)|int (i:Int)|str (x:Str)|ty (n:String)
 |lst (xs:List D)|tup (xs:List D)|scr (xs:List D)
 |dK (ks:List ay) (vs:List D)|dT (ks:List (List ay)) (vs:List D)
 |obj (c:Nat) (ns:List Str) (vs:List D)
abbrev P1:=List (Option D)
inductive Res (W:Type) where
 |ok (a:W)|exc (c:Nat)|bad
inductive Out (W:Type) where
 |ok (a:W) (T:P1)|exc (c:Nat) (T:P1)|bad
inductive SO where
 |nx (T:P1)|rt (d:D) (T:P1)|bk (T:P1)|ct (T:P1)|exc (c:Nat) (T:P1)|bad
@[simp] def Res.bind{W X:Type}:Res W->(W->Res X)->Res X
 |.ok a,f=>f a
 |.exc c,_=>.exc c
 |.bad,_=>.bad
@[simp] def Res.calm{W:Type}:Res W->Res W
 |.ok a=>.ok a
 |_=>.bad
@[simp] def Out.bind{W X:Type}:Out W->(W->P1->Out X)->Out X
 |.ok a T,f=>f a T
 |.exc c T,_=>.exc c T
 |.bad,_=>.bad
@[simp] def Res.up{W:Type}(T:P1):Res W->Out W
 |.ok a=>.ok a T
 |.exc c=>.exc c T
 |.bad=>.bad
def rg{W:Type}(l:List (Option W))(i:Nat):Option W:=(l[i]?).join
@[simp] def vr(i:Nat):P1->Res D:=λT=>match rg T i with|some d=>.ok d|none=>.bad
def ax(d:D):P1->Res D:=λ_=>.ok d
def un(f:D->Res D)(a:P1->Res D):P1->Res D:=λT=>(a T).bind f
def bn(f:D->D->Res D)(a b:P1->Res D):P1->Res D:=λT=>(a T).bind λx=>(b T).bind λy=>f x y
def af:Nat:=1000000
def iI(g:Int->Int->Int):D->D->Res D | .int i,.int j=>.ok (.int (g i j))|_,_=>.bad
def iB(g:Int->Int->Bool):D->D->Res D | .int i,.int j=>.ok (.bl (g i j))|_,_=>.bad
def iC(C:Int->Int->Bool)(g:Int->Int->Int):D->D->Res D | .int i,.int j=>if C i j=true then .ok (.int (g i j)) else .bad|_,_=>.bad
def iO:=iI λi j=>i+j
def Af:=iI λi j=>i-j
def rF:=iC (λi j=>decide ((-(2 ^ 64)<i/\i<2 ^ 64)\/(-(2 ^ 64)<j/\j<2 ^ 64))) λi j=>i*j
def hV:=iC (λ_ j=>decide (0<j/\j<1073741824)) λi j=>i / j
def f6:=iC (λ_ j=>decide (0<j)) λi j=>i%j
def Cb:=iC (λ_ j=>decide (0<=j)) λi j=>i / 2 ^ j.toNat
def pM:=iI λi j=>if j<i then j else i
def pO:=iI λi j=>if j>i then j else i
def GN:=iB λi j=>decide (i<j)
def Ff:=iB λi j=>decide (j<i)
def Tg:=iB λi j=>decide (j<=i)
@[simp] theorem Uh(i j:Int):iO (.int i) (.int j)=.ok (.int (i+j)):=rfl
@[simp] theorem QO(i j:Int):Af (.int i) (.int j)=.ok (.int (i-j)):=rfl
@[simp] theorem DL(i j:Int):rF (.int i) (.int j)=if (-(2 ^ 64)<i/\i<2 ^ 64)\/(-(2 ^ 64)<j/\j<2 ^ 64) then .ok (.int (i*j)) else .bad:=by simp[rF,iC]
@[simp] theorem Be(i j:Int):hV (.int i) (.int j)=if 0<j/\j<1073741824 then .ok (.int (i / j)) else .bad:=by simp[hV,iC]
@[simp] theorem DO(i j:Int):f6 (.int i) (.int j)=if 0<j then .ok (.int (i%j)) else .bad:=by simp[f6,iC]
@[simp] theorem Ca(i j:Int):Cb (.int i) (.int j)=if 0<=j then .ok (.int (i / 2 ^ j.toNat)) else .bad:=by simp[Cb,iC]
@[simp] theorem SZ(i j:Int):pM (.int i) (.int j)=.ok (.int (if j<i then j else i)):=rfl
@[simp] theorem S4(i j:Int):pO (.int i) (.int j)=.ok (.int (if j>i then j else i)):=rfl
@[simp] theorem UG(i j:Int):GN (.int i) (.int j)=.ok (.bl (decide (i<j))):=rfl
@[simp] theorem UJ(i j:Int):Ff (.int i) (.int j)=.ok (.bl (decide (j<i))):=rfl
@[simp] theorem UK(i j:Int):Tg (.int i) (.int j)=.ok (.bl (decide (j<=i))):=rfl
def DG:D->Res D | .int i=>.ok (.int (-i))|_=>.bad
def IA:D->Res D | .bl b=>.ok (.bl (!b))|_=>.bad
def mQ(neg:Bool):D->D->Res D
 |.int i,.int j=>.ok (.bl (neg.xor (decide (i=j))))
 |.str i,.str j=>.ok (.bl (neg.xor (decide (i=j))))
 |.bl i,.bl j=>.ok (.bl (neg.xor (decide (i=j))))
 |.non,.int _=>.ok (.bl neg)
 |.int _,.non=>.ok (.bl neg)
 |.non,.non=>.ok (.bl (!neg))
 |_,_=>.bad
def lX:D->Bool | .non=>true|_=>false
def Jz:D->Res D | .int i=>.ok (.int (if i<0 then -i else i))|_=>.bad
def iD:D->Res D
 |.lst xs=>.ok (.int xs.length)
 |.tup xs=>.ok (.int xs.length)
 |.scr xs=>.ok (.int xs.length)
 |_=>.bad
def Jv(xs:List D)(i:Int):Res D:=match iZ xs i with|some d=>.ok d|none=>.bad
def pH:D->D->Res D | .lst xs,.int i=>Jv xs i | .scr xs,.int i=>Jv xs i|_,_=>.bad
def yI:D->D->Res D | .tup xs,.int i=>Jv xs i|_,_=>.bad
def Jo:D->D->Res D | .lst xs,.lst a=>if xs.length+a.length<=af then .ok (.lst (xs++a)) else .bad|_,_=>.bad
def lb:D->Res D | .lst xs=>.ok (.lst xs) | .scr xs=>.ok (.lst xs) | .tup xs=>.ok (.lst xs)|_=>.bad
def bA:D->Option ay | .int i=>some (.inl i) | .str x=>some (.inr x)|_=>none
def bC:List D->Option (List ay)
 |[]=>some []
 |d::r=>match bA d,bC r with|some k,some a=>some (k::a)|_,_=>none
section
variable{W:Type}[DecidableEq W]
def aZ:List W->List D->W->Option D
 |k::a,d::ds,j=>if k=j then some d else aZ a ds j
 |_,_,_=>none
def bV(a:List W)(j:W):Bool:=a.any λk=>decide (k=j)
def im:List W->List D->W->D->List D
 |k::a,d::ds,j,x=>(if k=j then x else d)::im a ds j x
 |_,_,_,_=>[]
def cW:List W->List D->W->D->List D
 |k::a,d::ds,j,x=>if k=j then x::ds else d::cW a ds j x
 |_,_,_,_=>[]
end
def jc:D->D->Option (Option D)
 |.dT a vs,.tup k=>(bC k).map λk=>aZ a vs k
 |.dK a vs,k=>(bA k).map λk=>aZ a vs k
 |_,_=>none
def l7(d k:D):Res D:=match jc d k with|some (some x)=>.ok x|_=>.bad
def mE(neg:Bool)(k d:D):Res D:=match jc d k with|some x=>.ok (.bl (neg.xor x.isSome))|none=>.bad
def fT(d k x:D):Res D:=match jc d k with|some (some y)=>.ok y|some none=>.ok x|none=>.bad
def qG:D->D->D->Option D
 |.dT a vs,.tup k,x=>(bC k).bind λk=>if a.length<af then some (if bV a k=true then .dT a (im a vs k x) else .dT (a++[k]) (vs++[x])) else none
 |.dK a vs,k,x=>(bA k).bind λk=>if a.length<af then some (if bV a k=true then .dK a (im a vs k x) else .dK (a++[k]) (vs++[x])) else none
 |_,_,_=>none
def bv(c:Nat)(f:Str):D->Res D
 |.obj a ns vs=>if a=c then (match aZ ns vs f with|some x=>.ok x|none=>.bad) else .bad
 |_=>.bad
def lO(a:Nat)(f:Str)(x:D):D->Option D
 |.obj c ns vs=>if c=a/\ns.length<900 then some (if bV ns f=true then .obj c ns (cW ns vs f x) else .obj c (ns++[f]) (vs++[x])) else none
 |_=>none
def GT:D->Res Bool | .bl b=>.ok b|_=>.bad
def Bx(a b:P1->Res D):P1->Res D:=λT=>((a T).bind GT).bind λc=>if c=true then b T else .ok (.bl false)
def aE:P1->Res (List D):=λ_=>.ok []
def am(a:P1->Res D)(r:P1->Res (List D)):P1->Res (List D):=λT=>(a T).bind λx=>(r T).bind λxs=>.ok (x::xs)
def lQ(r:P1->Res (List D)):P1->Res D:=λT=>(r T).bind λxs=>if xs.length<=af then .ok (.lst xs) else .bad
def i4(r:P1->Res (List D)):P1->Res D:=λT=>(r T).bind λxs=>if xs.length<=af then .ok (.tup xs) else .bad
def dG(T:P1)(a:List Nat):P1:=a.map λj=>rg T j
def a7(a:P1->Res Bool)(te:P1->Res D)(cap:P1):List D->Res (List D)
 |[]=>.ok []
 |d::r=>(a (some d::cap)).calm.bind λc=>if c=true then (te (some d::cap)).calm.bind λx=>(a7 a te cap r).bind λxs=>.ok (x::xs) else a7 a te cap r
def i6(src:P1->Res (List D))(c:List Nat)(b:P1->Res Bool)(te:P1->Res D):P1->Res D:=λT=>(src T).bind λxs=>if xs.length<af then (a7 b te (dG T c) xs).bind λa=>.ok (.lst a) else .bad
def i0(a:P1->Res D):P1->Res (List D):=λT=>(a T).bind λd=>match d with | .lst xs=>.ok xs | .scr xs=>.ok xs|_=>.bad
def rng(lo hi:Int):List D:=(List.range (hi-lo).toNat).map λi:Nat=>D.int (lo+i)
def v7(a b:P1->Res D):P1->Res (List D):=λT=>(a T).bind λx=>(b T).bind λy=>match x,y with
 |.int i,.int j=>if -(2 ^ 62)<=i/\i<2 ^ 62/\-(2 ^ 62)<=j/\j<2 ^ 62 then .ok (rng i j) else .bad
 |_,_=>.bad
def fq(b:P1->Res D):P1->Res (List D):=v7 (ax (.int 0)) b
def ah(a b:P1->SO):P1->SO:=λT=>match a T with | .nx G=>b G | o=>o
def ba:P1->SO:=λT=>.nx T
def Hu:P1->SO:=λT=>.rt .non T
@[simp] def fW{W:Type}:Out W->(W->P1->SO)->SO
 |.ok a T,f=>f a T
 |.exc c T,_=>.exc c T
 |.bad,_=>.bad
abbrev MD:=P1->Out D
def av{W:Type}(a:P1->Res W):P1->Out W:=λT=>(a T).up T
def bD(a:MD):P1->SO:=λT=>fW (a T) λd G=>.rt d G
def aB(a:MD):P1->SO:=λT=>fW (a T) λ_ G=>.nx G
def bE(i:Nat)(a:MD):P1->SO:=λT=>fW (a T) λd G=>.nx (G.set i (some d))
def gb(c:P1->Out Bool)(a b:P1->SO):P1->SO:=λT=>fW (c T) λt G=>if t=true then a G else b G
def rV(b:D->P1->Option P1)(a:P1->SO):List D->P1->SO
 |[],T=>.nx T
 | d::ds,T=>match b d T with
   |none=>.bad
   | some c=>match a c with
     |.nx G=>rV b a ds G
     |.ct G=>rV b a ds G
     |.bk G=>.nx G
     |o=>o
def dh(src:P1->Out (List D))(b:D->P1->Option P1)(a:P1->SO):P1->SO:=λT=>fW (src T) λxs G=>rV b a xs G
def vP(c:P1->Out Bool)(a:P1->SO):Nat->P1->SO
 |0,_=>.bad
 | n+1,T=>fW (c T) λt b=>if t=true then (match a b with
    |.nx G=>vP c a n G
    |.ct G=>vP c a n G
    |.bk G=>.nx G
    |o=>o) else .nx b
def tE(i:Nat):D->P1->Option P1:=λd T=>some (T.set i (some d))
def BN(i j:Nat):D->P1->Option P1:=λd T=>match d with | .tup [x,y]=>some ((T.set i (some x)).set j (some y))|_=>none
def run(k:Nat)(a:P1->SO)(ds:List D):Out D:=match a (ds.map some++List.replicate (k-ds.length) none) with
 |.nx T=>.ok .non T
 |.rt d T=>.ok d T
 |.exc c T=>.exc c T
 |_=>.bad
structure Cm where
 f:Nat->Addr
 K:F0
 tb:Tbs
instance:CoeFun Cm λ_=>Nat->Addr:=⟨Cm.f⟩
def SqF(K:F0)(B:Hp)(a:Addr)(xs:List V):Prop:=(∃o,B a=some (.frz o (.lst xs)))\/
 ∃(o:Obj) (its:Array Value) (n:Nat),K.lookup a=some o/\o.cls=.type "list" /\ o.dict=none/\o.data=.seq its n/\its.size<=sizeLine/\Vals xs its.toList
theorem SqF.mono{K:F0}{B S:Hp}{a:Addr}{xs:List V}(h:SqF K B a xs)(e:Same B S):SqF K S a xs:=by
 rcases h with ⟨o,h⟩|h
 ·exact .inl ⟨o,e _ _ h⟩
 ·exact .inr h
theorem SqF.sq{K:F0}{H:Hp}{a:Addr}{xs:List V}(h:SqF K H a xs):SqL K H a xs:=by
 rcases h with ⟨o,h⟩|h
 ·exact .inl (.inr ⟨o,h⟩)
 ·exact .inr h
theorem jN{B S:Hp}{a:Addr}{u:HO}(e:Same B S)(h:Rd B a u):Rd S a u:=by
 rcases h with h|⟨o,h⟩
 ·exact .inl (e _ _ h)
 ·exact .inr ⟨o,e _ _ h⟩
section
variable(Y:Cm)
mutual
def Dn(B:Hp):D->V->Prop
 |.non,v=>v=.non
 |.bl b,v=>v=.bl b
 |.int i,v=>v=.int i
 |.str x,v=>v=.str x
 |.ty n,v=>v=.ty n
 |.lst ds,v=>∃a xs,v=.ref a/\B a=some (.lst xs)/\Dns B ds xs
 |.scr ds,v=>∃a xs,v=.ref a/\SqF Y.K B a xs/\Dns B ds xs
 |.tup ds,v=>∃a xs,v=.ref a/\B a=some (.tup xs)/\Dns B ds xs
 |.dK d ds,v=>∃(a:Addr) (kvs:List (ay×V)),v=.ref a/\B a=some (.dK kvs)/\kvs.map (·.1)=d/\Dns B ds (kvs.map (·.2))
 |.dT d ds,v=>∃(a:Addr) (kvs:List (List ay×V)),v=.ref a/\Rd B a (.dT kvs)/\kvs.map (·.1)=d/\Dns B ds (kvs.map (·.2))
 |.obj c ns ds,v=>∃(a dx:Addr) (fs:List (Str×V)),v=.ref a/\B a=some (.ins (Y c) dx fs)/\fs.map (·.1)=ns/\Dns B ds (fs.map (·.2))
def Dns(B:Hp):List D->List V->Prop
 |[],xs=>xs=[]
 |d::ds,xs=>∃x r,xs=x::r/\Dn B d x/\Dns B ds r
end
inductive Sh where
 |fz|ct (s:Sh)|ob (fs:List (Str×Sh))
mutual
def Ow(B H:Hp):D->Sh->V->List Addr->Prop
 |d,.fz,v,A=>Dn Y B d v/\A=[]
 |.lst ds,.ct s,v,A=>∃a xs b,v=.ref a/\H a=some (.lst xs)/\A=a::b/\Ows B H ds s xs b
 |.dK e ds,.ct s,v,A=>∃(a:Addr) (kvs:List (ay×V)) (b:List Addr),v=.ref a/\H a=some (.dK kvs)/\kvs.map (·.1)=e/\A=a::b/\Ows B H ds s (kvs.map (·.2)) b
 |.dT e ds,.ct s,v,A=>∃(a:Addr) (kvs:List (List ay×V)) (b:List Addr),v=.ref a/\H a=some (.dT kvs)/\kvs.map (·.1)=e/\A=a::b/\Ows B H ds s (kvs.map (·.2)) b
 |.obj c ns ds,.ob fs,v,A=>∃(a dx:Addr) (xs:List (Str×V)) (b:List Addr),v=.ref a/\H a=some (.ins (Y c) dx xs)/\xs.map (·.1)=ns/\A=a::b/\Owf B H ds ns fs (xs.map (·.2)) b
 |_,_,_,_=>False
def Ows(B H:Hp):List D->Sh->List V->List Addr->Prop
 |[],_,xs,A=>xs=[]/\A=[]
 |d::ds,s,xs,A=>∃x r A1 a,xs=x::r/\A=A1++a/\Ow B H d s x A1/\Ows B H ds s r a
def Owf(B H:Hp):List D->List Str->List (Str×Sh)->List V->List Addr->Prop
 |[],_,_,xs,A=>xs=[]/\A=[]
 |d::ds,ns,fs,xs,A=>∃n a x r A1 b,ns=n::a/\xs=x::r/\A=A1++b/\Ow B H d ((fs.lookup n).getD .fz) x A1/\Owf B H ds a fs r b
end
inductive Md where
 |F|R|O (s:Sh)
def LoV(B U H:Hp)(m:Md)(d:D)(v:V)(A:List Addr):Prop:=
 match m with
 |.F=>Dn Y B d v/\A=[]
 |.R=>Dn Y U d v/\A=[]
 |.O sh=>Ow Y B H d sh v A
def Lo(B U H:Hp)(m:Md)(o:Option D)(s:Option V)(A:List Addr):Prop:=
 match o with
 |none=>A=[]
 |some d=>∃v,s=some v/\LoV Y B U H m d v A
structure Rel (M:List Md) (B U:Hp) (As:Nat->List Addr) (Z:St) (H:Hp) (T:P1):Prop where
 bu:Same B U
 uh:Same U H
 nd:∀i,(As i).Nodup
 dj:∀i j a,i≠j->a∈As i->a∉As j
 un:∀i a,a∈As i->U a=none
 lo:∀i,Lo Y B U H (M.getD i .F) (rg T i) (rg Z i) (As i)
 len:T.length=Z.length
 tb:∀p∈Y.tb,∃l,B p.1=some (.tbl l)/\p.2∈l
end
def d7(o:HO):Prop:=∃xs,o=.tup xs
structure Ex (B U S J:Hp):Prop where
 b:Same B S
 u:Same U J
 nb:∀a o,S a=some o->B a=some o\/U a=none\/d7 o
theorem Ex.refl(B U:Hp):Ex B U B U:=⟨Same.refl _,Same.refl _,λ_ _ h=>.inl h⟩
theorem Ex.trans{B U I U1 e d:Hp}(a:Ex B U I U1)(b:Ex I U1 e d):Ex B U e d:=
 ⟨a.b.trans b.b,a.u.trans b.u,λc o h=>by
  rcases b.nb c o h with h|h|h
  ·exact a.nb c o h
  ·exact .inr (.inl (a.u.free h))
  ·exact .inr (.inr h)⟩
section
variable{Y:Cm}
def nd:HO->Prop
 |.dT _=>False
 |.frz _ (.dT _)=>False
 |_=>True
def Hm(G a:Hp):Prop:=(∀b x,G b=some x->nd x->a b=some x)/\∀b k,Rd G b (.dT k)->Rd a b (.dT k)
mutual
theorem Dn.imp{B S:Hp}(e:Hm B S):∀{d:D} {v:V},Dn Y B d v->Dn Y S d v:=by
 intro d v h;cases d <;> rw[Dn]at h ⊢ <;> first | exact h | (obtain⟨a,xs,r,c,b⟩:=h;first | exact⟨a,xs,r,e.1 _ _ c trivial,Dns.imp e b⟩ | exact⟨a,xs,r,e.1 _ _ c trivial,b.1,Dns.imp e b.2⟩ | exact⟨a,xs,r,e.2 _ _ c,b.1,Dns.imp e b.2⟩ | exact⟨a,xs,r,c.imp (λ⟨o,q⟩=>⟨o,e.1 _ _ q trivial⟩) id,Dns.imp e b⟩) | (obtain⟨a,dx,xs,r,c,b,f⟩:=h;exact⟨a,dx,xs,r,e.1 _ _ c trivial,b,Dns.imp e f⟩)
theorem Dns.imp{B S:Hp}(e:Hm B S):∀{ds:List D} {xs:List V},Dns Y B ds xs->Dns Y S ds xs
 |[],_,h=>by rw[Dns]at h ⊢;exact h
 | d::ds,_,h=>by
   rw[Dns]at h ⊢;obtain⟨x,r,h0,b,a⟩:=h;exact⟨x,r,h0,Dn.imp e b,Dns.imp e a⟩
end
theorem Hm.of{B S:Hp}(e:Same B S):Hm B S:=⟨λb x q _=>e b x q,λ_ _=>jN e⟩
theorem Dn.mono{B S:Hp}(e:Same B S){d:D}{v:V}:Dn Y B d v->Dn Y S d v:=Dn.imp (.of e)
theorem Dns.mono{B S:Hp}(e:Same B S){ds:List D}{xs:List V}:Dns Y B ds xs->Dns Y S ds xs:=Dns.imp (.of e)
theorem Dns.len{B:Hp}:∀{ds:List D} {xs:List V},Dns Y B ds xs->ds.length=xs.length
 |[],_,h=>by rw[Dns]at h;subst h;rfl
 | d::ds,_,h=>by
   rw[Dns]at h;obtain⟨x,r,rfl,_,a⟩:=h;rw[VV,VV,Dns.len a]
theorem Dns.get{B:Hp}:∀{ds:List D} {xs:List V} {i:Nat} {d:D},Dns Y B ds xs->ds[i]?=some d->∃x,xs[i]?=some x/\Dn Y B d x
 |[],_,_,_,_,e=>by cases e
 | d::ds,_,i,d',h,e=>by
   rw[Dns]at h;obtain⟨x,r,rfl,b,a⟩:=h;cases i with
   |zero=>cases e;exact⟨x,rfl,b⟩
   |succ i=>exact Dns.get (i:=i) a (by simpa using e)
theorem Dns.geti{B:Hp}:∀{ds:List D} {xs:List V} {i:Nat} {x:V},Dns Y B ds xs->xs[i]?=some x->∃d,ds[i]?=some d/\Dn Y B d x
 |[],_,_,_,h,e=>by rw[Dns]at h;subst h;cases e
 | d::ds,_,i,c,h,e=>by
   rw[Dns]at h;obtain⟨x,r,rfl,b,a⟩:=h;cases i with
   |zero=>cases e;exact⟨d,rfl,b⟩
   |succ i=>exact Dns.geti (i:=i) a (by simpa using e)
theorem Dns.append{B:Hp}:∀{ds b:List D} {xs a:List V},Dns Y B ds xs->Dns Y B b a->Dns Y B (ds++b) (xs++a)
 |[],_,_,_,h,k=>by rw[Dns]at h;subst h;exact k
 | d::ds,_,_,_,h,k=>by
   rw[Dns]at h;obtain⟨x,r,rfl,e,c⟩:=h;rw[Xs,Xs,Dns];exact⟨x,_,rfl,e,Dns.append c k⟩
theorem Dns.one{B:Hp}{d:D}{v:V}(h:Dn Y B d v):Dns Y B [d] [v]:=by
 rw[Dns];exact⟨v,[],rfl,h,by rw[Dns]⟩
theorem Dns.drop{B:Hp}:∀{ds:List D} {xs:List V} (n:Nat),Dns Y B ds xs->Dns Y B (ds.drop n) (xs.drop n)
 |[],_,n,h=>by rw[Dns]at h;subst h;rw[List.drop_nil,List.drop_nil,Dns]
 | d::ds,_,n,h=>by
   cases n with
   |zero=>exact h
   |succ n=>
     rw[Dns]at h;obtain⟨x,r,rfl,b,a⟩:=h;exact Dns.drop n a
theorem Dns.erase{B:Hp}:∀{ds:List D} {xs:List V} (n:Nat),Dns Y B ds xs->Dns Y B (ds.eraseIdx n) (xs.eraseIdx n)
 |[],_,n,h=>by rw[Dns]at h;subst h;rw[List.eraseIdx_nil,List.eraseIdx_nil,Dns]
 | d::ds,_,n,h=>by
   rw[Dns]at h;obtain⟨x,r,rfl,b,a⟩:=h;cases n with
   |zero=>exact a
   |succ n=>
     rw[WH,WH,Dns];exact⟨x,_,rfl,b,Dns.erase n a⟩
theorem Dns.set{B:Hp}{d':D}{v:V}(hd:Dn Y B d' v):∀{ds:List D} {xs:List V} (n:Nat),Dns Y B ds xs->Dns Y B (ds.set n d') (xs.set n v)
 |[],_,n,h=>by rw[Dns]at h;subst h;rw[List.set_nil,List.set_nil,Dns]
 | d::ds,_,n,h=>by
   rw[Dns]at h;obtain⟨x,r,rfl,b,a⟩:=h;cases n with
   |zero=>rw[Yi,Yi,Dns];exact⟨v,r,rfl,hd,a⟩
   |succ n=>
     rw[Yj,Yj,Dns];exact⟨x,_,rfl,b,Dns.set hd n a⟩
mutual
theorem Ow.imp{B S H H':Hp}(e:∀{d v},Dn Y B d v->Dn Y S d v):∀{d:D} {s:Sh} {v:V} {A:List Addr},(∀a∈A,H' a=H a)->Ow Y B H d s v A->Ow Y S H' d s v A:=by
 intro d s v A k h;cases s with
 |fz=>rw[Ow]at h ⊢;exact⟨e h.1,h.2⟩
 |ct s=>cases d <;> first | (simp[Ow]at h;done) | (rw[Ow]at h ⊢;obtain⟨a,xs,j,r,i,g,f⟩:=h;subst g;exact⟨a,xs,j,r,by rw[k a VP];exact i,rfl,Ows.imp e (λb c=>k b (VR _ c)) f⟩) | (rw[Ow]at h ⊢;obtain⟨a,xs,j,r,i,g,f,l⟩:=h;subst f;exact⟨a,xs,j,r,by rw[k a VP];exact i,g,rfl,Ows.imp e (λb c=>k b (VR _ c)) l⟩)
 |ob fs=>cases d <;> first | (simp[Ow]at h;done) | (rw[Ow]at h ⊢;obtain⟨a,dx,xs,j,r,i,g,f,l⟩:=h;subst f;exact⟨a,dx,xs,j,r,by rw[k a VP];exact i,g,rfl,Owf.imp e (λb c=>k b (VR _ c)) l⟩)
theorem Ows.imp{B S H H':Hp}(e:∀{d v},Dn Y B d v->Dn Y S d v):∀{ds:List D} {s:Sh} {xs:List V} {A:List Addr},(∀a∈A,H' a=H a)->Ows Y B H ds s xs A->Ows Y S H' ds s xs A
 |[],_,_,_,_,h=>by rw[Ows]at h ⊢;exact h
 | d::ds,s,xs,A,k,h=>by
   rw[Ows]at h ⊢;obtain⟨x,r,A1,j,h0,i,g,f⟩:=h;subst i;exact⟨x,r,A1,j,h0,rfl,Ow.imp e (λb c=>k b (V0 _ c)) g,Ows.imp e (λb c=>k b (VS _ c)) f⟩
theorem Owf.imp{B S H H':Hp}(e:∀{d v},Dn Y B d v->Dn Y S d v):∀{ds:List D} {ns:List Str} {fs:List (Str×Sh)} {xs:List V} {A:List Addr},(∀a∈A,H' a=H a)->Owf Y B H ds ns fs xs A->Owf Y S H' ds ns fs xs A
 |[],_,_,_,_,_,h=>by rw[Owf]at h ⊢;exact h
 | d::ds,ns,fs,xs,A,k,h=>by
   rw[Owf]at h ⊢;obtain⟨n,c,x,r,A1,m,g,h0,l,j,i⟩:=h;subst l;exact⟨n,c,x,r,A1,m,g,h0,rfl,Ow.imp e (λb f=>k b (V0 _ f)) j,Owf.imp e (λb f=>k b (VS _ f)) i⟩
end
section
variable{B S H H':Hp}(e:Same B S){A:List Addr}(k:∀a∈A,H' a=H a){s:Sh}
include e k
theorem Ow.mono{d:D}{v:V}:Ow Y B H d s v A->Ow Y S H' d s v A:=Ow.imp (Dn.mono e) k
theorem Ows.mono{ds:List D}{xs:List V}:Ows Y B H ds s xs A->Ows Y S H' ds s xs A:=Ows.imp (Dn.mono e) k
theorem Owf.mono{ds:List D}{ns:List Str}{fs:List (Str×Sh)}{xs:List V}:Owf Y B H ds ns fs xs A->Owf Y S H' ds ns fs xs A:=Owf.imp (Dn.mono e) k
end
end
section
variable{Y:Cm}
mutual
theorem Ow.dn{B H G:Hp}(e:Same B G):∀{d:D} {s:Sh} {v:V} {A:List Addr},(∀a∈A,∀o,H a=some o->G a=some o)->Ow Y B H d s v A->Dn Y G d v:=by
 intro d s v A k h;cases s with
 |fz=>rw[Ow]at h;exact h.1.mono e
 |ct s=>cases d <;> first | (simp[Ow]at h;done) | (rw[Ow]at h;obtain⟨a,xs,l,r,i,c,g⟩:=h;subst c;rw[Dn];exact⟨a,xs,r,k a VP _ i,Ows.dn e (λb f=>k b (VR _ f)) g⟩) | (rw[Ow]at h;obtain⟨a,xs,l,r,i,c,g,j⟩:=h;subst g;rw[Dn];have q:=Ows.dn e (λb f=>k b (VR _ f)) j;have p:=k a VP _ i;first | exact⟨a,xs,r,p,c,q⟩ | exact⟨a,xs,r,.inl p,c,q⟩)
 |ob fs=>cases d <;> first | (simp[Ow]at h;done) | (rw[Ow]at h;obtain⟨a,dx,xs,l,r,i,c,g,j⟩:=h;subst g;rw[Dn];exact⟨a,dx,xs,r,k a VP _ i,c,Owf.dn e (λb f=>k b (VR _ f)) j⟩)
theorem Ows.dn{B H G:Hp}(e:Same B G):∀{ds:List D} {s:Sh} {xs:List V} {A:List Addr},(∀a∈A,∀o,H a=some o->G a=some o)->Ows Y B H ds s xs A->Dns Y G ds xs
 |[],_,_,_,_,h=>by rw[Ows]at h;rw[Dns];exact h.1
 | d::ds,s,xs,A,k,h=>by
   rw[Ows]at h;obtain⟨x,r,A1,j,h0,i,g,f⟩:=h;subst i;rw[Dns];exact⟨x,r,h0,Ow.dn e (λb c=>k b (V0 _ c)) g,Ows.dn e (λb c=>k b (VS _ c)) f⟩
theorem Owf.dn{B H G:Hp}(e:Same B G):∀{ds:List D} {ns:List Str} {fs:List (Str×Sh)} {xs:List V} {A:List Addr},(∀a∈A,∀o,H a=some o->G a=some o)->Owf Y B H ds ns fs xs A->Dns Y G ds xs
 |[],_,_,_,_,_,h=>by rw[Owf]at h;rw[Dns];exact h.1
 | d::ds,ns,fs,xs,A,k,h=>by
   rw[Owf]at h;obtain⟨n,f,x,r,A1,m,l,h0,j,i,g⟩:=h;subst j;rw[Dns];exact⟨x,r,h0,Ow.dn e (λb c=>k b (V0 _ c)) i,Owf.dn e (λb c=>k b (VS _ c)) g⟩
end
mutual
theorem Ow.at2{B H:Hp}:∀{d:D} {s:Sh} {v:V} {A:List Addr} {a:Addr},Ow Y B H d s v A->a∈A->∃o,H a=some o/\¬ d7 o:=by
 intro d s v A a h m;cases s with
 |fz=>rw[Ow]at h;rw[h.2]at m;cases m
 |ct s=>cases d <;> first | (simp[Ow]at h;done) | (rw[Ow]at h;obtain⟨b,xs,j,r,f,i,c⟩:=h;subst i;exact(VY.mp m).elim (λe=>by subst e;exact⟨_,f,λ⟨_,z⟩=>nomatch z⟩) (Ows.at2 c)) | (rw[Ow]at h;obtain⟨b,xs,j,r,f,i,c,g⟩:=h;subst c;exact(VY.mp m).elim (λe=>by subst e;exact⟨_,f,λ⟨_,z⟩=>nomatch z⟩) (Ows.at2 g))
 |ob fs=>cases d <;> first | (simp[Ow]at h;done) | (rw[Ow]at h;obtain⟨b,dx,xs,j,r,f,i,c,g⟩:=h;subst c;exact(VY.mp m).elim (λe=>by subst e;exact⟨_,f,λ⟨_,z⟩=>nomatch z⟩) (Owf.at2 g))
theorem Ows.at2{B H:Hp}:∀{ds:List D} {s:Sh} {xs:List V} {A:List Addr} {a:Addr},Ows Y B H ds s xs A->a∈A->∃o,H a=some o/\¬ d7 o
 |[],_,_,_,_,h,m=>by rw[Ows]at h;rw[h.2]at m;cases m
 | d::ds,s,xs,A,a,h,m=>by
   rw[Ows]at h;obtain⟨x,r,A1,f,h0,e,c,b⟩:=h;subst e;rcases VW.mp m with m|m
   ·exact Ow.at2 c m
   ·exact Ows.at2 b m
theorem Owf.at2{B H:Hp}:∀{ds:List D} {ns:List Str} {fs:List (Str×Sh)} {xs:List V} {A:List Addr} {a:Addr},Owf Y B H ds ns fs xs A->a∈A->∃o,H a=some o/\¬ d7 o
 |[],_,_,_,_,_,h,m=>by rw[Owf]at h;rw[h.2]at m;cases m
 | d::ds,ns,fs,xs,A,a,h,m=>by
   rw[Owf]at h;obtain⟨n,b,x,r,A1,i,g,h0,f,e,c⟩:=h;subst f;rcases VW.mp m with m|m
   ·exact Ow.at2 e m
   ·exact Owf.at2 c m
end
theorem Ow.at{B H:Hp}{d:D}{s:Sh}{v:V}{A:List Addr}{a:Addr}(h:Ow Y B H d s v A)(m:a∈A):∃o,H a=some o:=let ⟨o,e,_⟩:=Ow.at2 h m;⟨o,e⟩
theorem Owf.at{B H:Hp}{ds:List D}{ns:List Str}{fs:List (Str×Sh)}{xs:List V}{A:List Addr}{a:Addr}(h:Owf Y B H ds ns fs xs A)(m:a∈A):∃o,H a=some o:=let ⟨o,e,_⟩:=Owf.at2 h m;⟨o,e⟩
theorem Ows.of{B H:Hp}:∀{ds:List D} {xs:List V},Dns Y B ds xs->Ows Y B H ds .fz xs []
 |[],_,h=>by rw[Dns]at h;rw[Ows];exact⟨h,rfl⟩
 | d::ds,_,h=>by
   rw[Dns]at h;obtain⟨x,r,h0,b,a⟩:=h;rw[Ows];exact⟨x,r,[],[],h0,rfl,by rw[Ow];exact⟨b,rfl⟩,Ows.of a⟩
theorem Ows.fz{B H:Hp}:∀{ds:List D} {xs:List V} {A:List Addr},Ows Y B H ds .fz xs A->Dns Y B ds xs/\A=[]
 |[],_,_,h=>by rw[Ows]at h;rw[Dns];exact h
 | d::ds,_,_,h=>by
   rw[Ows]at h;obtain⟨x,r,A1,g,h0,f,a,e⟩:=h;rw[Ow]at a;obtain⟨c,b⟩:=Ows.fz e;rw[Dns];exact⟨⟨x,r,h0,a.1,c⟩,by rw[f,a.2,b];rfl⟩
theorem Lo.at2{B U H:Hp}{m:Md}{o:Option D}{s:Option V}{A:List Addr}{a:Addr}(h:Lo Y B U H m o s A)(b:a∈A):∃o,H a=some o/\¬ d7 o:=by
 unfold Lo at h;cases o with
 |none=>simp only at h;rw[h]at b;cases b
 |some d=>
   obtain⟨v,_,h⟩:=h;cases m with
   |F=>have h:Dn Y B d v/\A=[]:=h;rw[h.2]at b;cases b
   |R=>have h:Dn Y U d v/\A=[]:=h;rw[h.2]at b;cases b
   |O sh=>exact Ow.at2 h b
theorem Lo.at{B U H:Hp}{m:Md}{o:Option D}{s:Option V}{A:List Addr}{a:Addr}(h:Lo Y B U H m o s A)(b:a∈A):∃o,H a=some o:=let ⟨o,e,_⟩:=h.at2 b;⟨o,e⟩
theorem Lo.mono{B U H S J H':Hp}{m:Md}{o:Option D}{s:Option V}{A:List Addr}(h:Lo Y B U H m o s A)(e:Same B S)(f:Same U J)(k:∀a∈A,H' a=H a):Lo Y S J H' m o s A:=by
 unfold Lo at h ⊢;cases o with
 |none=>exact h
 |some d=>
   obtain⟨v,b,h⟩:=h;refine⟨v,b,?_⟩;cases m with
   |F=>exact⟨h.1.mono e,h.2⟩
   |R=>exact⟨h.1.mono f,h.2⟩
   |O sh=>exact Ow.mono e k h
variable{M:List Md}{B U H S J H':Hp}{As:Nat->List Addr}{Z:St}{T:P1}
theorem Rel.at(R:Rel Y M B U As Z H T){i:Nat}{a:Addr}(h:a∈As i):∃o,H a=some o:=(R.lo i).at h
theorem Rel.nt(R:Rel Y M B U As Z H T){i:Nat}{a:Addr}{o:HO}(h:a∈As i)(e:H a=some o)(z:d7 o):False:=by
 obtain⟨o',b,n⟩:=(R.lo i).at2 h;rw[e]at b;cases b;exact n z
theorem Rel.fresh(R:Rel Y M B U As Z H T){p:Addr}(h:H p=none)(i:Nat):p∉As i:=λm=>by
 obtain⟨o,e⟩:=R.at m;rw[h]at e;cases e
theorem Rel.grow(R:Rel Y M B U As Z H T)(e:Same B S)(f:Same U J)(g:Same H H')(bu:Same S J)(uh:Same J H')(un:∀i a,a∈As i->J a=none):Rel Y M S J As Z H' T:=
 ⟨bu,uh,R.nd,R.dj,un,λi=>(R.lo i).mono e f λa b=>by
  obtain⟨o,q⟩:=R.at b
  rw[q,g a o q],R.len,λp hp=>let ⟨l,d,c⟩:=R.tb p hp;⟨l,e _ _ d,c⟩⟩
theorem Rel.bh(R:Rel Y M B U As Z H T):Same B H:=R.bu.trans R.uh
theorem Rel.new(R:Rel Y M B U As Z H T){p:Addr}{o:HO}(h:H p=none):Rel Y M B U As Z (upd H p o) T:=
 R.grow (Same.refl _) (Same.refl _) (Gd.b8 h) R.bu (R.uh.trans (Gd.b8 h)) R.un
theorem qc{G a:Hp}{p:Addr}{o:HO}(e:Same G a):Same (upd G p o) (upd a p o):=λb u q=>by
 by_cases z:b=p
 ·subst z;rw[az]at q ⊢;exact q
 ·rw[ao z]at q ⊢;exact e b u q
theorem Rel.newB(R:Rel Y M B U As Z H T){p:Addr}{o:HO}(h:H p=none):Rel Y M (upd B p o) (upd U p o) As Z (upd H p o) T:=
 R.grow (Gd.b8 (R.bh.free h)) (Gd.b8 (R.uh.free h)) (Gd.b8 h) (qc R.bu) (qc R.uh) λi a b=>by
  rw[ao (λz:a=p=>R.fresh h i (z▸b))];exact R.un i a b
theorem Ex.newB(R:Rel Y M B U As Z H T){p:Addr}{o:HO}(h:H p=none):Ex B U (upd B p o) (upd U p o):=
 ⟨Gd.b8 (R.bh.free h),Gd.b8 (R.uh.free h),λa u q=>by
  by_cases z:a=p
  ·subst z;exact .inr (.inl (R.uh.free h))
  ·rw[ao z]at q;exact .inl q⟩
def frz(B H:Hp)(A:List Addr):Hp:=λa=>if a∈A then H a else B a
theorem bo{A:List Addr}(e:Same B H):Same B (frz B H A):=λa o q=>by
 unfold frz;split
 ·exact e a o q
 ·exact q
theorem mO{A:List Addr}(e:Same B H):Same (frz B H A) H:=λa o q=>by
 unfold frz at q;split at q
 ·exact q
 ·exact e a o q
theorem j5{A:List Addr}(e:Same B U):Same (frz B H A) (frz U H A):=λa o q=>by
 unfold frz at q ⊢;split
 ·rename_i z;rw[VL z]at q;exact q
 ·rename_i z;rw[on z]at q;exact e a o q
end
abbrev KT(W X:Type):=W->X->Hp->Hp->Hp->List Addr->Prop
inductive Kd where
 |F|U|X
def hp:Kd->Hp->Hp->Hp->Hp
 |.F,B,_,_=>B
 |.U,_,U,_=>U
 |.X,_,_,H=>H
structure Gw (B U H S J H':Hp):Prop extends Ex B U S J where
 h:Same H H'
 fr:∀a o,J a=some o->U a=some o\/H a=none\/d7 o
theorem Gw.refl(B U H:Hp):Gw B U H B U H:=⟨Ex.refl _ _,Same.refl _,λ_ _ h=>.inl h⟩
theorem Gw.trans{B U H I U1 H1 f d e:Hp}(a:Gw B U H I U1 H1)(b:Gw I U1 H1 f d e):Gw B U H f d e:=
 ⟨a.toEx.trans b.toEx,a.h.trans b.h,λc o h=>by
  rcases b.fr c o h with h|h|h
  ·exact a.fr c o h
  ·exact .inr (.inl (a.h.free h))
  ·exact .inr (.inr h)⟩
structure New (N:List Addr) (H U:Hp) (As:Nat->List Addr):Prop where
 nd:N.Nodup
 fr:∀a∈N,H a=none
 un:∀a∈N,U a=none
theorem New.nil{H U:Hp}{As:Nat->List Addr}:New [] H U As:=⟨WE,λ_ h=>(nomatch h),λ_ h=>(nomatch h)⟩
section
variable(Y:Cm)
def Cn(G H:Hp):D->V->Prop
 |.lst ds,v=>∃a xs,v=.ref a/\H a=some (.lst xs)/\Dns Y G ds xs
 |.scr ds,v=>∃a xs,v=.ref a/\SqF Y.K H a xs/\Dns Y G ds xs
 |.tup ds,v=>∃a xs,v=.ref a/\H a=some (.tup xs)/\Dns Y G ds xs
 |.dK b ds,v=>∃(a:Addr) (kvs:List (ay×V)),v=.ref a/\H a=some (.dK kvs)/\kvs.map (·.1)=b/\Dns Y G ds (kvs.map (·.2))
 |.dT b ds,v=>∃(a:Addr) (kvs:List (List ay×V)),v=.ref a/\Rd H a (.dT kvs)/\kvs.map (·.1)=b/\Dns Y G ds (kvs.map (·.2))
 |.obj c ns ds,v=>∃(a dx:Addr) (fs:List (Str×V)),v=.ref a/\H a=some (.ins (Y c) dx fs)/\fs.map (·.1)=ns/\Dns Y G ds (fs.map (·.2))
 |d,v=>Dn Y G d v
def KR(k:Kd):KT D V:=λd v B U H _=>Dn Y (hp k B U H) d v
def KC(k:Kd):KT D V:=λd v B U H _=>Cn Y (hp k B U H) H d v
def KO(s:Sh):KT D V:=λd v B U H N=>Ow Y B H d s v N
def KB:KT Bool Bool:=λb c _ _ _ _=>b=c
def KL(k:Kd):KT (List D) (List V):=λd v B U H _=>Dns Y (hp k B U H) d v
def Po{W X:Type}(K:KT W X)(E:XK)(M:List Md)(B U:Hp)(As:Nat->List Addr)(Z:St)(H:Hp)(T:P1)(r:Res W)(Q:X->Hp->Prop):Prop:=
 match r with
 |.ok d=>∀v S J H' N,Rel Y M S J As Z H' T->Gw B U H S J H'->New N H J As->K d v S J H' N->Q v H'
 |.exc c=>∀S J H',Rel Y M S J As Z H' T->Gw B U H S J H'->∀a,E (.ref (Y c)) a H'
 |.bad=>False
def PJ{W X:Type}(K:KT W X)(E:XK)(M:List Md)(t:St->Hp->(X->Hp->Prop)->Prop)(m:P1->Res W):Prop:=
 ∀B U As Z H T Q,Rel Y M B U As Z H T->Po Y K E M B U As Z H T (m T) Q->t Z H Q
end
section
variable{Y:Cm}{E:XK}{M:List Md}{B U H:Hp}{As:Nat->List Addr}{Z:St}{T:P1}
theorem New.up{N:List Addr}{H1:Hp}(h:New N H1 U As)(s:Same H H1):New N H U As:=⟨h.nd,λa b=>s.free (h.fr a b),h.un⟩
theorem Po.at{W X:Type}{K:KT W X}{I U1 H1:Hp}{r:Res W}{Q:X->Hp->Prop}(P:Po Y K E M B U As Z H T r Q)(e:Gw B U H I U1 H1):Po Y K E M I U1 As Z H1 T r Q:=by
 cases r with
 |ok d=>exact λv S J H' N b a f k=>P v S J H' N b (e.trans a) (f.up e.h) k
 |exc c=>exact λS J H' b a=>P S J H' b (e.trans a)
 |bad=>exact P
theorem PJ.bnd{W X L K:Type}{f:KT W X}{d:KT L K}{ta:St->Hp->(X->Hp->Prop)->Prop}{b:P1->Res W}(j:PJ Y f E M ta b)(R:Rel Y M B U As Z H T){k:W->Res L}{Q:K->Hp->Prop}
 (P:Po Y d E M B U As Z H T ((b T).bind k) Q) {a:X->Hp->Prop}
 (h:∀x v I U1 H1 N,b T=.ok x->Rel Y M I U1 As Z H1 T->Gw B U H I U1 H1->New N H U1 As->f x v I U1 H1 N->Po Y d E M I U1 As Z H1 T (k x) Q->a v H1):ta Z H a:=by
 refine j B U As Z H T a R ?_;cases e:b T with
 |ok x=>
   rw[e]at P;exact λv I U1 H1 N l e1 g i=>h x v I U1 H1 N e l e1 g i (Po.at (r:=k x) P e1)
 |exc c=>rw[e]at P;exact P
 |bad=>rw[e]at P;exact P
theorem gB{k:Kd}{I U1 H1:Hp}(e:Gw B U H I U1 H1):Same (hp k B U H) (hp k I U1 H1):=by
 cases k with
 |F=>exact e.b
 |U=>exact e.u
 |X=>exact e.h
theorem Cn.mono{G j H H':Hp}(e:Same G j)(f:Same H H'){d:D}{v:V}(h:Cn Y G H d v):Cn Y j H' d v:=by
 cases d with
 |lst ds=>obtain⟨a,xs,r,g,b⟩:=h;exact⟨a,xs,r,f _ _ g,b.mono e⟩
 |scr ds=>obtain⟨a,xs,r,g,b⟩:=h;exact⟨a,xs,r,g.mono f,b.mono e⟩
 |tup ds=>obtain⟨a,xs,r,g,b⟩:=h;exact⟨a,xs,r,f _ _ g,b.mono e⟩
 |dK k ds=>obtain⟨a,xs,r,g,b,i⟩:=h;exact⟨a,xs,r,f _ _ g,b,i.mono e⟩
 |dT k ds=>obtain⟨a,xs,r,g,b,i⟩:=h;exact⟨a,xs,r,jN f g,b,i.mono e⟩
 |obj c ns ds=>obtain⟨a,dx,xs,r,g,b,i⟩:=h;exact⟨a,dx,xs,r,f _ _ g,b,i.mono e⟩
 |non=>exact Dn.mono e h
 |bl _=>exact Dn.mono e h
 |int _=>exact Dn.mono e h
 |str _=>exact Dn.mono e h
 |ty _=>exact Dn.mono e h
theorem Dn.cn{G H:Hp}(f:Same G H){d:D}{v:V}(h:Dn Y G d v):Cn Y G H d v:=by
 cases d with
 |lst ds=>rw[Dn]at h;obtain⟨a,xs,r,e,b⟩:=h;exact⟨a,xs,r,f _ _ e,b⟩
 |scr ds=>rw[Dn]at h;obtain⟨a,xs,r,e,b⟩:=h;exact⟨a,xs,r,e.mono f,b⟩
 |tup ds=>rw[Dn]at h;obtain⟨a,xs,r,e,b⟩:=h;exact⟨a,xs,r,f _ _ e,b⟩
 |dK i ds=>rw[Dn]at h;obtain⟨a,xs,r,e,b,g⟩:=h;exact⟨a,xs,r,f _ _ e,b,g⟩
 |dT i ds=>rw[Dn]at h;obtain⟨a,xs,r,e,b,g⟩:=h;exact⟨a,xs,r,jN f e,b,g⟩
 |obj c ns ds=>rw[Dn]at h;obtain⟨a,dx,xs,r,e,b,g⟩:=h;exact⟨a,dx,xs,r,f _ _ e,b,g⟩
 |non=>exact h
 |bl _=>exact h
 |int _=>exact h
 |str _=>exact h
 |ty _=>exact h
theorem Rel.hp(R:Rel Y M B U As Z H T)(k:Kd):Same (hp k B U H) H:=by
 cases k with
 |F=>exact R.bh
 |U=>exact R.uh
 |X=>exact Same.refl _
theorem PJ.imp{W X:Type}{K b:KT W X}{t:St->Hp->(X->Hp->Prop)->Prop}{m:P1->Res W}(h:PJ Y K E M t m)(f:∀B U As Z H T d v N,Rel Y M B U As Z H T->K d v B U H N->b d v B U H N):PJ Y b E M t m:=by
 intro B U As Z H T Q R P;refine h B U As Z H T Q R ?_;cases e:m T with
 |ok d=>rw[e]at P;exact λv S J H' N a i g k=>P v S J H' N a i g (f _ _ _ _ _ _ _ _ _ a k)
 |exc c=>rw[e]at P;exact P
 |bad=>rw[e]at P;exact P
section
variable{t:TE}{m:P1->Res D}{k:Kd}{s:Sh}
theorem fu(h:PJ Y (KR Y .F) E M t m):PJ Y (KR Y .U) E M t m:=h.imp λ_ _ _ _ _ _ _ _ _ R q=>Dn.mono R.bu q
theorem ux(h:PJ Y (KR Y .U) E M t m):PJ Y (KR Y .X) E M t m:=h.imp λ_ _ _ _ _ _ _ _ _ R q=>Dn.mono R.uh q
theorem fx(h:PJ Y (KR Y .F) E M t m):PJ Y (KR Y .X) E M t m:=ux (fu h)
theorem rc(h:PJ Y (KR Y k) E M t m):PJ Y (KC Y k) E M t m:=h.imp λ_ _ _ _ _ _ _ _ _ R q=>Dn.cn (R.hp k) q
theorem Rel.freeze{A:List Addr}(R:Rel Y M B U As Z H T)(h:∀a∈A,U a=none/\∀i,a∉As i):Rel Y M (Mi.frz B H A) (Mi.frz U H A) As Z H T/\Ex B U (Mi.frz B H A) (Mi.frz U H A):=by
 refine⟨R.grow (bo R.bh) (bo R.uh) (Same.refl _) (j5 R.bu) (mO R.uh) λi a b=>?_,bo R.bh,bo R.uh,λa o q=>?_⟩
 · unfold Mi.frz;split
   ·rename_i z;exact absurd b ((h a z).2 i)
   ·exact R.un i a b
 · unfold Mi.frz at q;split at q
   ·rename_i z;exact .inr (.inl (h a z).1)
   ·exact .inl q
theorem Rel.apart(R:Rel Y M B U As Z H T){N:List Addr}{J:Hp}(n:New N H J As):∀a∈N,∀i,a∉As i:=λa b i=>R.fresh (n.fr a b) i
theorem oF(h:PJ Y (KO Y s) E M t m):PJ Y (KR Y .F) E M t m:=by
 intro B U As Z H T Q R P;refine h B U As Z H T Q R ?_;cases e:m T with
 |ok d=>
   rw[e]at P;intro v S J H' N i g f j;obtain⟨R2,k⟩:=i.freeze λa b=>⟨f.un a b,R.apart f a b⟩;refine P v _ _ H' [] R2 ⟨g.toEx.trans k,g.h,λa o q=>?_⟩ New.nil (Ow.dn (bo i.bh) (λa b o q=>?_) j)
   · unfold Mi.frz at q;split at q
     ·rename_i z;exact .inr (.inl (f.fr a z))
     ·exact g.fr a o q
   ·unfold Mi.frz;rw[if_pos b];exact q
 |exc c=>rw[e]at P;exact P
 |bad=>rw[e]at P;exact P
theorem oc(h:PJ Y (KO Y (.ct .fz)) E M t m):PJ Y (KC Y .F) E M t m:=rc (oF h)
end
theorem bP{W:Type}{l:List (Option W)}{i:Nat}{x:W}(h:rg l i=some x):l[i]?=some (some x):=by
 unfold rg at h;cases e:l[i]? with
 |none=>rw[e]at h;cases h
 |some o=>rw[e]at h;exact congrArg some h
theorem rC{K:KT D V}{i:Nat}(f:∀(B U:Hp) (A:List Addr) (H:Hp) (d:D) (v:V) (s:Option V),Same B U->Same U H->Lo Y B U H (M.getD i .F) (some d) s A->s=some v->K d v B U H []):PJ Y K E M (cF i) (vr i):=by
 intro B U As Z H T Q R P;unfold vr at P;have l:=R.lo i;cases e:rg T i with
 |none=>rw[e]at P;exact P.elim
 |some d=>
   rw[e]at P l;obtain⟨v,a,q⟩:=id l;exact⟨v,bP a,P v B U H [] R (Gw.refl _ _ _) New.nil (f B U _ H d v _ R.bu R.uh l a)⟩
theorem iA{B U H:Hp}{m:Md}{d:D}{v:V}{s:Option V}{A:List Addr}(l:Lo Y B U H m (some d) s A)(b:s=some v):LoV Y B U H m d v A:=by
 obtain⟨w,a,q⟩:=l;rw[b]at a;cases a;exact q
theorem xF{i:Nat}(b:M.getD i .F= .F):PJ Y (KR Y .F) E M (cF i) (vr i):=rC λB U As H d v s _ _ l a=>by
 rw[b]at l;exact(iA l a).1
theorem xR{i:Nat}(b:M.getD i .F= .R):PJ Y (KR Y .U) E M (cF i) (vr i):=rC λB U As H d v s _ _ l a=>by
 rw[b]at l;exact(iA l a).1
theorem xO{i:Nat}{sh:Sh}(c:M.getD i .F= .O sh):PJ Y (KR Y .X) E M (cF i) (vr i):=rC λB U As H d v s b u l a=>by
 rw[c]at l;exact Ow.dn (b.trans u) (λ_ _ _ q=>q) (iA l a)
theorem Ow.cn{B H:Hp}{d:D}{v:V}{A:List Addr}(f:Same B H)(h:Ow Y B H d (.ct .fz) v A):Cn Y B H d v:=by
 cases d with
 |lst ds=>rw[Ow]at h;obtain⟨a,xs,i,r,b,c,g⟩:=h;exact⟨a,xs,r,b,(Ows.fz g).1⟩
 |dK j ds=>rw[Ow]at h;obtain⟨a,xs,i,r,b,c,g,e⟩:=h;exact⟨a,xs,r,b,c,(Ows.fz e).1⟩
 |dT j ds=>rw[Ow]at h;obtain⟨a,xs,i,r,b,c,g,e⟩:=h;exact⟨a,xs,r,.inl b,c,(Ows.fz e).1⟩
 |_=>simp[Ow]at h
theorem xC{i:Nat}(c:M.getD i .F= .O (.ct .fz)):PJ Y (KC Y .F) E M (cF i) (vr i):=rC λB U As H d v s b u l a=>by
 rw[c]at l;exact Ow.cn (b.trans u) (iA l a)
theorem UB{d:D}{v:V}(h:∀G,Dn Y G d v):PJ Y (KR Y .F) E M (tC v) (ax d):=λB U As Z H T Q R P=>P v B U H [] R (Gw.refl _ _ _) New.nil (h _)
theorem pI{i:Int}:PJ Y (KR Y .F) E M (tC (.int i)) (ax (.int i)):=UB λ_=>by rw[Dn]
theorem pB{b:Bool}:PJ Y (KR Y .F) E M (tC (.bl b)) (ax (.bl b)):=UB λ_=>by rw[Dn]
theorem pN:PJ Y (KR Y .F) E M (tC .non) (ax .non):=UB λ_=>by rw[Dn]
theorem pT{n:String}:PJ Y (KR Y .F) E M (tC (.ty n)) (ax (.ty n)):=UB λ_=>by rw[Dn]
end
def ib(neg:Bool)(x y:D):Res D:=if lX y=true then .ok (.bl (neg.xor (lX x))) else .bad
def cq(m:P1->Res D):P1->Res Bool:=λT=>(m T).bind GT
def pW(a b:P1->Res Bool):P1->Res Bool:=λT=>(a T).bind λc=>if c=true then b T else .ok false
def vL(a b:P1->Res Bool):P1->Res Bool:=λT=>(a T).bind λc=>if c=true then .ok true else b T
def wz(a:P1->Res Bool):P1->Res Bool:=λT=>(a T).bind λc=>.ok (!c)
section
variable{Y:Cm}{E:XK}{M:List Md}
def S2(Y:Cm)(r:R2)(f:D->D->Res D):Prop:=∀H x y v u,Dn Y H x v->Dn Y H y u->match f x y with
 |.ok d=>∃w,(∀G,Dn Y G d w)/\∀Q:VK,Q w H->r v u H Q
 |.exc _=>False
 |.bad=>True
def S1(Y:Cm)(r:V->Hp->VK->Prop)(f:D->Res D):Prop:=∀H x v,Dn Y H x v->match f x with
 |.ok d=>∃w,(∀G,Dn Y G d w)/\∀Q:VK,Q w H->r v H Q
 |.exc _=>False
 |.bad=>True
section
variable{r:R2}{r1:V->Hp->VK->Prop}{rb:List V->Hp->VK->Prop}{f:D->D->Res D}{f1:D->Res D}{ta tb:TE}{ma mb:P1->Res D}
theorem M7(h:S2 Y r f)(j:PJ Y (KR Y .X) E M ta ma)(i:PJ Y (KR Y .X) E M tb mb):PJ Y (KR Y .F) E M (BF r ta tb) (bn f ma mb):=by
 intro B U As Z H T Q R P;refine j.bnd R P λx v I U1 H1 L _ p e1 z n W=>i.bnd p W λy u s o b A _ R2 l t m a=>?_;have q:=h b x y v u (Dn.mono l.h n) m;cases e:f x y with
 |ok d=>
   rw[e]at q a;obtain⟨w,g,k⟩:=q;exact k Q (a w s o b [] R2 (Gw.refl _ _ _) New.nil (g _))
 |exc c=>rw[e]at q;exact q.elim
 |bad=>rw[e]at a;exact a.elim
theorem Rx(h:S1 Y r1 f1)(b:PJ Y (KR Y .X) E M ta ma):PJ Y (KR Y .F) E M (UU r1 ta) (un f1 ma):=by
 intro B U As Z H T Q R P;refine b.bnd R P λx v I U1 H1 L _ g e1 i f W=>?_;have q:=h H1 x v f;cases e:f1 x with
 |ok d=>
   rw[e]at q W;obtain⟨w,a,k⟩:=q;exact k Q (W w I U1 H1 [] g (Gw.refl _ _ _) New.nil (a _))
 |exc c=>rw[e]at q;exact q.elim
 |bad=>rw[e]at W;exact W.elim
theorem Do(h:S1 Y (λv H Q=>rb [v] H Q) f1)(a:PJ Y (KR Y .X) E M ta ma):PJ Y (KR Y .F) E M (tF rb (aM ta bO)) (un f1 ma):=Rx h a
theorem Dm(h:S2 Y (λv u H Q=>rb [v,u] H Q) f)(b:PJ Y (KR Y .X) E M ta ma)(a:PJ Y (KR Y .X) E M tb mb):PJ Y (KR Y .F) E M (tF rb (aM ta (aM tb bO))) (bn f ma mb):=M7 h b a
end
theorem S2.imp{r a:R2}{f:D->D->Res D}(h:S2 Y r f)(k:∀x y H Q,r x y H Q->a x y H Q):S2 Y a f:=by
 intro H x y v u g b;have q:=h H x y v u g b;cases e:f x y with
 |ok d=>
   rw[e]at q;obtain⟨w,i,q⟩:=q;exact⟨w,i,λQ z=>k _ _ _ _ (q Q z)⟩
 |exc c=>rw[e]at q;exact q
 |bad=>trivial
theorem Uy{g:Int->Int->Int}:S2 Y (wv λi j=>.int (g i j)) (iI g):=by
 intro H x y v u b a;cases x with
 |int i=>
   cases y with
   |int j=>
     rw[Dn]at b;rw[Dn]at a;subst b a;exact⟨.int (g i j),λ_=>by rw[Dn],λQ q=>⟨i,j,rfl,rfl,q⟩⟩
   |_=>trivial
 |_=>trivial
theorem U9{g:Int->Int->Bool}:S2 Y (wv λi j=>.bl (g i j)) (iB g):=by
 intro H x y v u b a;cases x with
 |int i=>
   cases y with
   |int j=>
     rw[Dn]at b;rw[Dn]at a;subst b a;exact⟨.bl (g i j),λ_=>by rw[Dn],λQ q=>⟨i,j,rfl,rfl,q⟩⟩
   |_=>trivial
 |_=>trivial
theorem Ux{C:Int->Int->Prop}{c:Int->Int->Bool}{g:Int->Int->Int}(d:∀i j,c i j=true->C i j):S2 Y (rI C λi j=>.int (g i j)) (iC c g):=by
 intro H x y v u b a;cases x with
 |int i=>
   cases y with
   |int j=>
     rw[Dn]at b;rw[Dn]at a;subst b a;unfold iC;dsimp only;by_cases z:c i j=true
     ·rw[VL z];exact⟨.int (g i j),λ_=>by rw[Dn],λQ q=>⟨i,j,rfl,rfl,d i j z,q⟩⟩
     ·rw[on z];trivial
   |_=>trivial
 |_=>trivial
theorem Q8:S2 Y (wv λi j=>.int (i+j)) iO:=Uy
theorem QQ:S2 Y (wv λi j=>.int (i-j)) Af:=Uy
theorem UZ:S2 Y (wv λi j=>.bl (decide (i<j))) GN:=U9
theorem U6:S2 Y (wv λi j=>.bl (decide (j<i))) Ff:=U9
theorem U7:S2 Y (wv λi j=>.bl (decide (j<=i))) Tg:=U9
theorem QX:S2 Y (rI CMul λi j=>.int (i*j)) rF:=Ux λ_ _ h=>by simpa [CMul] using h
theorem Mg:S2 Y (rI Qu λi j=>.int (i / j)) hV:=Ux λ_ _ h=>by simpa [Qu] using h
theorem QY:S2 Y (rI (λ_ j=>0<j) λi j=>.int (i%j)) f6:=Ux λ_ _ h=>XF h
theorem QR:S2 Y (rI (λ_ j=>0<=j) λi j=>.int (i / 2 ^ j.toNat)) Cb:=Ux λ_ _ h=>XF h
theorem QZ:S2 Y (λv u H Q=>∃i j,[v,u]=[.int i,.int j]/\Q (.int (if j<i then j else i)) H) pM:=(Uy (g:=λi j=>if j<i then j else i)).imp λx y H Q ⟨i,j,c,b,a⟩=>⟨i,j,by rw[c,b],a⟩
theorem Q0:S2 Y (λv u H Q=>∃i j,[v,u]=[.int i,.int j]/\Q (.int (if j>i then j else i)) H) pO:=(Uy (g:=λi j=>if j>i then j else i)).imp λx y H Q ⟨i,j,c,b,a⟩=>⟨i,j,by rw[c,b],a⟩
theorem Q9:S1 Y (λv H Q=>∃i,[v]=[.int i]/\Q (.int (if i<0 then -i else i)) H) Jz:=by
 intro H x v a;cases x with
 |int i=>
   rw[Dn]at a;subst a;exact⟨.int _,λ_=>by rw[Dn],λQ q=>⟨i,rfl,q⟩⟩
 |_=>trivial
theorem QW:S1 Y (rU λi=>.int (-i)) DG:=by
 intro H x v a;cases x with
 |int i=>
   rw[Dn]at a;subst a;exact⟨.int (-i),λ_=>by rw[Dn],λQ q=>⟨i,rfl,q⟩⟩
 |_=>trivial
theorem JX(neg:Bool):S2 Y (λx y H Q=>L5 x y=true/\Q (.bl (neg.xor (decide (x=y)))) H) (mQ neg):=by
 intro H x y v u b a;cases x with
 |int i=>
   cases y with
   |int j=>
     rw[Dn]at b;rw[Dn]at a;subst b a;exact⟨_,λ_=>by rw[Dn],λQ q=>⟨rfl,by simpa using q⟩⟩
   |non=>
     rw[Dn]at b;rw[Dn]at a;subst b a;exact⟨_,λ_=>by rw[Dn],λQ q=>⟨rfl,by simpa using q⟩⟩
   |_=>trivial
 |str i=>
   cases y with
   |str j=>
     rw[Dn]at b;rw[Dn]at a;subst b a;exact⟨_,λ_=>by rw[Dn],λQ q=>⟨rfl,by simpa using q⟩⟩
   |_=>trivial
 |bl i=>
   cases y with
   |bl j=>
     rw[Dn]at b;rw[Dn]at a;subst b a;exact⟨_,λ_=>by rw[Dn],λQ q=>⟨rfl,by simpa using q⟩⟩
   |_=>trivial
 |non=>
   cases y with
   |int j=>
     rw[Dn]at b;rw[Dn]at a;subst b a;exact⟨_,λ_=>by rw[Dn],λQ q=>⟨rfl,by simpa using q⟩⟩
   |non=>
     rw[Dn]at b;rw[Dn]at a;subst b a;exact⟨_,λ_=>by rw[Dn],λQ q=>⟨rfl,by simpa using q⟩⟩
   |_=>trivial
 |_=>cases y<;>trivial
theorem U8:S2 Y rEq (mQ false):=(JX false).imp λx y H Q h=>⟨h.1,by simpa using h.2⟩
theorem UX:S2 Y rNe (mQ true):=(JX true).imp λx y H Q h=>⟨h.1,by simpa using h.2⟩
theorem Dn.non{G:Hp}{d:D}{v:V}(h:Dn Y G d v):decide (v=.non)=lX d:=by
 cases d with
 |non=>rw[Dn]at h;subst h;rfl
 |bl _=>rw[Dn]at h;subst h;rfl
 |int _=>rw[Dn]at h;subst h;rfl
 |str _=>rw[Dn]at h;subst h;rfl
 |ty _=>rw[Dn]at h;subst h;rfl
 |lst _=>rw[Dn]at h;obtain⟨a,xs,e,_⟩:=h;subst e;rfl
 |scr _=>rw[Dn]at h;obtain⟨a,xs,e,_⟩:=h;subst e;rfl
 |tup _=>rw[Dn]at h;obtain⟨a,xs,e,_⟩:=h;subst e;rfl
 |dK _ _=>rw[Dn]at h;obtain⟨a,xs,e,_⟩:=h;subst e;rfl
 |dT _ _=>rw[Dn]at h;obtain⟨a,xs,e,_⟩:=h;subst e;rfl
 |obj _ _ _=>rw[Dn]at h;obtain⟨a,dx,xs,e,_⟩:=h;subst e;rfl
theorem U0:S2 Y (λx y H Q=>y=.non/\Q (.bl (decide (x=.non))) H) (ib false):=by
 intro H x y v u b a;unfold ib;by_cases e:lX y=true
 · rw[VL e]
   have:decide (u=.non)=true:=by rw[Dn.non a];exact e
   refine⟨_,λ_=>by rw[Dn],λQ q=>⟨XF this,?_⟩⟩;rw[Dn.non b];simpa using q
 ·rw[on e];trivial
theorem Mc:S2 Y (λx y H Q=>y=.non/\Q (.bl (!decide (x=.non))) H) (ib true):=by
 intro H x y v u b a;unfold ib;by_cases e:lX y=true
 · rw[VL e]
   have:decide (u=.non)=true:=by rw[Dn.non a];exact e
   refine⟨_,λ_=>by rw[Dn],λQ q=>⟨XF this,?_⟩⟩;rw[Dn.non b];simpa using q
 ·rw[on e];trivial
theorem Q2:S1 Y (λv H Q=>∃p e,[v]=[.ref p]/\(SqL Y.K H p e\/SqT Y.K H p e)/\Q (.int e.length) H) iD:=by
 intro H x v b;cases x with
 |lst ds=>
   rw[Dn]at b;obtain⟨a,xs,rfl,d,c⟩:=b;exact⟨.int ds.length,λ_=>by rw[Dn],λQ q=>⟨a,xs,rfl,.inl (SqL.of d),by rw[<-c.len];exact q⟩⟩
 |scr ds=>
   rw[Dn]at b;obtain⟨a,xs,rfl,d,c⟩:=b;exact⟨.int ds.length,λ_=>by rw[Dn],λQ q=>⟨a,xs,rfl,.inl d.sq,by rw[<-c.len];exact q⟩⟩
 |tup ds=>
   rw[Dn]at b;obtain⟨a,xs,rfl,d,c⟩:=b;exact⟨.int ds.length,λ_=>by rw[Dn],λQ q=>⟨a,xs,rfl,.inr (SqT.of d),by rw[<-c.len];exact q⟩⟩
 |_=>trivial
theorem RB{ta:TE}{c:P1->Res D}(d:PJ Y (KR Y .X) E M ta c):PJ Y (KR Y .F) E M (BS ta) (un IA c):=by
 intro B U As Z H T Q R P;refine d.bnd R P λx v I U1 H1 L _ e e1 f a W=>?_;cases x with
 |bl b=>
   have a:Dn Y H1 (.bl b) v:=a;rw[Dn]at a;exact⟨b,a,W _ I U1 H1 [] e (Gw.refl _ _ _) New.nil (show Dn Y _ (.bl (!b)) _ by rw[Dn])⟩
 |_=>exact W.elim
theorem Kb{t:TE}{m:P1->Res D}(h:PJ Y (KR Y .X) E M t m):PJ Y KB E M (λZ H Q=>t Z H λx H1=>∃c,x=.bl c/\Q c H1) (cq m):=by
 intro B U As Z H T Q R P;refine h.bnd R P λx v I U1 H1 L _ d e1 e a W=>?_;cases x with
 |bl b=>
   have a:Dn Y H1 (.bl b) v:=a;rw[Dn]at a;exact⟨b,a,W _ I U1 H1 [] d (Gw.refl _ _ _) New.nil rfl⟩
 |_=>exact W.elim
theorem Vh{t:TE}{m:P1->Res D}(h:PJ Y (KR Y .X) E M t m):PJ Y KB E M (tB t) (cq m):=Kb h
theorem Vg{t:TE}{m:P1->Res D}(h:PJ Y (KR Y .X) E M t m):PJ Y KB E M (BQ t) (cq m):=Kb h
theorem Mx{t u:TT}{m n:P1->Res Bool}(h:PJ Y KB E M t m)(k:PJ Y KB E M u n):PJ Y KB E M (LW t u) (pW m n):=by
 intro B U As Z H T Q R P;refine h.bnd R P λx v I U1 H1 L _ a e1 c b W=>?_;cases b;cases x with
 |true=>exact k I U1 As Z H1 T Q a W
 |false=>exact W _ I U1 H1 [] a (Gw.refl _ _ _) New.nil rfl
theorem Rl{t u:TT}{m n:P1->Res Bool}(h:PJ Y KB E M t m)(k:PJ Y KB E M u n):PJ Y KB E M (UW t u) (vL m n):=by
 intro B U As Z H T Q R P;refine h.bnd R P λx v I U1 H1 L _ a e1 c b W=>?_;cases b;cases x with
 |false=>exact k I U1 As Z H1 T Q a W
 |true=>exact W _ I U1 H1 [] a (Gw.refl _ _ _) New.nil rfl
theorem HB{t:TT}{m:P1->Res Bool}(h:PJ Y KB E M t m):PJ Y KB E M (LO t) (wz m):=by
 intro B U As Z H T Q R P;refine h.bnd R P λx v I U1 H1 L _ b e1 c a W=>?_;cases a;exact W _ I U1 H1 [] b (Gw.refl _ _ _) New.nil rfl
theorem RO{k:Kd}{ta tb:TE}{a f:P1->Res D}(i:PJ Y (KR Y .X) E M ta a)(h:PJ Y (KR Y k) E M tb f):PJ Y (KR Y k) E M (BX ta tb) (Bx a f):=by
 intro B U As Z H T Q R P;unfold Bx at P
 have j:Po Y (KR Y k) E M B U As Z H T ((a T).bind λx=>(GT x).bind λc=>if c=true then f T else .ok (.bl false)) Q:=by
  cases e:a T<;>(rw[e]at P;exact P)
 refine i.bnd R j λx v I U1 H1 L _ g e1 l d W=>?_;cases x with
 |bl b=>
   have d:Dn Y H1 (.bl b) v:=d;rw[Dn]at d;refine⟨b,d,?_⟩;cases b with
   |true=>exact h I U1 As Z H1 T Q g W
   |false=>exact W _ I U1 H1 [] g (Gw.refl _ _ _) New.nil (show Dn Y _ (.bl false) _ by rw[Dn])
 |_=>exact W.elim
end
section
variable{Y:Cm}{E:XK}{M:List Md}{K:F0}
theorem fE{n:Nat}(h:n<=af):n<sizeLine:=by
 have:=Y1
 unfold af at h;omega
theorem zR{G:Hp}{ds:List D}{xs:List V}{i:Int}{d:D}(h:Dns Y G ds xs)(e:iZ ds i=some d):∃v,iZ xs i=some v/\Dn Y G d v:=by
 unfold iZ at e ⊢;rw[<-h.len];cases q:nF ds.length i with
 |none=>rw[q]at e;cases e
 |some j=>
   rw[q]at e;exact h.get e
theorem RF{k:Kd}{ta tb:TE}{s p:P1->Res D}(A:PJ Y (KC Y k) E M ta s)(z:PJ Y (KR Y .X) E M tb p):PJ Y (KR Y k) E M (BF (Hw Y.K) ta tb) (bn pH s p):=by
 intro B U As Z H T Q R P;refine A.bnd R P λx v I U1 H1 L _ G e1 N F W=>z.bnd G W λy u o n j O _ R2 t J b g=>?_;have c:=Cn.mono (gB t) t.h F;have b:Dn Y j y u:=b
 have f:∀(ds:List D) (i:Int),Po Y (KR Y k) E M o n As Z j T (Jv ds i) Q->∀xs,Dns Y (hp k o n j) ds xs->∃w,iZ xs i=some w/\Q w j:=λds i P3 xs h=>by
  unfold Jv at P3;cases q:iZ ds i with
  |none=>rw[q]at P3;exact P3.elim
  |some d=>
    rw[q]at P3;obtain⟨w,e,C⟩:=zR h q;exact⟨w,e,P3 w o n j [] R2 (Gw.refl _ _ _) New.nil C⟩
 cases x with
 |lst ds=>
   cases y with
   |int i=>
     rw[Dn]at b;obtain⟨a,xs,r,m,l⟩:=c;obtain⟨w,e,q⟩:=f ds i g xs l;exact⟨a,xs,i,w,r,b,SqL.of m,e,q⟩
   |_=>exact g.elim
 |scr ds=>
   cases y with
   |int i=>
     rw[Dn]at b;obtain⟨a,xs,r,m,l⟩:=c;obtain⟨w,e,q⟩:=f ds i g xs l;exact⟨a,xs,i,w,r,b,m.sq,e,q⟩
   |_=>exact g.elim
 |_=>cases y<;>exact g.elim
theorem RE{k:Kd}{ta tb:TE}{j g:P1->Res D}(s:PJ Y (KC Y k) E M ta j)(p:PJ Y (KR Y .X) E M tb g):PJ Y (KR Y k) E M (BF (Mp K) ta tb) (bn yI j g):=by
 intro B U As Z H T Q R P;refine s.bnd R P λx v I U1 H1 L _ F e1 J C W=>p.bnd F W λy u n m f N _ R2 l G b e=>?_;have c:=Cn.mono (gB l) l.h C;have b:Dn Y f y u:=b;cases x with
 |tup ds=>
   cases y with
   |int i=>
     rw[Dn]at b;obtain⟨a,xs,r,z,t⟩:=c;have P3:Po Y (KR Y k) E M n m As Z f T (Jv ds i) Q:=e;unfold Jv at P3;cases q:iZ ds i with
     |none=>rw[q]at P3;exact P3.elim
     |some d=>
       rw[q]at P3;obtain⟨w,o,A⟩:=zR t q;exact⟨a,xs,i,w,r,b,SqT.of z,o,P3 w n m f [] R2 (Gw.refl _ _ _) New.nil A⟩
   |_=>exact e.elim
 |_=>cases y<;>exact e.elim
theorem O5{k:Kd}:PJ Y (KL Y k) E M bO aE:=λB U As Z H T Q R P=>P [] B U H [] R (Gw.refl _ _ _) New.nil (show Dns Y _ [] [] by rw[Dns])
theorem Jg{k:Kd}{ta:TE}{a:TA}{c:P1->Res D}{b:P1->Res (List D)}(e:PJ Y (KR Y k) E M ta c)(d:PJ Y (KL Y k) E M a b):PJ Y (KL Y k) E M (aM ta a) (am c b):=by
 intro B U As Z H T Q R P;refine e.bnd R P λx v I U1 H1 L _ j e1 p h W=>d.bnd j W λy u n i m q _ R2 f o g l=>?_;refine l (v::u) n i m [] R2 (Gw.refl _ _ _) New.nil ?_;show Dns Y _ (x::y) (v::u);rw[Dns];exact⟨v,u,rfl,Dn.mono (gB f) h,g⟩
variable{B U H:Hp}{As:Nat->List Addr}{Z:St}{T:P1}
theorem Gw.newO(R:Rel Y M B U As Z H T){p:Addr}{o:HO}(h:H p=none):Gw B U H B U (upd H p o):=⟨Ex.refl _ _,Gd.b8 h,λ_ _ q=>.inl q⟩
theorem Gw.newB(R:Rel Y M B U As Z H T){p:Addr}{o:HO}(h:H p=none):Gw B U H (upd B p o) (upd U p o) (upd H p o):=⟨Ex.newB R h,Gd.b8 h,λa u q=>by
 by_cases z:a=p
 ·subst z;exact .inr (.inl h)
 ·rw[ao z]at q;exact .inl q⟩
theorem New.one(R:Rel Y M B U As Z H T){p:Addr}(h:H p=none):New [p] H U As:=⟨by simp,λa b=>by rw[VU.mp b];exact h,λa b=>by rw[VU.mp b];exact R.uh.free h⟩
theorem dO(R:Rel Y M B U As Z H T){ds:List D}{xs:List V}{Q:VK}(P:Po Y (KO Y (.ct .fz)) E M B U As Z H T (.ok (.lst ds)) Q)(h:Dns Y B ds xs){p:Addr}(hp:H p=none):Q (.ref p) (upd H p (.lst xs)):=
 P (.ref p) B U _ [p] (R.new hp) (Gw.newO R hp) (New.one R hp) (by
  show Ow Y B _ (.lst ds) (.ct .fz) (.ref p) [p];rw[Ow]
  exact⟨p,xs,[],rfl,az,rfl,Ows.of h⟩)
theorem t3(R:Rel Y M B U As Z H T){ds:List D}{xs:List V}{Q:VK}(P:Po Y (KR Y .F) E M B U As Z H T (.ok (.tup ds)) Q)(h:Dns Y B ds xs){p:Addr}(hp:H p=none):Q (.ref p) (upd H p (.tup xs)):=
 P (.ref p) _ _ _ [] (R.newB hp) (Gw.newB R hp) New.nil (by
  show Dn Y (upd B p (.tup xs)) (.tup ds) (.ref p);rw[Dn]
  exact⟨p,xs,rfl,az,h.mono (Gd.b8 (R.bh.free hp))⟩)
section
variable{t:TA}{m:P1->Res (List D)}
theorem RC(h:PJ Y (KL Y .F) E M t m):PJ Y (KO Y (.ct .fz)) E M (LP t) (lQ m):=by
 intro B U As Z H T Q R P;refine h.bnd R P λds xs I U1 H1 L _ b e1 c a W=>?_;by_cases z:ds.length<=af
 ·rw[VL z]at W;have a:Dns Y I ds xs:=a;exact⟨WY (fE (by rw[<-a.len];exact z)),λp hp=>dO b W a hp⟩
 ·rw[on z]at W;exact W.elim
theorem Ry(h:PJ Y (KL Y .F) E M t m):PJ Y (KR Y .F) E M (LM t) (i4 m):=by
 intro B U As Z H T Q R P;refine h.bnd R P λds xs I U1 H1 L _ b e1 c a W=>?_;by_cases z:ds.length<=af
 ·rw[VL z]at W;have a:Dns Y I ds xs:=a;exact⟨WY (fE (by rw[<-a.len];exact z)),λp hp=>t3 b W a hp⟩
 ·rw[on z]at W;exact W.elim
end
theorem RJ:PJ Y (KO Y (.ct .fz)) E M vZ (ax (.dT [] [])):=by
 intro B U As Z H T Q R P p hp;refine P (.ref p) B U _ [p] (R.new hp) (Gw.newO R hp) (New.one R hp) ?_;show Ow Y B _ (.dT [] []) (.ct .fz) (.ref p) [p];rw[Ow];exact⟨p,[],[],rfl,az,rfl,rfl,Ows.of (by rw[WO,Dns])⟩
theorem RK:PJ Y (KO Y (.ct .fz)) E M v4 (ax (.dK [] [])):=by
 intro B U As Z H T Q R P p hp;refine P (.ref p) B U _ [p] (R.new hp) (Gw.newO R hp) (New.one R hp) ?_;show Ow Y B _ (.dK [] []) (.ct .fz) (.ref p) [p];rw[Ow];exact⟨p,[],[],rfl,az,rfl,rfl,Ows.of (by rw[WO,Dns])⟩
theorem PZ{G:Hp}{x y:D}{v u:V}(l:Cn Y G H x v)(k:Cn Y G H y u){C:Res D->Prop}(f:C .bad->False)(P:C (Jo x y)){Q:VK}
 (h:∀ds c xs d,Dns Y G (ds++c) (xs++d)->C (.ok (.lst (ds++c)))->∀p,H p=none->Q (.ref p) (upd H p (.lst (xs++d)))):Mq v u H Q:=by
 cases x with
 |lst ds=>
   cases y with
   |lst c=>
     obtain⟨a,xs,r,n,i⟩:=l;obtain⟨b,d,j,m,g⟩:=k;have e:C (if ds.length+c.length<=af then .ok (.lst (ds++c)) else .bad):=P;by_cases z:ds.length+c.length<=af
     ·rw[VL z]at e;exact⟨a,b,xs,d,r,j,n,m,WY (fE (by rw[<-i.len,<-g.len];exact z)),h ds c xs d (i.append g) e⟩
     ·rw[on z]at e;exact(f e).elim
   |_=>exact(f P).elim
 |_=>cases y<;>exact(f P).elim
theorem RM{ta tb:TE}{c a:P1->Res D}(g:PJ Y (KC Y .F) E M ta c)(f:PJ Y (KC Y .F) E M tb a):PJ Y (KO Y (.ct .fz)) E M (BF Mq ta tb) (bn Jo c a):=by
 intro B U As Z H T Q R P;refine g.bnd R P λx v I U1 H1 L _ l e1 s j W=>f.bnd l W λy u e k n w _ R2 d q i m=>?_;exact PZ (G:=e) (Cn.mono d.b d.h j) i (C:=λr=>Po Y (KO Y (.ct .fz)) E M e k As Z n T r Q) (λh=>h) m λds t xs o h P3 p hp=>dO R2 P3 h hp
theorem A0{G:Hp}{x:D}{v:V}(e:Cn Y G H x v){C:Res D->Prop}(f:C .bad->False)(P:C (lb x)){Q:VK}
 (h:∀ds xs,Dns Y G ds xs->C (.ok (.lst ds))->∀p,H p=none->Q (.ref p) (upd H p (.lst xs))):∃p d,[v]=[.ref p]/\(SqL Y.K H p d\/SqT Y.K H p d)/\∀l,H l=none->Q (.ref l) (upd H l (.lst d)):=by
 cases x with
 |lst ds=>
   obtain⟨a,xs,r,c,b⟩:=e;exact⟨a,xs,by rw[r],.inl (SqL.of c),h ds xs b P⟩
 |scr ds=>
   obtain⟨a,xs,r,c,b⟩:=e;exact⟨a,xs,by rw[r],.inl c.sq,h ds xs b P⟩
 |tup ds=>
   obtain⟨a,xs,r,c,b⟩:=e;exact⟨a,xs,by rw[r],.inr (SqT.of c),h ds xs b P⟩
 |_=>exact(f P).elim
theorem Nf{ta:TE}{b:P1->Res D}(c:PJ Y (KC Y .F) E M ta b):
 PJ Y (KO Y (.ct .fz)) E M (tF (λxs H Q=>∃p a,xs=[.ref p]/\(SqL Y.K H p a\/SqT Y.K H p a)/\∀l,H l=none->Q (.ref l) (upd H l (.lst a))) (aM ta bO)) (un lb b):=by
 intro B U As Z H T Q R P;refine c.bnd R P λx v I U1 H1 L _ e e1 f d W=>?_;exact A0 (G:=I) d (C:=λr=>Po Y (KO Y (.ct .fz)) E M I U1 As Z H1 T r Q) (λh=>h) W λds xs h P3 p hp=>dO e P3 h hp
def GS:D->Res D | .lst xs=>.ok (.tup xs)|_=>.bad
theorem Ih{ta:TE}{c:P1->Res D}(d:PJ Y (KC Y .F) E M ta c):
 PJ Y (KR Y .F) E M (tF (λxs H Q=>∃p b,xs=[.ref p]/\((SqL K H p b/\∀l,H l=none->Q (.ref l) (upd H l (.tup b)))\/(SqT K H p b/\Q (.ref p) H))) (aM ta bO)) (un GS c):=by
 intro B U As Z H T Q R P;refine d.bnd R P λx v I U1 H1 L _ h e1 i g W=>?_;cases x with
 |lst ds=>
   obtain⟨a,xs,r,f,e⟩:=g;exact⟨a,xs,by rw[r],.inl ⟨SqL.of f,λp hp=>t3 h W e hp⟩⟩
 |_=>exact W.elim
theorem eU{G:Hp}:∀{ds:List D} {xs:List V} {k:List ay},bC ds=some k->Dns Y G ds xs->xs=k.map kV
 |[],_,_,e,h=>by rw[Dns]at h;cases e;rw[h];rfl
 | d::ds,_,k,e,h=>by
   rw[Dns]at h;obtain⟨x,r,rfl,a,c⟩:=h;unfold bC at e;cases q:bA d with
   |none=>rw[q]at e;cases e
   |some g=>
     cases b:bC ds with
     |none=>rw[q,b]at e;cases e
     |some f=>
       rw[q,b]at e;cases e;rw[eU b c,VN];congr 1;cases d with
       |int i=>cases q;rw[Dn]at a;exact a
       |str x=>cases q;rw[Dn]at a;exact a
       |_=>cases q
theorem nD{G:Hp}{d:D}{v:V}{k:ay}(e:bA d=some k)(h:Dn Y G d v):v=kV k:=by
 cases d with
 |int i=>cases e;rw[Dn]at h;exact h
 |str x=>cases e;rw[Dn]at h;exact h
 |_=>cases e
def OI(Y:Cm)(G:Hp):Option D->Option V->Prop
 |some d,r=>∃v,r=some v/\Dn Y G d v
 |none,r=>r=none
section
variable{W:Type}[DecidableEq W]
theorem f9{G:Hp}:∀{kvs:List (W×V)} {ds:List D} (j:W),Dns Y G ds (kvs.map (·.2))->OI Y G (aZ (kvs.map (·.1)) ds j) (cA kvs j)
 | [],ds,j,h=>by
   cases ds with
   |nil=>exact BL
   |cons d ds=>rw[Dns]at h;obtain⟨x,r,e,_⟩:=h;cases e
 | p::kvs,ds,j,h=>by
   cases ds with
   |nil=>rw[Dns]at h;cases h
   |cons d ds=>
     rw[List.map_cons,Dns]at h;obtain⟨x,r,e,b,a⟩:=h;cases e;rw[List.map_cons];unfold aZ;by_cases q:p.1=j
     ·rw[VL q];exact⟨p.2,jJ q,b⟩
     ·rw[on q,jK q];exact f9 j a
end
theorem j3{G:Hp}{d k:D}{v u:V}{o:Option D}(hd:Cn Y G H d v)(h:Dn Y H k u)(e:jc d k=some o):∃a r,v=.ref a/\LD H a/\DGet H a u r/\OI Y G o r:=by
 cases d with
 |dT g vs=>
   obtain⟨a,kvs,rfl,f,j,i⟩:=hd;cases k with
   |tup p=>
     have e:(bC p).map (λk=>aZ g vs k)=some o:=e;obtain⟨c,n,m⟩:=V7.mp e;rw[Dn]at h;obtain⟨b,xs,rfl,s,q⟩:=h;have ex:=eU n q;subst ex;refine⟨a,cA kvs c,rfl,.inr ⟨kvs,f⟩,.inr ⟨kvs,_,_,f,rfl,s,rfl⟩,?_⟩;have l:=f9 (W:=List ay) c i;rw[j,m]at l;exact l
   |_=>cases e
 |dK g vs=>
   obtain⟨a,kvs,rfl,f,j,i⟩:=hd;have e:(bA k).map (λk=>aZ g vs k)=some o:=by cases k<;>exact e
   obtain⟨c,n,m⟩:=V7.mp e;have ex:=nD n h;subst ex;refine⟨a,cA kvs c,rfl,.inl ⟨kvs,.inl f⟩,DGet.k f,?_⟩;have l:=f9 (W:=ay) c i;rw[j,m]at l;exact l
 |_=>cases k<;>cases e
theorem Nl{k:Kd}{e c:TE}{f mk:P1->Res D}(hd:PJ Y (KC Y k) E M e f)(j:PJ Y (KR Y .X) E M c mk):PJ Y (KR Y k) E M (BW e c) (bn l7 f mk):=by
 intro B U As Z H T Q R P;refine hd.bnd R P λx v I U1 H1 L _ z e1 G s W=>j.bnd z W λy u C t A J _ R2 i F p b=>?_;unfold l7 at b;cases q:jc x y with
 |none=>rw[q]at b;exact b.elim
 |some o=>
   obtain⟨a,r,m,_,g,l⟩:=j3 (Cn.mono (gB i) i.h s) p q;cases o with
   |none=>rw[q]at b;exact b.elim
   |some d=>
     rw[q]at b;obtain⟨w,rfl,n⟩:=l;exact⟨a,w,m,g,b w C t A [] R2 (Gw.refl _ _ _) New.nil n⟩
theorem RL{k:Kd}{e c:TE}{f mk:P1->Res D}(i:PJ Y (KR Y .X) E M c mk)(hd:PJ Y (KC Y k) E M e f):PJ Y (KR Y .F) E M (LS c e) (bn (mE false) mk f):=by
 intro B U As Z H T Q R P;refine i.bnd R P λy u I U1 H1 L _ t e1 G p W=>hd.bnd t W λx v A s z J _ R2 m C n b=>?_;unfold mE at b;cases q:jc x y with
 |none=>rw[q]at b;exact b.elim
 |some o=>
   rw[q]at b;obtain⟨a,r,j,_,g,l⟩:=j3 n (Dn.mono m.h p) q;refine⟨a,r,j,g,b _ A s z [] R2 (Gw.refl _ _ _) New.nil ?_⟩;show Dn Y _ (.bl (false.xor o.isSome)) _;rw[Dn];cases o with
   |none=>rw[show r=none from l];rfl
   |some d=>obtain⟨w,rfl,_⟩:=l;rfl
theorem Nk{k:Kd}{e c:TE}{f mk:P1->Res D}(i:PJ Y (KR Y .X) E M c mk)(hd:PJ Y (KC Y k) E M e f):PJ Y (KR Y .F) E M (qZ c e) (bn (mE true) mk f):=by
 intro B U As Z H T Q R P;refine i.bnd R P λy u I U1 H1 L _ t e1 G p W=>hd.bnd t W λx v A s z J _ R2 m C n b=>?_;unfold mE at b;cases q:jc x y with
 |none=>rw[q]at b;exact b.elim
 |some o=>
   rw[q]at b;obtain⟨a,r,j,_,g,l⟩:=j3 n (Dn.mono m.h p) q;refine⟨a,r,j,g,b _ A s z [] R2 (Gw.refl _ _ _) New.nil ?_⟩;show Dn Y _ (.bl (true.xor o.isSome)) _;rw[Dn];cases o with
   |none=>rw[show r=none from l];rfl
   |some d=>obtain⟨w,rfl,_⟩:=l;rfl
def ul:D->Bool | .dT _ _=>true | .dK _ _=>true|_=>false
theorem Cn.dic{G:Hp}{d:D}{v:V}(h:Cn Y G H d v)(e:ul d=true):∃a,v=.ref a/\LD H a:=by
 cases d with
 |dT c vs=>obtain⟨a,kvs,r,b,_⟩:=h;exact⟨a,r,.inr ⟨kvs,b⟩⟩
 |dK c vs=>obtain⟨a,kvs,r,b,_⟩:=h;exact⟨a,r,.inl ⟨kvs,.inl b⟩⟩
 |_=>cases e
def yQ(b mk a:P1->Res D):P1->Res D:=λT=>(b T).bind λd=>if ul d=true then (mk T).bind λk=>(a T).bind λx=>fT d k x else .bad
theorem Ij{k:Kd}{j i f:TE}{n mk m:P1->Res D}(hd:PJ Y (KC Y k) E M j n)(O:PJ Y (KR Y .X) E M i mk)(N:PJ Y (KR Y k) E M f m):PJ Y (KR Y k) E M (v5 j i f) (yQ n mk m):=by
 intro B U As Z H T Q R P;refine hd.bnd R P λx v I U1 H1 L _ R1 e1 n1 t W=>?_;by_cases z:ul x=true
 · rw[if_pos z]at W;obtain⟨a,p,S⟩:=Cn.dic t z;refine⟨a,p,S,O.bnd R1 W λy u B2 U2 H2 N2 _ R2 s n2 d2 P2=>N.bnd R2 P2 λw J G A F N3 _ C e n3 d3 P3=>?_⟩;unfold fT at P3;have c:=Cn.mono (gB (s.trans e)) (s.trans e).h t;cases q:jc x y with
   |none=>rw[q]at P3;exact P3.elim
   |some o=>
     rw[q]at P3;obtain⟨a',r,b,_,g,l⟩:=j3 c (Dn.mono e.h d2) q;rw[p]at b;cases b;cases o with
     |none=>
       refine⟨r,g,?_⟩;rw[show r=none from l];exact P3 J G A F [] C (Gw.refl _ _ _) New.nil d3
     |some d=>
       obtain⟨K,rfl,V⟩:=l;exact⟨_,g,P3 K G A F [] C (Gw.refl _ _ _) New.nil V⟩
 ·rw[on z]at W;exact W.elim
def qB(a mk:P1->Res D):P1->Res D:=λT=>(a T).bind λd=>if ul d=true then (mk T).bind λk=>fT d k .non else .bad
theorem Ik{k:Kd}{f e:TE}{i mk:P1->Res D}(hd:PJ Y (KC Y k) E M f i)(A:PJ Y (KR Y .X) E M e mk):PJ Y (KR Y k) E M (v6 f e) (qB i mk):=by
 intro B U As Z H T Q R P;refine hd.bnd R P λx v I U1 H1 L _ J e1 N n W=>?_;by_cases z:ul x=true
 · rw[if_pos z]at W;obtain⟨a,j,C⟩:=Cn.dic n z;refine⟨a,j,C,A.bnd J W λy u t p s S _ R2 m K G P3=>?_⟩;unfold fT at P3;have c:=Cn.mono (gB m) m.h n;cases q:jc x y with
   |none=>rw[q]at P3;exact P3.elim
   |some o=>
     rw[q]at P3;obtain⟨O,r,b,_,g,l⟩:=j3 c G q;rw[j]at b;cases b;cases o with
     |none=>
       refine⟨r,g,?_⟩;rw[show r=none from l];exact P3 .non t p s [] R2 (Gw.refl _ _ _) New.nil (show Dn Y _ .non .non by rw[Dn])
     |some d=>
       obtain⟨w,rfl,F⟩:=l;exact⟨_,g,P3 w t p s [] R2 (Gw.refl _ _ _) New.nil F⟩
 ·rw[on z]at W;exact W.elim
end
section
variable{Y:Cm}{E:XK}{M:List Md}{K:F0}{B U H:Hp}{As:Nat->List Addr}{Z:St}{T:P1}
theorem jW{G:Hp}:∀{fs:List (Str×V)} {ds:List D} {f:Str} {d:D},Dns Y G ds (fs.map (·.2))->aZ (fs.map (·.1)) ds f=some d->∃v,fs.lookup f=some v/\Dn Y G d v
 |[],ds,f,d,h,e=>by cases ds<;>cases e
 | p::fs,ds,f,d,h,e=>by
   cases ds with
   |nil=>cases e
   |cons d0 ds=>
     rw[List.map_cons,Dns]at h;obtain⟨x,r,e0,c,b⟩:=h;cases e0;rw[List.map_cons]at e;unfold aZ at e;by_cases q:p.1=f
     ·rw[VL q]at e;cases e;exact⟨p.2,by rw[Wp,<-q,Xb],c⟩
     · rw[on q]at e;obtain⟨v,a,g⟩:=jW b e
       have:(f==p.1)=false:=Wt.mpr λz=>q z.symm
       exact⟨v,by rw[Wp,this];exact a,g⟩
theorem Owf.get{B H:Hp}{sh:List (Str×Sh)}:∀{fs:List (Str×V)} {ds:List D} {A:List Addr} {f:Str} {d:D},Owf Y B H ds (fs.map (·.1)) sh (fs.map (·.2)) A->aZ (fs.map (·.1)) ds f=some d->
 ∃v A1,fs.lookup f=some v/\Ow Y B H d ((sh.lookup f).getD .fz) v A1/\∀a∈A1,a∈A
 |[],ds,A,f,d,h,e=>by cases ds<;>cases e
 | p::fs,ds,A,f,d,h,e=>by
   cases ds with
   |nil=>cases e
   |cons d0 ds=>
     rw[List.map_cons,List.map_cons,Owf]at h;obtain⟨n,i,x,r,A1,t,k,h0,o,c,m⟩:=h;cases k;cases h0;subst o;rw[List.map_cons]at e;unfold aZ at e;by_cases q:p.1=f
     ·rw[VL q]at e;cases e;rw[q]at c;exact⟨p.2,A1,by rw[Wp,<-q,Xb],c,λa b=>V0 _ b⟩
     · rw[on q]at e;obtain⟨v,s,j,g,l⟩:=Owf.get m e
       have:(f==p.1)=false:=Wt.mpr λz=>q z.symm
       exact⟨v,s,by rw[Wp,this];exact j,g,λa b=>VS _ (l a b)⟩
theorem mP{c:Nat}{f:Str}{x d:D}(h:bv c f x=.ok d):∃ns vs,x=.obj c ns vs/\aZ ns vs f=some d:=by
 cases x with
 |obj a ns vs=>
   unfold bv at h;dsimp only at h;by_cases e:a=c
   · rw[VL e]at h;subst e;cases q:aZ ns vs f with
     |none=>rw[q]at h;cases h
     |some y=>rw[q]at h;cases h;exact⟨ns,vs,rfl,q⟩
   ·rw[on e]at h;cases h
 |_=>cases h
theorem j7{c:Nat}{f:Str}{x:D}{e:Nat}(h:bv c f x=.exc e):False:=by
 cases x with
 |obj a ns vs=>
   have h:(if a=c then (match aZ ns vs f with|some x=>Res.ok x|none=>.bad) else .bad)=.exc e:=h;by_cases e:a=c
   ·rw[VL e]at h;cases q:aZ ns vs f<;>(rw[q]at h;cases h)
   ·rw[on e]at h;cases h
 |_=>cases h
theorem RH{k:Kd}{c:Nat}{f:Str}{ta:TE}{b:P1->Res D}(i:Cls K (Y c))(h:NoAttr K (Y c) f)(j:PJ Y (KC Y k) E M ta b):PJ Y (KR Y k) E M (mV K ta f) (un (bv c f) b):=by
 intro B U As Z H T Q R P;refine j.bnd R P λx v I U1 H1 L _ s e1 t q W=>?_;cases e:bv c f x with
 |ok d=>
   rw[e]at W;obtain⟨ns,vs,rfl,l⟩:=mP e;obtain⟨a,dx,fs,r,o,n,m⟩:=q;subst n;obtain⟨w,g,p⟩:=jW m l;exact⟨a,_,dx,fs,w,r,o,i,h,g,W w I U1 H1 [] s (Gw.refl _ _ _) New.nil p⟩
 |exc u=>exact(j7 e).elim
 |bad=>rw[e]at W;exact W.elim
theorem Nh{g:KT D V}{c:Nat}{f:Str}{i:Nat}{sh:List (Str×Sh)}(p:Cls K (Y c))(m:NoAttr K (Y c) f)(n:M.getD i .F= .O (.ob sh))
 (o:∀B U H d v A,Same B U->Same U H->Ow Y B H d ((sh.lookup f).getD .fz) v A->g d v B U H []):PJ Y g E M (mV K (cF i) f) (un (bv c f) (vr i)):=by
 intro B U As Z H T Q R P;have l:=R.lo i;rw[n]at l;unfold un vr at P;cases e:rg T i with
 |none=>rw[e]at P;exact P.elim
 |some d0=>
   rw[e]at P l;obtain⟨v,k,q⟩:=l;replace P:Po Y g E M B U As Z H T (bv c f d0) Q:=P;refine⟨v,bP k,?_⟩;cases b:bv c f d0 with
   |ok d=>
     rw[b]at P;obtain⟨ns,vs,rfl,l⟩:=mP b;have q:Ow Y B H (.obj c ns vs) (.ob sh) v (As i):=q;rw[Ow]at q;obtain⟨a,dx,fs,z,r,u,t,x,s⟩:=q;subst t;obtain⟨w,A1,j,h,_⟩:=Owf.get s l;exact⟨a,_,dx,fs,w,r,u,p,m,j,P w B U H [] R (Gw.refl _ _ _) New.nil (o B U H d w A1 R.bu R.uh h)⟩
   |exc y=>exact(j7 b).elim
   |bad=>rw[b]at P;exact P.elim
theorem Ni{c:Nat}{f:Str}{i:Nat}{sh:List (Str×Sh)}(j:Cls K (Y c))(e:NoAttr K (Y c) f)(g:M.getD i .F= .O (.ob sh))(h:(sh.lookup f).getD .fz=.ct .fz):PJ Y (KC Y .F) E M (mV K (cF i) f) (un (bv c f) (vr i)):=
 Nh j e g λB U H d v A b u a=>by
  rw[h]at a;exact Ow.cn (b.trans u) a
def JD(J:It)(H:Hp)(vs:List V):Prop:=∀a,Same H a->(∀i,vs.length<=i->J.stop i a)/\(∀i,i<vs.length->J.go i a)/\∀i x H',i<vs.length->J.yld i a x H'->H'=a/\vs[i]?=some x
def KI(Y:Cm)(k g:Kd):KT (List D) It:=λds J B U H _=>∃vs,JD J (hp g B U H) vs/\Dns Y (hp k B U H) ds vs
theorem iV{a:Addr}{xs:List V}(h:H a=some (.lst xs)\/SqF K H a xs):JD (VI K a) H xs:=λb s=>by
 have q:SqL K b a xs:=by
  rcases h with h|h
  ·exact .inl (.inl (s _ _ h))
  ·exact(h.mono s).sq
 exact⟨λi hi=>⟨xs,q,hi⟩,λi hi=>⟨xs,xs[i],q,V4 hi⟩,λi x H' hi y=>⟨y.1,y.2 xs q⟩⟩
theorem uk(lo:Int)(n:Nat):JD (Uv lo n) H ((List.range n).map λi:Nat=>V.int (lo+i)):=λb s=>by
 have a:((List.range n).map λi:Nat=>V.int (lo+i)).length=n:=by rw[VO,XW]
 refine⟨λi hi=>by rw[a]at hi;exact hi,λi hi=>by rw[a]at hi;exact hi,λi x H' hi y=>⟨y.1,?_⟩⟩;rw[a]at hi;rw[V9,XM hi,y.2];rfl
theorem r6{G:Hp}(lo:Int):∀n:Nat,Dns Y G ((List.range n).map λi:Nat=>D.int (lo+i)) ((List.range n).map λi:Nat=>V.int (lo+i))
 |0=>by rw[List.range_zero,WO,WO,Dns]
 | n+1=>by
   rw[List.range_succ,Wm,Wm];exact(r6 lo n).append (Dns.one (by rw[Dn]))
theorem OZ{k:Kd}{ta:TE}{d:P1->Res D}(g:PJ Y (KC Y k) E M ta d):PJ Y (KI Y k .X) E M (qx Y.K ta) (i0 d):=by
 intro B U As Z H T Q R P;refine g.bnd R P λx v I U1 H1 L _ f e1 h e W=>?_;cases x with
 |lst ds=>
   obtain⟨a,xs,r,b,c⟩:=e;exact⟨a,r,⟨xs,SqL.of b⟩,W _ I U1 H1 [] f (Gw.refl _ _ _) New.nil ⟨xs,iV (.inl b),c⟩⟩
 |scr ds=>
   obtain⟨a,xs,r,b,c⟩:=e;exact⟨a,r,⟨xs,b.sq⟩,W _ I U1 H1 [] f (Gw.refl _ _ _) New.nil ⟨xs,iV (.inr b),c⟩⟩
 |_=>exact W.elim
theorem yM{k:Kd}{ta:TE}{f:P1->Res D}(g:PJ Y (KR Y k) E M ta f):PJ Y (KI Y k k) E M (qx Y.K ta) (i0 f):=by
 intro B U As Z H T Q R P;refine g.bnd R P λx v I U1 H1 L _ d e1 h b W=>?_;have b:Dn Y (hp k I U1 H1) x v:=b;cases x with
 |lst ds=>
   rw[Dn]at b;obtain⟨a,xs,r,c,e⟩:=b;exact⟨a,r,⟨xs,SqL.of (d.hp k _ _ c)⟩,W _ I U1 H1 [] d (Gw.refl _ _ _) New.nil ⟨xs,iV (.inl c),e⟩⟩
 |scr ds=>
   rw[Dn]at b;obtain⟨a,xs,r,c,e⟩:=b;exact⟨a,r,⟨xs,(c.mono (d.hp k)).sq⟩,W _ I U1 H1 [] d (Gw.refl _ _ _) New.nil ⟨xs,iV (.inr c),e⟩⟩
 |_=>exact W.elim
theorem Vr{g:Kd}{ta tb:TE}{f e:P1->Res D}(m:PJ Y (KR Y .X) E M ta f)(l:PJ Y (KR Y .X) E M tb e):PJ Y (KI Y .F g) E M (Fb (aM ta (aM tb bO))) (v7 f e):=by
 intro B U As Z H T Q R P;refine m.bnd R P λx v I U1 H1 L _ n e1 p c W=>l.bnd n W λy u k h d r _ R2 q o b a=>?_;have c:Dn Y H1 x v:=c;have b:Dn Y d y u:=b;cases x with
 |int i=>
   cases y with
   |int j=>
     rw[Dn]at c;rw[Dn]at b;subst c b;have a:Po Y (KI Y .F g) E M k h As Z d T (if -(2 ^ 62)<=i/\i<2 ^ 62/\-(2 ^ 62)<=j/\j<2 ^ 62 then .ok (rng i j) else .bad) Q:=a;by_cases z:-(2 ^ 62)<=i/\i<2 ^ 62/\-(2 ^ 62)<=j/\j<2 ^ 62
     ·rw[VL z]at a;exact⟨i,j,rfl,z,a _ k h d [] R2 (Gw.refl _ _ _) New.nil ⟨_,uk i _,r6 i _⟩⟩
     ·rw[on z]at a;exact a.elim
   |_=>exact a.elim
 |_=>cases y<;>exact a.elim
theorem Vs{g:Kd}{tb:TE}{c:P1->Res D}(k:PJ Y (KR Y .X) E M tb c):PJ Y (KI Y .F g) E M (Fc (aM tb bO)) (fq c):=by
 intro B U As Z H T Q R P
 have P:Po Y (KI Y .F g) E M B U As Z H T ((c T).bind λy=>match D.int 0,y with
  |.int i,.int j=>if -(2 ^ 62)<=i/\i<2 ^ 62/\-(2 ^ 62)<=j/\j<2 ^ 62 then .ok (rng i j) else .bad
  |_,_=>.bad) Q:=P
 refine k.bnd R P λy u h f d n _ R2 m l b a=>?_;have b:Dn Y d y u:=b;cases y with
 |int j=>
   rw[Dn]at b;subst b;have a:Po Y (KI Y .F g) E M h f As Z d T (if -(2 ^ 62)<=(0:Int)/\(0:Int)<2 ^ 62/\-(2 ^ 62)<=j/\j<2 ^ 62 then .ok (rng 0 j) else .bad) Q:=a;by_cases z:-(2 ^ 62)<=(0:Int)/\(0:Int)<2 ^ 62/\-(2 ^ 62)<=j/\j<2 ^ 62
   · rw[VL z]at a;refine⟨j,rfl,z.2.2.1,z.2.2.2,a _ h f d [] R2 (Gw.refl _ _ _) New.nil ?_⟩;have e:(j-0).toNat=j.toNat:=by rw[Int.sub_zero]
     unfold rng;rw[e];exact⟨_,uk 0 _,r6 0 _⟩
   ·rw[on z]at a;exact a.elim
 |_=>exact a.elim
theorem xZ{W:Type}{l:List (Option W)}{x:Option W}{i:Nat}:rg (x::l) (i+1)=rg l i:=by unfold rg;rw[List.getElem?_cons_succ]
theorem xY{W:Type}{l:List (Option W)}{x:Option W}:rg (x::l) 0=x:=by unfold rg;rw[List.getElem?_cons_zero];rfl
theorem Ci{W:Type}{l:List (Option W)}{a:List Nat}{j:Nat}:rg (a.map λi=>rg l i) j=match a[j]? with|some i=>rg l i|none=>none:=by
 unfold rg;rw[List.getElem?_map];cases a[j]?<;>rfl
theorem tX:∀{l:List Nat} {i j:Nat},l.Nodup->(a:i<l.length)->(b:j<l.length)->l[i]=l[j]->i=j
 |[],_,_,_,a,_,_=>by simp at a
 |x::l,0,0,_,_,_,_=>rfl
 | x::l,0,j+1,nd,a,b,e=>by
   have c:j<l.length:=by simpa using b
   exact absurd (show x∈l from by rw[show x=l[j] from e];exact YA c) (Wc.mp nd).1
 | x::l,i+1,0,nd,a,b,e=>by
   have c:i<l.length:=by simpa using a
   exact absurd (show x∈l from by rw[show x=l[i] from e.symm];exact YA c) (Wc.mp nd).1
 | x::l,i+1,j+1,nd,a,b,e=>by
   rw[tX (Wc.mp nd).2 (by simpa using a) (by simpa using b) e]
def VC(As:Nat->List Addr)(a:List Nat):Nat->List Addr
 |0=>[]
 |j+1=>match a[j]? with|some i=>As i|none=>[]
def k7(m:Md)(M:List Md)(a:List Nat):List Md:=m::a.map λi=>M.getD i .F
theorem Rel.inner(R:Rel Y M B U As Z H T){b:List Nat}(k:b.Nodup){m:Md}{d:D}{v:V}(hd:Lo Y B U H m (some d) (some v) []):
 Rel Y (k7 m M b) B U (VC As b) (some v::ig Z b) H (some d::dG T b) where
 bu:=R.bu
 uh:=R.uh
 nd:=λi=>by
  cases i with
  |zero=>exact WE
  |succ j=>
    show(match b[j]? with|some i=>As i|none=>[]).Nodup;cases b[j]? with
    |none=>exact WE
    |some i=>exact R.nd i
 dj:=λi j a h c f=>by
  cases i with
  |zero=>cases c
  |succ i=>
    cases j with
    |zero=>cases f
    |succ j=>
      have c:a∈(match b[i]? with|some i=>As i|none=>[]):=c;have f:a∈(match b[j]? with|some i=>As i|none=>[]):=f;cases g:b[i]? with
      |none=>rw[g]at c;cases c
      |some x=>
        cases l:b[j]? with
        |none=>rw[l]at f;cases f
        |some y=>
          rw[g]at c;rw[l]at f;by_cases e:x=y
          · subst e;obtain⟨p,e1⟩:=V6.mp g;obtain⟨o,n⟩:=V6.mp l
            have:=tX k p o (e1.trans n.symm)
            exact h (by rw[this])
          ·exact R.dj x y a e c f
 tb:=R.tb
 un:=λi a c=>by
  cases i with
  |zero=>cases c
  |succ i=>
    have c:a∈(match b[i]? with|some i=>As i|none=>[]):=c;cases g:b[i]? with
    |none=>rw[g]at c;cases c
    |some x=>rw[g]at c;exact R.un x a c
 lo:=λi=>by
  cases i with
  |zero=>
    rw[xY,xY];exact hd
  |succ j=>
    rw[xZ,xZ];unfold ig dG;have e1:rg (b.map λj=>rg T j) j=match b[j]? with|some i=>rg T i|none=>none:=Ci
    have n:rg (b.map λj=>(Z[j]?).join) j=match b[j]? with|some i=>rg Z i|none=>none:=Ci
    rw[e1,n];show Lo Y B U H ((m::b.map λi=>M.getD i .F).getD (j+1) .F) _ _ (match b[j]? with|some i=>As i|none=>[]);rw[W8,V5,V9];cases b[j]? with
    |none=>exact rfl
    |some i=>exact R.lo i
 len:=by
  rw[VV,VV,ig,dG,VO,VO]
theorem Rel.poke(R:Rel Y M B U As Z H T){p:Addr}{o:HO}(b:U p=none)(c:∀i,p∉As i):Rel Y M B U As Z (upd H p o) T:=
 ⟨R.bu,λa u q=>by rw[ao (aR q b)];exact R.uh a u q,R.nd,R.dj,R.un,λi=>(R.lo i).mono (Same.refl _) (Same.refl _) λa h=>ao (λz:a=p=>c i (z▸h)),R.len,R.tb⟩
theorem lC{W:Type}{l:List W}{i:Nat}{x:W}(h:l[i]?=some x):l.drop i=x::l.drop (i+1):=by
 obtain⟨b,a⟩:=V6.mp h;rw[XJ b,a]
theorem zN{k O:Kd}{m0:Md}{K':KT D V}{f:List Nat}{ti:TT}{te:TE}{mi:P1->Res Bool}{me:P1->Res D}(hix:f.Nodup)(h0:∀B U H d v,Same B U->Same U H->Dn Y (hp k B U H) d v->Lo Y B U H m0 (some d) (some v) [])
 (hti:PJ Y KB E0 (k7 m0 M f) ti mi) (hte:PJ Y (KR Y O) E0 (k7 m0 M f) te me)
 (fin:∀B U As Z H T I U1 H1 Q n N p,Rel Y M I U1 As Z H1 T->Gw B U H I U1 H1->H p=none->U1 p=none->(∀i,p∉As i)->H1 p=some (.lst N)->Dns Y (hp O I U1 H1) n N->Po Y K' E M B U As Z H T (.ok (.lst n)) Q->Q (.ref p) H1)
 (hk':O= .F\/O= .U) {As:Nat->List Addr} {Z:St} {T:P1} {Q:VK} {ds:List D} {J:It} {I U1 H1:Hp} {vs:List V} (R1:Rel Y M I U1 As Z H1 T) (hJ:JD J H1 vs) (hd:Dns Y (hp k I U1 H1) ds vs)
 (W:Po Y K' E M I U1 As Z H1 T (if ds.length<af then (a7 mi me (dG T f) ds).bind λr=>.ok (.lst r) else .bad) Q) (p:Addr) (hp:H1 p=none):GB J (λv=>some v::ig Z f) ti te p H1 Q:=by
 by_cases z:ds.length<af
 · rw[VL z]at W;have hvl:ds.length=vs.length:=hd.len;have hpA:∀i,p∉As i:=λi=>R1.fresh hp i
   have G:∀{t l L B3 S H3:Hp},Gw t l L B3 S H3->Same (Mi.hp O t l (λ_=>none)) (Mi.hp O B3 S (λ_=>none)):=λg=>by
    rcases hk' with e|e<;>subst e
    ·exact g.b
    ·exact g.u
   have hpe:∀{t l L:Hp},Mi.hp O t l L=Mi.hp O t l (λ_=>none):=λ{t l L}=>by rcases hk' with e|e<;>subst e<;>rfl
   refine⟨λi m N L=>i<=ds.length/\m=ds.length-i/\L p=some (.lst N)/\N.length<=i/\∃t l n,Rel Y M t l As Z L T/\Gw I U1 H1 t l L/\l p=none/\Dns Y (Mi.hp O t l (λ_=>none)) n N/\
    Po Y K' E M I U1 As Z H1 T ((a7 mi me (dG T f) (ds.drop i)).bind λr=>.ok (.lst (n++r))) Q,⟨ds.length,WP _,rfl,az,V2 _,I,U1,[],R1.new hp,Gw.newO R1 hp,R1.uh.free hp,by rw[Dns],W⟩,?_⟩
   rintro i m N L ⟨hi,rfl,hy,hle,t,l,n,R2,g2,u2,dz,w⟩;have C:=hJ L g2.h;refine⟨hy,Xx hle (fE (WY (Xx hi z))),?_⟩;by_cases hlt:i<ds.length
   · refine .inr ⟨C.2.1 i (by omega),λv H3 hyl=>?_⟩;obtain⟨rfl,ev⟩:=C.2.2 i v H3 (by omega) hyl;obtain⟨d,ed,dd⟩:=hd.geti ev;rw[lC ed,a7]at w;have RI:=R2.inner hix (h0 t l H3 d v R2.bu R2.uh (Dn.mono (gB g2) dd));refine hti t l _ _ H3 _ _ RI ?_;cases eb:mi (some d::dG T f) with
     |ok c=>
       rw[eb]at w;intro b B3 S H4 N3 K s n3 hb;cases hb
       have up3:S p=none:=by
        cases q:S p with
        |none=>rfl
        |some o=>
          rcases s.fr p o q with z|z|⟨xs,z⟩
          ·rw[u2]at z;cases z
          ·rw[hy]at z;cases z
          ·subst z;have:=K.uh p _ q;rw[s.h _ _ hy]at this;cases this
       have R3:Rel Y M B3 S As Z H4 T:=R2.grow s.b s.u s.h K.bu K.uh λj a P=>by
        cases q:S a with
        |none=>rfl
        |some o=>
          rcases s.fr a o q with z|z|z
          ·rw[R2.un j a P]at z;cases z
          ·obtain⟨o',A⟩:=R2.at P;rw[z]at A;cases A
          ·obtain⟨o',A⟩:=R2.at P;have e1:=s.h _ _ A;rw[K.uh a _ q]at e1;cases e1;exact(R2.nt P A z).elim
       cases c with
       |false=>
         rw[on V1];exact⟨ds.length-(i+1),by omega,hlt,rfl,s.h _ _ hy,by omega,B3,S,n,R3,g2.trans s,up3,dz.mono (G s),w⟩
       |true=>
         rw[VL rfl];refine hte B3 S _ _ H4 _ _ K ?_;cases ee:me (some d::dG T f) with
         |ok x=>
           have P3:Po Y K' E M I U1 As Z H1 T (((me (some d::dG T f)).calm.bind λx=>(a7 mi me (dG T f) (ds.drop (i+1))).bind λxs=>.ok (x::xs)).bind λr=>.ok (.lst (n++r))) Q:=w;rw[ee]at P3;intro y B4 U4 H5 N4 X R n4 hx;have y5:H5 p=some (.lst N):=R.h _ _ (s.h _ _ hy)
           have up4:U4 p=none:=by
            cases q:U4 p with
            |none=>rfl
            |some o=>
              rcases R.fr p o q with z|z|⟨xs,z⟩
              ·rw[up3]at z;cases z
              ·rw[s.h _ _ hy]at z;cases z
              ·subst z;have:=X.uh p _ q;rw[y5]at this;cases this
           have R4:Rel Y M B4 U4 As Z H5 T:=R3.grow R.b R.u R.h X.bu X.uh λj a P=>by
            cases q:U4 a with
            |none=>rfl
            |some o=>
              rcases R.fr a o q with z|z|z
              ·rw[R3.un j a P]at z;cases z
              ·obtain⟨o',A⟩:=R3.at P;rw[z]at A;cases A
              ·obtain⟨o',A⟩:=R3.at P;have e1:=R.h _ _ A;rw[X.uh a _ q]at e1;cases e1;exact(R3.nt P A z).elim
           have g5:Gw I U1 H1 B4 U4 (upd H5 p (.lst (N++[y]))):=by
            have g:=(g2.trans s).trans R;exact⟨g.toEx,λa o q=>by rw[ao (aR q hp)];exact g.h a o q,g.fr⟩
           refine⟨y5,ds.length-(i+1),by omega,hlt,rfl,az,by rw[VQ,XD];omega,B4,U4,n++[x],R4.poke up4 hpA,g5,up4,(dz.mono (G (s.trans R))).append (Dns.one ?_),?_⟩
           ·have hx:Dn Y (Mi.hp O B4 U4 H5) x y:=hx;rw[hpe]at hx;exact hx
           · cases eg:a7 mi me (dG T f) (ds.drop (i+1)) with
             |ok r=>
               rw[eg]at P3;show Po Y K' E M I U1 As Z H1 T (.ok (.lst (n++[x]++r))) Q;rw[Wy];exact P3
             |exc c=>rw[eg]at P3;exact P3
             |bad=>rw[eg]at P3;exact P3
         |exc c=>
           have P3:Po Y K' E M I U1 As Z H1 T (((me (some d::dG T f)).calm.bind λx=>(a7 mi me (dG T f) (ds.drop (i+1))).bind λxs=>.ok (x::xs)).bind λr=>.ok (.lst (n++r))) Q:=w;rw[ee]at P3;exact P3.elim
         |bad=>
           have P3:Po Y K' E M I U1 As Z H1 T (((me (some d::dG T f)).calm.bind λx=>(a7 mi me (dG T f) (ds.drop (i+1))).bind λxs=>.ok (x::xs)).bind λr=>.ok (.lst (n++r))) Q:=w;rw[ee]at P3;exact P3.elim
     |exc c=>rw[eb]at w;exact w.elim
     |bad=>rw[eb]at w;exact w.elim
   · have e:i=ds.length:=by omega
     subst e;rw[YB,a7]at w;refine .inl ⟨C.1 _ (by omega),?_⟩;have P3:Po Y K' E M I U1 As Z H1 T (.ok (.lst (n++[]))) Q:=w;rw[Wh]at P3;exact fin I U1 As Z H1 T t l L Q n N p R2 g2 hp u2 hpA hy (by rw[hpe];exact dz) P3
 ·rw[on z]at W;exact W.elim
theorem zM{k b:Kd}{c:Md}{q:KT D V}{n:TI}{a:List Nat}{o:TT}{te:TE}{src:P1->Res (List D)}{mi:P1->Res Bool}{me:P1->Res D}
 (r:PJ Y (KI Y k .X) E M n src) (h:a.Nodup) (h0:∀B U H d v,Same B U->Same U H->Dn Y (hp k B U H) d v->Lo Y B U H c (some d) (some v) [])
 (e:PJ Y KB E0 (k7 c M a) o mi) (f:PJ Y (KR Y b) E0 (k7 c M a) te me)
 (j:∀B U As Z H T I U1 H1 Q l m p,Rel Y M I U1 As Z H1 T->Gw B U H I U1 H1->H p=none->U1 p=none->(∀i,p∉As i)->H1 p=some (.lst m)->Dns Y (hp b I U1 H1) l m->Po Y q E M B U As Z H T (.ok (.lst l)) Q->Q (.ref p) H1)
 (g:b= .F\/b= .U):PJ Y q E M (lH n a o te) (i6 src a mi me):=by
 intro B U As Z H T Q R P;refine r.bnd R P λds J I U1 H1 L _ t e1 u ⟨vs,s,hd⟩ W p hp=>?_;exact zN h h0 e f j g t s hd W p hp
theorem Tb{B U H:Hp}{d:D}{v:V}(_:Same B U)(_:Same U H)(h:Dn Y (hp .F B U H) d v):Lo Y B U H .F (some d) (some v) []:=⟨v,rfl,h,rfl⟩
theorem inU{B U H:Hp}{d:D}{v:V}(_:Same B U)(_:Same U H)(h:Dn Y (hp .U B U H) d v):Lo Y B U H .R (some d) (some v) []:=⟨v,rfl,h,rfl⟩
theorem O4{B U:Hp}{As:Nat->List Addr}{Z:St}{H:Hp}{T:P1}{I U1 H1:Hp}{Q:VK}{b:List D}{c:List V}{p:Addr}(R:Rel Y M I U1 As Z H1 T)(g:Gw B U H I U1 H1)(hp:H p=none)(u:U1 p=none)(e:∀i,p∉As i)(h:H1 p=some (.lst c))
 (d:Dns Y (Mi.hp .F I U1 H1) b c) (P:Po Y (KO Y (.ct .fz)) E M B U As Z H T (.ok (.lst b)) Q):Q (.ref p) H1:=
 P (.ref p) I U1 H1 [p] R g ⟨by simp,λa q=>by rw[VU.mp q];exact hp,λa q=>by rw[VU.mp q];exact u⟩ (by
  show Ow Y I H1 (.lst b) (.ct .fz) (.ref p) [p];rw[Ow]
  exact⟨p,c,[],rfl,h,rfl,Ows.of d⟩)
section
variable{wi:TI}{ix:List Nat}{ti:TT}{te:TE}{src:P1->Res (List D)}{mi:P1->Res Bool}{me:P1->Res D}
theorem Mt:PJ Y KB E M LL (λ_=>.ok true):=λB U As Z H T Q R P=>P _ B U H [] R (Gw.refl _ _ _) New.nil rfl
theorem Dl(d:PJ Y (KI Y .F .X) E M wi src)(c:ix.Nodup)(a:PJ Y KB E0 (k7 .F M ix) ti mi)(b:PJ Y (KR Y .F) E0 (k7 .F M ix) te me):PJ Y (KO Y (.ct .fz)) E M (lH wi ix ti te) (i6 src ix mi me):=
 zM d c (λ_ _ _ _ _=>Tb) a b (λ_ _ _ _ _ _ _ _ _ _ _ _ _=>O4) (.inl rfl)
theorem Dj(d:PJ Y (KI Y .U .X) E M wi src)(c:ix.Nodup)(a:PJ Y KB E0 (k7 .R M ix) ti mi)(b:PJ Y (KR Y .F) E0 (k7 .R M ix) te me):PJ Y (KO Y (.ct .fz)) E M (lH wi ix ti te) (i6 src ix mi me):=
 zM d c (λ_ _ _ _ _=>inU) a b (λ_ _ _ _ _ _ _ _ _ _ _ _ _=>O4) (.inl rfl)
end
end
structure NewM (N:List Addr) (U:Hp) (As:Nat->List Addr):Prop where
 nd:N.Nodup
 un:∀a∈N,U a=none
 ap:∀a∈N,∀i,a∉As i
theorem NewM.nil{U:Hp}{As:Nat->List Addr}:NewM [] U As:=⟨WE,λ_ h=>(nomatch h),λ_ h=>(nomatch h)⟩
def Kp(b:Nat->Bool)(Z a:St):Prop:=∀j,b j=true->rg a j=rg Z j
theorem Kp.refl(a:Nat->Bool)(Z:St):Kp a Z Z:=λ_ _=>rfl
theorem Kp.trans{e:Nat->Bool}{Z d c:St}(a:Kp e Z d)(b:Kp e d c):Kp e Z c:=λj h=>(b j h).trans (a j h)
section
variable(Y:Cm)
def Mo{W X:Type}(K:KT W X)(E:XK)(M:List Md)(B U:Hp)(Z:St)(r:Out W)(Q:X->Hp->Prop):Prop:=
 match r with
 |.ok d G=>∀v S J C H' N,Rel Y M S J C Z H' G->Ex B U S J->NewM N J C->K d v S J H' N->Q v H'
 |.exc c G=>∀S J C H',Rel Y M S J C Z H' G->Ex B U S J->∀a,E (.ref (Y c)) a H'
 |.bad=>False
def MJ{W X:Type}(K:KT W X)(E:XK)(M:List Md)(t:St->Hp->(X->Hp->Prop)->Prop)(m:P1->Out W):Prop:=
 ∀B U As Z H T Q,Rel Y M B U As Z H T->Mo Y K E M B U Z (m T) Q->t Z H Q
def So(E:XK)(f:KT D V)(b:Nat->Bool)(M:List Md)(B U:Hp)(Z:St)(r:SO)(D:Ends):Prop:=
 match r with
 |.nx G=>∀a S J C H',Rel Y M S J C a H' G->Ex B U S J->Kp b Z a->D.nx a H'
 |.bk G=>∀a S J C H',Rel Y M S J C a H' G->Ex B U S J->Kp b Z a->D.bk a H'
 |.ct G=>∀a S J C H',Rel Y M S J C a H' G->Ex B U S J->Kp b Z a->D.ct a H'
 |.rt d G=>∀v a S J C H' N,Rel Y M S J C a H' G->Ex B U S J->Kp b Z a->NewM N J C->f d v S J H' N->D.rt v H'
 |.exc c G=>∀a S J C H',Rel Y M S J C a H' G->Ex B U S J->Kp b Z a->∀e,E (.ref (Y c)) e H'
 |.bad=>False
def SJ(E:XK)(b:KT D V)(a:Nat->Bool)(M:List Md)(t:TS)(m:P1->SO):Prop:=
 ∀B U As Z H T D,Rel Y M B U As Z H T->So Y E b a M B U Z (m T) D->t D Z H
end
section
variable{Y:Cm}{E:XK}{Kr:KT D V}{pr:Nat->Bool}{M:List Md}{K:F0}{B U H I U1 H1:Hp}{As:Nat->List Addr}{Z σ1:St}{T:P1}
theorem Mo.at{W X:Type}{K:KT W X}{r:Out W}{Q:X->Hp->Prop}(P:Mo Y K E M B U Z r Q)(e:Ex B U I U1):Mo Y K E M I U1 Z r Q:=by
 cases r with
 |ok d G=>exact λv S J C H' N b a f k=>P v S J C H' N b (e.trans a) f k
 |exc c G=>exact λS J C H' b a=>P S J C H' b (e.trans a)
 |bad=>exact P
theorem So.at{r:SO}{D:Ends}(P:So Y E Kr pr M B U Z r D)(e:Ex B U I U1)(k:Kp pr Z σ1):So Y E Kr pr M I U1 σ1 r D:=by
 cases r with
 |nx G=>exact λa S J C H' g f b=>P a S J C H' g (e.trans f) (k.trans b)
 |bk G=>exact λa S J C H' g f b=>P a S J C H' g (e.trans f) (k.trans b)
 |ct G=>exact λa S J C H' g f b=>P a S J C H' g (e.trans f) (k.trans b)
 |rt d G=>exact λv a S J C H' N g f b=>P v a S J C H' N g (e.trans f) (k.trans b)
 |exc c G=>exact λa S J C H' g f b=>P a S J C H' g (e.trans f) (k.trans b)
 |bad=>exact P
theorem upM{W X:Type}{K:KT W X}{t:St->Hp->(X->Hp->Prop)->Prop}{m:P1->Res W}(h:PJ Y K E M t m):MJ Y K E M t (λT=>(m T).up T):=by
 intro B U As Z H T Q R P;replace P:Mo Y K E M B U Z ((m T).up T) Q:=P;refine h B U As Z H T Q R ?_;cases e:m T with
 |ok d=>
   rw[e]at P;exact λv S J H' N a g n k=>P v S J As H' N a g.toEx ⟨n.nd,n.un,R.apart n⟩ k
 |exc c=>
   rw[e]at P;exact λS J H' a g=>P S J As H' a g.toEx
 |bad=>rw[e]at P;exact P
theorem MJ.bndS{W X:Type}{f:KT W X}{ta:St->Hp->(X->Hp->Prop)->Prop}{d:P1->Out W}(j:MJ Y f E M ta d)(R:Rel Y M B U As Z H T){k:W->P1->SO}{D:Ends}
 (P:So Y E Kr pr M B U Z (fW (d T) k) D) {a:X->Hp->Prop}
 (h:∀x G v I U1 b H1 N,Rel Y M I U1 b Z H1 G->Ex B U I U1->NewM N U1 b->f x v I U1 H1 N->So Y E Kr pr M I U1 Z (k x G) D->a v H1):ta Z H a:=by
 refine j B U As Z H T a R ?_;cases e:d T with
 |ok x G=>
   rw[e]at P;exact λv I U1 b H1 N m e1 g i=>h x G v I U1 b H1 N m e1 g i (So.at (r:=k x G) P e1 (Kp.refl _ _))
 |exc c G=>rw[e]at P;exact λS J C H' n l=>P Z S J C H' n l (Kp.refl _ _)
 |bad=>rw[e]at P;exact P
theorem cV{W:Type}{l:List (Option W)}{i j:Nat}{x:Option W}:rg (l.set i x) j=if i=j/\i<l.length then x else rg l j:=by
 unfold rg;rw[List.getElem?_set];by_cases e:i=j
 · subst e;by_cases h:i<l.length
   ·rw[VL rfl,VL h,VL ⟨rfl,h⟩];rfl
   ·rw[VL rfl,on h,on λz=>h z.2,Wb (by omega)]
 ·rw[on e,on λz=>e z.1]
theorem Rel.store(R:Rel Y M B U As Z H T){i:Nat}{d:D}{v:V}{N:List Addr}(n:NewM N U As)(l:Lo Y B U H (M.getD i .F) (some d) (some v) N):
 ∃C,Rel Y M B U C (Z.set i (some v)) H (T.set i (some d)):=by
 by_cases hi:i<T.length
 · refine⟨λj=>if j=i then N else As j,R.bu,R.uh,λj=>?_,λj k a f b c=>?_,λj a b=>?_,λj=>?_,by rw[Wd,Wd];exact R.len,R.tb⟩
   · show(if j=i then N else As j).Nodup;split
     ·exact n.nd
     ·exact R.nd j
   · replace b:a∈(if j=i then N else As j):=b;replace c:a∈(if k=i then N else As k):=c;split at b
     · split at c
       ·rename_i h g;exact f (h.trans g.symm)
       ·exact n.ap a b k c
     · split at c
       ·exact n.ap a c j b
       ·exact R.dj j k a f b c
   · replace b:a∈(if j=i then N else As j):=b;split at b
     ·exact n.un a b
     ·exact R.un j a b
   · rw[cV,cV];show Lo Y B U H (M.getD j .F) _ _ (if j=i then N else As j);by_cases e:i=j
     ·subst e;rw[VL ⟨rfl,hi⟩,VL ⟨rfl,by rw[<-R.len];exact hi⟩,VL rfl];exact l
     ·rw[on λz=>e z.1,on λz=>e z.1,on λz=>e z.symm];exact R.lo j
 ·have g:=R.len;have e1:Z.set i (some v)=Z:=Yu (by omega);have m:T.set i (some d)=T:=Yu (by omega);rw[e1,m];exact⟨As,R⟩
theorem Kp.set{i:Nat}{x:Option V}(h:pr i=false):Kp pr Z (Z.set i x):=λj a=>by
 rw[cV,on];rintro⟨e,_⟩;rw[e,a]at h;cases h
theorem JV{f:KT D V}{i:Nat}{te:TE}{m:P1->Out D}(h:MJ Y f E M te m)(n:∀B U H d v N,f d v B U H N->∃a,(a=[]\/a=N)/\Lo Y B U H (M.getD i .F) (some d) (some v) a)(hp:pr i=false):SJ Y E Kr pr M (tG te (d8 i)) (bE i m):=by
 intro B U As Z H T D R P;refine h.bndS R P λx G v I U1 c H1 N p e1 j k W=>?_;obtain⟨a,o,l⟩:=n I U1 H1 x v N k
 have g:NewM a U1 c:=by
  rcases o with e|e
  ·subst e;exact NewM.nil
  ·subst e;exact j
 obtain⟨b,R2⟩:=p.store g l;exact W _ I U1 b H1 R2 (Ex.refl _ _) (Kp.set hp)
theorem L7{i:Nat}{te:TE}{m:P1->Out D}(h:MJ Y (KR Y .F) E M te m)(a:M.getD i .F= .F)(hp:pr i=false):SJ Y E Kr pr M (tG te (d8 i)) (bE i m):=
 JV h (λB U H d v N k=>⟨[],.inl rfl,by rw[a];exact⟨v,rfl,k,rfl⟩⟩) hp
theorem L6{i:Nat}{s:Sh}{te:TE}{m:P1->Out D}(h:MJ Y (KO Y s) E M te m)(a:M.getD i .F= .O s)(hp:pr i=false):SJ Y E Kr pr M (tG te (d8 i)) (bE i m):=
 JV h (λB U H d v N k=>⟨N,.inr rfl,by rw[a];exact⟨v,rfl,k⟩⟩) hp
theorem QV:SJ Y E Kr pr M BU ba:=λB U As Z H T D R P=>P Z B U As H R (Ex.refl _ _) (Kp.refl _ _)
theorem QS{t u:TS}{m n:P1->SO}(h:SJ Y E Kr pr M t m)(k:SJ Y E Kr pr M u n):SJ Y E Kr pr M (LN t u) (ah m n):=by
 intro B U As Z H T D R P;refine h B U As Z H T _ R ?_;unfold ah at P;cases e:m T with
 |nx G=>rw[e]at P;exact λa S J C H' f b kp=>k S J C a H' G D f (So.at P b kp)
 |bk G=>rw[e]at P;exact P
 |ct G=>rw[e]at P;exact P
 |rt d G=>rw[e]at P;exact P
 |exc c G=>rw[e]at P;exact P
 |bad=>rw[e]at P;exact P
theorem Mh{c:KT D V}{te:TE}{m:P1->Out D}(h:MJ Y c E M te m):SJ Y E Kr pr M (BV te) (aB m):=by
 intro B U As Z H T D R P;refine h.bndS R P λx G v I U1 a H1 N b e1 d e W=>?_;exact W Z I U1 a H1 b (Ex.refl _ _) (Kp.refl _ _)
theorem QT{te:TE}{m:P1->Out D}(h:MJ Y Kr E M te m):SJ Y E Kr pr M (GW te) (bD m):=by
 intro B U As Z H T D R P;refine h.bndS R P λx G v I U1 a H1 N d e1 b c W=>?_;exact W v Z I U1 a H1 N d (Ex.refl _ _) (Kp.refl _ _) b c
theorem L8(h:∀B U H,Kr .non .non B U H []):SJ Y E Kr pr M BR Hu:=λB U As Z H T D R P=>P .non Z B U As H [] R (Ex.refl _ _) (Kp.refl _ _) NewM.nil (h _ _ _)
theorem U5{c:TT}{t u:TS}{mc:P1->Out Bool}{m n:P1->SO}(e:MJ Y KB E M c mc)(h:SJ Y E Kr pr M t m)(k:SJ Y E Kr pr M u n):SJ Y E Kr pr M (LQ c t u) (gb mc m n):=by
 intro B U As Z H T D R P;refine e.bndS R P λx G v I U1 a H1 N b e1 f d W=>?_;cases d;cases x with
 |true=>exact h I U1 a Z H1 G D b W
 |false=>exact k I U1 a Z H1 G D b W
theorem Hq:SJ Y E Kr pr M vV (λ_=>.bad):=λ_ _ _ _ _ _ _ _ P=>P
def TJ(Y:Cm)(k:Kd)(pr:Nat->Bool)(M:List Md)(g:TG)(c:D->P1->Option P1):Prop:=∀B U As Z H T d v a Q,Rel Y M B U As Z H T->Dn Y (hp k B U H) d v->c d T=some a->(∀σ1 b,Rel Y M B U b σ1 H a->Kp pr Z σ1->Q σ1 H)->g v Z H Q
theorem tgF{i:Nat}(c:M.getD i .F= .F)(hp:pr i=false):TJ Y .F pr M (d8 i) (tE i):=by
 intro B U As Z H T d v b Q R hd e h;cases e;obtain⟨a,R2⟩:=R.store (i:=i) (d:=d) (v:=v) NewM.nil (by rw[c];exact⟨v,rfl,hd,rfl⟩);exact h _ a R2 (Kp.set hp)
theorem tgR{i:Nat}(c:M.getD i .F= .R)(hp:pr i=false):TJ Y .U pr M (d8 i) (tE i):=by
 intro B U As Z H T d v b Q R hd e h;cases e;obtain⟨a,R2⟩:=R.store (i:=i) (d:=d) (v:=v) NewM.nil (by rw[c];exact⟨v,rfl,hd,rfl⟩);exact h _ a R2 (Kp.set hp)
theorem UT{i:Nat}(b:M.getD i .F= .R)(hp:pr i=false):TJ Y .F pr M (d8 i) (tE i):=λB U As Z H T d v a Q R hd e h=>tgR b hp B U As Z H T d v a Q R (Dn.mono R.bu hd) e h
theorem tg2{k:Kd}{i j:Nat}(hi:TJ Y k pr M (d8 i) (tE i))(w:TJ Y k pr M (d8 j) (tE j)):TJ Y k pr M (O0 K 2 (yR (d8 i) (yR (d8 j) O2))) (BN i j):=by
 intro B U As Z H T d v p Q R hd e h;cases d with
 |tup ds=>
   rcases ds with _|⟨x,_|⟨y,_|⟨z,ds⟩⟩⟩
   ·cases e
   ·cases e
   ·cases e;rw[Dn]at hd;obtain⟨a,xs,rfl,A,o⟩:=hd;rw[Dns]at o;obtain⟨f,r,rfl,u,n⟩:=o;rw[Dns]at n;obtain⟨b,D,rfl,t,m⟩:=n;rw[Dns]at m;subst m;refine⟨a,[f,b],rfl,SqT.of (R.hp k _ _ A),rfl,f,[b],rfl,?_⟩;refine hi B U As Z H T x f _ _ R u rfl λσ1 l C s=>⟨b,[],rfl,?_⟩;exact w B U l σ1 H _ y b _ _ C t rfl λc g R2 q=>⟨rfl,h c g R2 (s.trans q)⟩
   ·cases e
 |_=>cases e
theorem Q5{k:Kd}{wi:TI}{g:TG}{tb:TS}{src:P1->Out (List D)}{S:D->P1->Option P1}{j:P1->SO}(hs:MJ Y (KI Y k .U) E M wi src)(hk:k= .F\/k= .U)(hg:TJ Y k pr M g S)(hb:SJ Y E Kr pr M tb j):
 SJ Y E Kr pr M (LR wi g tb) (dh src S j):=by
 intro B U As Z H T D R P;refine hs.bndS R P λds ρ0 J I U1 As1 H1 N R1 e1 n1 ⟨vs,hJ,hd⟩ W=>?_;have hvl:ds.length=vs.length:=hd.len
 have hp1:∀{q p H2:Hp},Ex I U1 q p->Same (hp k I U1 H1) (hp k q p H2):=λe=>by
  rcases hk with z|z<;>subst z
  ·exact e.b
  ·exact e.u
 refine⟨λi m s H'=>i<=ds.length/\m=ds.length-i/\∃q p o h,Rel Y M q p o s H' h/\Ex I U1 q p/\Kp pr Z s/\So Y E Kr pr M I U1 Z (rV S j (ds.drop i) h) D,⟨_,WP _,rfl,I,U1,As1,ρ0,R1,Ex.refl _ _,Kp.refl _ _,W⟩,?_⟩;rintro i m s H' ⟨hi,rfl,q,p,o,h,R2,G,O,a⟩;have hj:=hJ H' (G.u.trans R2.uh);by_cases X:i<ds.length
 · refine .inr ⟨hj.2.1 i (by omega),λr H''=>i+1<=ds.length/\∃q p o h,Rel Y M q p o r H'' h/\Ex I U1 q p/\Kp pr Z r/\So Y E Kr pr M I U1 Z (rV S j (ds.drop (i+1)) h) D,λr H'' ⟨h1,h2⟩=>⟨ds.length-(i+1),by omega,h1,rfl,h2⟩,λx Hx hy=>?_⟩;obtain⟨rfl,ev⟩:=hj.2.2 i x Hx (by omega) hy;obtain⟨d,ed,dd⟩:=hd.geti ev;rw[lC ed,rV]at a;cases et:S d h with
   |none=>rw[et]at a;exact a.elim
   |some K=>
     rw[et]at a;refine hg q p o s Hx h d x K _ R2 (Dn.mono (hp1 G) dd) et λσ3 As3 R3 V=>?_;refine hb q p As3 σ3 Hx K _ R3 ?_;dsimp only at a;cases Q:j K with
     |nx n=>
       rw[Q]at a;exact λl C y f L A w t=>⟨X,C,y,f,n,A,G.trans w,(O.trans V).trans t,a⟩
     |ct n=>
       rw[Q]at a;exact λl C y f L A w t=>⟨X,C,y,f,n,A,G.trans w,(O.trans V).trans t,a⟩
     |bk n=>
       rw[Q]at a;exact λl C y f L A w t=>a l C y f L A (G.trans w) ((O.trans V).trans t)
     |rt d n=>
       rw[Q]at a;exact λv l C y f L N A w t=>a v l C y f L N A (G.trans w) ((O.trans V).trans t)
     |exc c n=>
       rw[Q]at a;exact λl C y f L A w t=>a l C y f L A (G.trans w) ((O.trans V).trans t)
     |bad=>rw[Q]at a;exact a.elim
 · have e:i=ds.length:=by omega
   subst e;rw[YB,rV]at a;exact .inl ⟨hj.1 _ (by omega),a s q p o H' R2 G O⟩
theorem Ho{c:TT}{tb:TS}{mc:P1->Out Bool}{a:P1->SO}(n:Nat)(X:MJ Y KB E M c mc)(hb:SJ Y E Kr pr M tb a):SJ Y E Kr pr M (vU c tb) (vP mc a n):=by
 intro B U As Z H T D R P;refine⟨λm j H'=>∃V L F q,Rel Y M V L F j H' q/\Ex B U V L/\Kp pr Z j/\So Y E Kr pr M B U Z (vP mc a m q) D,⟨n,B,U,As,T,R,Ex.refl _ _,Kp.refl _ _,P⟩,?_⟩;rintro m j H' ⟨V,L,F,q,R2,A,z,f⟩;cases m with
 |zero=>exact f.elim
 |succ m=>
   rw[vP]at f;refine X V L F j H' q _ R2 ?_;cases e:mc q with
   |ok x r=>
     rw[e]at f;intro v S K w Q N O y n3 W;cases W;cases x with
     |false=>
       rw[on V1];exact f j S K w Q O (A.trans y) z
     |true=>
       rw[VL rfl]
       have f:So Y E Kr pr M B U Z (match a r with
        |.nx G=>vP mc a m G
        |.ct G=>vP mc a m G
        |.bk G=>.nx G
        |o=>o) D:=f
       refine⟨λp J=>∃l k b g,Rel Y M l k b p J g/\Ex B U l k/\Kp pr Z p/\So Y E Kr pr M B U Z (vP mc a m g) D,λp J h=>⟨m,XH m,h⟩,?_⟩;refine hb S K w j Q r _ O ?_;cases I:a r with
       |nx g=>
         rw[I]at f;exact λi l k b C u t s=>⟨l,k,b,g,u,(A.trans y).trans t,z.trans s,f⟩
       |ct g=>
         rw[I]at f;exact λi l k b C u t s=>⟨l,k,b,g,u,(A.trans y).trans t,z.trans s,f⟩
       |bk g=>
         rw[I]at f;exact λi l k b C u t s=>f i l k b C u ((A.trans y).trans t) (z.trans s)
       |rt d g=>
         rw[I]at f;exact λv i l k b C N u t s=>f v i l k b C N u ((A.trans y).trans t) (z.trans s)
       |exc c g=>
         rw[I]at f;exact λi l k b C u t s=>f i l k b C u ((A.trans y).trans t) (z.trans s)
       |bad=>rw[I]at f;exact f.elim
   |exc c r=>rw[e]at f;exact λS K w Q O y=>f j S K w Q O (A.trans y) z
   |bad=>rw[e]at f;exact f.elim
end
inductive Ap where
 |F|U|X|O (i:Nat)|Bo (i:Nat)
deriving DecidableEq
def bZ:List Ap->Nat->P1->P1->P1
 |[],_,_,T=>T
 |.O i::r,j,a,T=>bZ r (j+1) a (T.set i (rg a j))
 |_::r,j,a,T=>bZ r (j+1) a T
def bN(a:List Ap)(e:List D->Out D)(ds:List D)(T:P1):Out D:=match e ds with
 |.ok d b=>.ok d (bZ a 0 b T)
 |.exc c b=>.exc c (bZ a 0 b T)
 |.bad=>.bad
def fk(a:List D->Out D)(ds:List D):Res D:=match a ds with
 |.ok d _=>.ok d
 |.exc c _=>.exc c
 |.bad=>.bad
def fI(M:List Md)(T:P1):P1:=(List.range M.length).map λi=>match M.getD i .F with | .O _=>rg T i|_=>none
section
variable(Y:Cm)
def vK(M:List Md)(e:KT D V)(b:List D->Out D):Sp:=λvs H Q E=>∃B U As ds,Rel Y M B U As (vs.map some) H (ds.map some)/\vs.length=M.length/\match b ds with
 |.ok d G=>∀v S J C H' N,Rel Y M S J C (vs.map some) H' (fI M G)->Ex B U S J->NewM N J C->e d v S J H' N->Q v H'
 |.exc c G=>∀S J C H',Rel Y M S J C (vs.map some) H' (fI M G)->Ex B U S J->∀a,E (.ref (Y c)) a H'
 |.bad=>False
def A1(p:Ap)(B U H:Hp)(Z:St)(T:P1)(d:D)(v:V):Prop:=match p with
 |.F=>Dn Y B d v
 |.U=>Dn Y U d v
 |.X=>Dn Y H d v
 |.O i=>rg Z i=some v/\rg T i=some d
 |.Bo i=>rg Z i=some v/\rg T i=some d
def Ag(B U H:Hp)(Z:St)(T:P1):List Ap->List D->List V->Prop
 |[],ds,vs=>ds=[]/\vs=[]
 |p::ps,ds,vs=>∃d a v vr,ds=d::a/\vs=v::vr/\A1 Y p B U H Z T d v/\Ag B U H Z T ps a vr
end
section
variable{Y:Cm}{E:XK}{M:List Md}{B U H:Hp}{As:Nat->List Addr}{Z:St}{T:P1}
theorem A1.mono{p:Ap}{S J H':Hp}{d:D}{v:V}(h:A1 Y p B U H Z T d v)(g:Gw B U H S J H'):A1 Y p S J H' Z T d v:=by
 cases p with
 |F=>exact Dn.mono g.b h
 |U=>exact Dn.mono g.u h
 |X=>exact Dn.mono g.h h
 |O i=>exact h
 |Bo i=>exact h
def A1J(Y:Cm)(E:XK)(M:List Md)(p:Ap)(t:TE)(m:P1->Res D):Prop:=∀B U As Z H T Q,Rel Y M B U As Z H T->Po Y (λd v B U H _=>A1 Y p B U H Z T d v) E M B U As Z H T (m T) Q->t Z H Q
def AJ(Y:Cm)(E:XK)(M:List Md)(ps:List Ap)(t:TA)(m:P1->Res (List D)):Prop:=∀B U As Z H T Q,Rel Y M B U As Z H T->Po Y (λd v B U H _=>Ag Y B U H Z T ps d v) E M B U As Z H T (m T) Q->t Z H Q
theorem aF{t:TE}{m:P1->Res D}(h:PJ Y (KR Y .F) E M t m):A1J Y E M .F t m:=λB U As Z H T Q R P=>h B U As Z H T Q R P
theorem aU{t:TE}{m:P1->Res D}(h:PJ Y (KR Y .U) E M t m):A1J Y E M .U t m:=λB U As Z H T Q R P=>h B U As Z H T Q R P
theorem aX{t:TE}{m:P1->Res D}(h:PJ Y (KR Y .X) E M t m):A1J Y E M .X t m:=λB U As Z H T Q R P=>h B U As Z H T Q R P
theorem Qh{i:Nat}{p:Ap}(hp:∀B U H Z T d v,rg Z i=some v->rg T i=some d->A1 Y p B U H Z T d v):A1J Y E M p (cF i) (vr i):=by
 intro B U As Z H T Q R P;unfold vr at P;have l:=R.lo i;cases e:rg T i with
 |none=>rw[e]at P;exact P.elim
 |some d=>
   rw[e]at P l;obtain⟨v,a,q⟩:=l;exact⟨v,bP a,P v B U H [] R (Gw.refl _ _ _) New.nil (hp _ _ _ _ _ _ _ a e)⟩
theorem aO{i:Nat}:A1J Y E M (.O i) (cF i) (vr i):=Qh λ_ _ _ _ _ _ _ h k=>⟨h,k⟩
theorem Uj:AJ Y E M [] bO aE:=λB U As Z H T Q R P=>P [] B U H [] R (Gw.refl _ _ _) New.nil ⟨rfl,rfl⟩
theorem A1J.bnd{p:Ap}{L K:Type}{d:KT L K}{ta:TE}{b:P1->Res D}(g:A1J Y E M p ta b)(R:Rel Y M B U As Z H T){k:D->Res L}{Q:K->Hp->Prop}
 (P:Po Y d E M B U As Z H T ((b T).bind k) Q) {a:V->Hp->Prop}
 (h:∀x v I U1 H1,Rel Y M I U1 As Z H1 T->Gw B U H I U1 H1->A1 Y p I U1 H1 Z T x v->Po Y d E M I U1 As Z H1 T (k x) Q->a v H1):ta Z H a:=by
 refine g B U As Z H T a R ?_;cases e:b T with
 |ok x=>
   rw[e]at P;exact λv I U1 H1 N i e1 j f=>h x v I U1 H1 i e1 f (Po.at (r:=k x) P e1)
 |exc c=>rw[e]at P;exact P
 |bad=>rw[e]at P;exact P
theorem AJ.bnd{ps:List Ap}{L K:Type}{d:KT L K}{ta:TA}{b:P1->Res (List D)}(g:AJ Y E M ps ta b)(R:Rel Y M B U As Z H T){k:List D->Res L}{Q:K->Hp->Prop}
 (P:Po Y d E M B U As Z H T ((b T).bind k) Q) {a:List V->Hp->Prop}
 (h:∀x v I U1 H1,Rel Y M I U1 As Z H1 T->Gw B U H I U1 H1->Ag Y I U1 H1 Z T ps x v->Po Y d E M I U1 As Z H1 T (k x) Q->a v H1):ta Z H a:=by
 refine g B U As Z H T a R ?_;cases e:b T with
 |ok x=>
   rw[e]at P;exact λv I U1 H1 N i e1 j f=>h x v I U1 H1 i e1 f (Po.at (r:=k x) P e1)
 |exc c=>rw[e]at P;exact P
 |bad=>rw[e]at P;exact P
theorem Qi{p:Ap}{ps:List Ap}{ta:TE}{a:TA}{c:P1->Res D}{b:P1->Res (List D)}(e:A1J Y E M p ta c)(d:AJ Y E M ps a b):AJ Y E M (p::ps) (aM ta a) (am c b):=by
 intro B U As Z H T Q R P;refine e.bnd R P λx v I U1 H1 j e1 h W=>d.bnd j W λy u m i l R2 f g k=>?_;exact k (v::u) m i l [] R2 (Gw.refl _ _ _) New.nil ⟨x,y,v,u,rfl,rfl,h.mono f,g⟩
def rW(M:List Md)(pure:Bool):Ap->Md->Bool
 |.F,.F=>true
 |.F,.R=>true
 |.U,.R=>true
 |.X,.R=>pure
 |.Bo _,.R=>true
 |_,_=>false
theorem Ag.len:∀{ps:List Ap} {ds:List D} {vs:List V},Ag Y B U H Z T ps ds vs->ds.length=ps.length/\vs.length=ps.length
 |[],_,_,h=>by obtain⟨rfl,rfl⟩:=h;exact⟨rfl,rfl⟩
 | p::ps,_,_,h=>by
   obtain⟨d,a,v,vr,rfl,rfl,_,h⟩:=h
   have:=Ag.len h
   exact⟨by rw[VV,VV,this.1],by rw[VV,VV,this.2]⟩
theorem Ag.get:∀{ps:List Ap} {ds:List D} {vs:List V} {j:Nat} {p:Ap},Ag Y B U H Z T ps ds vs->ps[j]?=some p->∃d v,ds[j]?=some d/\vs[j]?=some v/\A1 Y p B U H Z T d v
 |[],_,_,_,_,_,e=>by cases e
 | p::ps,_,_,j,q,h,e=>by
   obtain⟨d,b,v,vr,rfl,rfl,a,h⟩:=h;cases j with
   |zero=>cases e;exact⟨d,v,rfl,rfl,a⟩
   |succ j=>exact Ag.get (j:=j) h (by simpa using e)
theorem dH{W:Type}{l:List W}{i:Nat}:rg (l.map some) i=l[i]?:=by
 unfold rg;rw[List.getElem?_map];cases l[i]?<;>rfl
theorem Rel.read(R:Rel Y M B U As Z H T){i:Nat}{d:D}{v:V}(a:rg Z i=some v)(hd:rg T i=some d):Dn Y H d v:=by
 have l:=R.lo i;rw[hd]at l;have q:=iA l a;cases e:M.getD i .F with
 |F=>rw[e]at q;exact Dn.mono R.bh q.1
 |R=>rw[e]at q;exact Dn.mono R.uh q.1
 |O s=>rw[e]at q;exact Ow.dn R.bh (λ_ _ _ q=>q) q
theorem A1.read(R:Rel Y M B U As Z H T){p:Ap}{d:D}{v:V}(h:A1 Y p B U H Z T d v):Dn Y H d v:=by
 cases p with
 |F=>exact Dn.mono R.bh h
 |U=>exact Dn.mono R.uh h
 |X=>exact h
 |O i=>exact R.read h.1 h.2
 |Bo i=>exact R.read h.1 h.2
def ov(B U:Hp):Hp:=λa=>match B a with|some o=>some o|none=>U a
theorem vz{f:List Md}{y:KT D V}{L:List D->Out D}{ps:List Ap}{ds:List D}{vs:List V}{Q:VK}(R:Rel Y M B U As Z H T)(A:Ag Y B U H Z T ps ds vs)(hl:ps.length=f.length)
 (hf:∀(j:Nat) p,ps[j]?=some p->rW M true p (f.getD j .F)=true) (hU:∀d v B U J H N,y d v B U H N->y d v B J H N) (P:Po Y y E M B U As Z H T (fk L ds) Q):vK Y f y L vs H Q E:=by
 have n:=A.len
 have Rc:Rel Y f B H (λ_=>[]) (vs.map some) H (ds.map some):=by
  refine⟨R.bh,Same.refl _,λ_=>WE,λ_ _ _ _ h=>(nomatch h),λ_ _ h=>(nomatch h),λj=>?_,by rw[VO,VO,n.1,n.2],R.tb⟩;rw[dH,dH];cases e:ps[j]? with
  |none=>
    have:ps.length<=j:=Xh.mp e
    rw[Wb (by omega)];rfl
  |some p=>
    obtain⟨d,v,ed,ev,t⟩:=A.get e;rw[ed,ev];refine⟨v,rfl,?_⟩;have hr:=A1.read R t;have q:=hf j p e;cases em:f.getD j .F with
    |F=>
      rw[em]at q;cases p with
      |F=>exact⟨t,rfl⟩
      |_=>cases q
    |R=>exact⟨hr,rfl⟩
    |O s=>rw[em]at q;cases p<;>cases q
 refine⟨B,H,λ_=>[],ds,Rc,by omega,?_⟩
 have m:∀{S J H':Hp} {C:Nat->List Addr} {x:P1},Rel Y f S J C (vs.map some) H' x->Ex B H S J->Rel Y M S (ov S U) As Z H' T/\Gw B U H S (ov S U) H':=λ{S J H' C x} l g=>by
  have same:∀a o,U a=some o->∀o',S a=some o'->o'=o:=λa o q o' w=>by
   have t:=g.u a o (R.uh a o q);have X:=l.bu a o' w;rw[t]at X;exact(Wa X).symm
  have W:Same U (ov S U):=λa o q=>by
   unfold ov;cases z:S a with
   |none=>exact q
   |some o'=>rw[same a o q o' z]
  have sh:Same H H':=g.u.trans l.uh
  have uh:Same (ov S U) H':=λa o q=>by
   unfold ov at q;cases z:S a with
   |none=>rw[z]at q;exact sh a o (R.uh a o q)
   |some o'=>rw[z]at q;cases q;exact l.bh a _ z
  have bu:Same S (ov S U):=λa o q=>by unfold ov;rw[q]
  have new:∀a o,S a=some o->B a=some o\/H a=none\/d7 o:=g.nb;refine⟨R.grow g.b W sh bu uh λi a r=>?_,⟨g.b,W,λa o q=>?_⟩,sh,λa o q=>?_⟩
  · unfold ov;cases z:S a with
    |none=>exact R.un i a r
    |some o=>
      obtain⟨o',w⟩:=R.at r;rcases new a o z with q|q|q
      ·have:=R.bu a o q;rw[R.un i a r]at this;cases this
      ·rw[q]at w;cases w
      ·have e1:=sh _ _ w;rw[l.bh a o z]at e1;cases e1;exact(R.nt r w q).elim
  · rcases new a o q with q|q|q
    ·exact .inl q
    ·exact .inr (.inl (R.uh.free q))
    ·exact .inr (.inr q)
  · unfold ov at q;cases z:S a with
    |none=>rw[z]at q;exact .inl q
    |some o'=>
      rw[z]at q;cases q;rcases new a _ z with q|q
      ·exact .inl (R.bu a _ q)
      ·exact .inr q
 cases e:L ds with
 |ok d G=>
   unfold fk at P;rw[e]at P;intro v S J C H' N l g I k;obtain⟨R2,K⟩:=m l g;refine P v S _ H' N R2 K ⟨I.nd,λa r=>g.u.free (I.un a r),λa r=>?_⟩ (hU d v S J (ov S U) H' N k);unfold ov;have t:=I.un a r;cases z:S a with
   |none=>exact R.uh.free (g.u.free t)
   |some o=>have:=l.bu a o z;rw[t]at this;cases this
 |exc c G=>
   unfold fk at P;rw[e]at P;intro S J C H' l g;obtain⟨R2,K⟩:=m l g;exact P S _ H' R2 K
 |bad=>
   unfold fk at P;rw[e]at P;exact P
theorem hF{d:D}{v:V}{B U J H:Hp}{N:List Addr}(h:KR Y .F d v B U H N):KR Y .F d v B J H N:=h
theorem hO{s:Sh}{d:D}{v:V}{B U J H:Hp}{N:List Addr}(h:KO Y s d v B U H N):KO Y s d v B J H N:=h
theorem Dp{a:List Md}{b:KT D V}{c:List D->Out D}{ps:List Ap}{t:TA}{m:P1->Res (List D)}(h:AJ Y E M ps t m)(e:ps.length=a.length)
 (f:∀(j:Nat) p,ps[j]?=some p->rW M true p (a.getD j .F)=true) (g:∀d v B U J H N,b d v B U H N->b d v B J H N):PJ Y b E M (ik (vK Y a b c) [] E t) (λT=>(m T).bind (fk c)):=by
 intro B U As Z H T Q R P;refine h.bnd R P λds vs I U1 H1 i e1 A W=>?_;rw[Wh];exact vz i A e f g W
def a8(c:Nat)(m:Str):D->Bool
 |.obj a ns _=>decide (a=c)&&!ns.contains m
 |_=>false
theorem lS{m:Str}:∀{fs:List (Str×V)},(fs.map (·.1)).contains m=false->fs.lookup m=none
 |[],_=>rfl
 | p::fs,h=>by
   rw[VN,List.contains_cons,Bool.or_eq_false_iff]at h;rw[Wp,h.1];exact lS h.2
theorem iU{c:Nat}{m:Str}{d:D}{v:V}(h:a8 c m d=true)(hd:Dn Y H d v):∃a dx fs,v=.ref a/\H a=some (.ins (Y c) dx fs)/\fs.lookup m=none:=by
 cases d with
 |obj g ns ds=>
   have h:(decide (g=c)&&!ns.contains m)=true:=h;rw[Xr]at h;have e:=XF h.1;subst e;rw[Dn]at hd;obtain⟨a,dx,fs,r,f,b,_⟩:=hd;refine⟨a,dx,fs,r,f,lS ?_⟩;rw[b];simpa using h.2
 |_=>cases h
theorem Dh{c:Nat}{f:Str}{b:List Md}{e:KT D V}{i:List D->Out D}{p:Ap}{ps:List Ap}{ta:TE}{g:P1->Res D}{t:TA}{m:P1->Res (List D)}(s:A1J Y E M p ta g)(h:AJ Y E M ps t m)(n:(p::ps).length=b.length)
 (r:∀(j:Nat) q,(p::ps)[j]?=some q->rW M true q (b.getD j .F)=true) (u:∀d v B U J H N,e d v B U H N->e d v B J H N):
 PJ Y e E M (cT (Y c) f (vK Y b e i) [] E ta t) (λT=>(g T).bind λo=>if a8 c f o=true then (m T).bind λds=>fk i (o::ds) else .bad):=by
 intro B U As Z H T Q R P;refine s.bnd R P λo v I U1 H1 l e1 k W=>?_;by_cases z:a8 c f o=true
 ·rw[VL z]at W;obtain⟨a,dx,fs,rfl,x,w⟩:=iU z (A1.read l k);refine⟨a,dx,fs,rfl,x,w,h.bnd l W λds vs L G K R2 y A C=>?_⟩;rw[Wh];exact vz (ps:=p::ps) (ds:=o::ds) R2 ⟨o,ds,_,vs,rfl,rfl,k.mono y,A⟩ n r u C
 ·rw[on z]at W;exact W.elim
end
section
variable{Y:Cm}{E:XK}{M:List Md}{B U H:Hp}{As:Nat->List Addr}{Z:St}{T:P1}
def io:List Ap->Nat->Option Nat
 |[],_=>none
 |p::r,i=>if p= .O i then some 0 else (io r i).map (·+1)
theorem fX:∀{ps:List Ap} {i j:Nat},io ps i=some j->ps[j]?=some (.O i)
 |[],_,_,h=>by cases h
 | p::r,i,j,h=>by
   unfold io at h;by_cases e:p= .O i
   ·rw[VL e]at h;cases h;rw[e];rfl
   ·rw[on e]at h;obtain⟨k,a,rfl⟩:=V7.mp h;rw[Xu];exact fX a
def cg:List Ap->List Nat
 |[]=>[]
 |.O i::r=>i::cg r
 |_::r=>cg r
def ii:List Ap->List Nat
 |[]=>[]
 |.Bo i::r=>i::ii r
 |_::r=>ii r
theorem iy:∀{ps:List Ap} {i j:Nat},ps[j]?=some (.O i)->i∈cg ps
 |[],_,_,h=>by cases h
 | p::r,i,j,h=>by
   cases j with
   |zero=>cases h;exact VP
   |succ j=>
     have:=iy (ps:=r) (j:=j) (by simpa using h)
     cases p <;> first | exact this | exact VR _ this
theorem nz:∀{ps:List Ap} {i:Nat},i∈cg ps->∃j,io ps i=some j
 |[],_,h=>by cases h
 | p::r,i,h=>by
   unfold io;by_cases e:p= .O i
   ·exact⟨0,by rw[VL e]⟩
   · rw[on e]
     have:i∈cg r:=by
      cases p with
      |O k=>
        rcases VY.mp h with z|z
        ·exact absurd (by rw[z]) e
        ·exact z
      |_=>exact h
     obtain⟨j,a⟩:=nz this;exact⟨j+1,by rw[a];rfl⟩
theorem ub:∀{ps:List Ap} {i j:Nat},ps[j]?=some (.Bo i)->i∈ii ps
 |[],_,_,h=>by cases h
 | p::r,i,j,h=>by
   cases j with
   |zero=>cases h;exact VP
   |succ j=>
     have:=ub (ps:=r) (j:=j) (by simpa using h)
     cases p <;> first | exact this | exact VR _ this
theorem qm:∀{ps:List Ap} {i j k:Nat},(cg ps).Nodup->ps[j]?=some (.O i)->ps[k]?=some (.O i)->j=k
 |[],_,_,_,_,h,_=>by cases h
 | p::r,i,j,k,nd,c,b=>by
   cases j with
   |zero=>
     cases k with
     |zero=>rfl
     |succ k=>
       cases c;exact absurd (iy (ps:=r) (j:=k) (by simpa using b)) (Wc.mp nd).1
   |succ j=>
     cases k with
     |zero=>
       cases b;exact absurd (iy (ps:=r) (j:=j) (by simpa using c)) (Wc.mp nd).1
     |succ k=>
       have a:(cg r).Nodup:=by
        cases p with
        |O x=>exact(Wc.mp nd).2
        |_=>exact nd
       rw[qm a (j:=j) (k:=k) (by simpa using c) (by simpa using b)]
theorem jg:∀{ps:List Ap} {j:Nat} {a T:P1},(bZ ps j a T).length=T.length
 |[],_,_,_=>rfl
 | p::r,j,a,T=>by
   cases p with
   |O i=>rw[bZ,jg,Wd]
   |F=>rw[bZ,jg];all_goals simp
   |U=>rw[bZ,jg];all_goals simp
   |X=>rw[bZ,jg];all_goals simp
   |Bo i=>rw[bZ,jg];all_goals simp
theorem qT:∀{ps:List Ap} {b:Nat} {a T:P1} {i:Nat},(cg ps).Nodup->i<T.length->rg (bZ ps b a T) i=match io ps i with|some j=>rg a (b+j)|none=>rg T i
 |[],_,_,_,_,_,_=>rfl
 | p::r,b,a,T,i,nd,hi=>by
   have step:∀G:P1,G.length=T.length->(cg r).Nodup->(p≠ .O i)->rg G i=rg T i->rg (bZ r (b+1) a G) i=match io (p::r) i with|some j=>rg a (b+j)|none=>rg T i:=λG g d hp e=>by
    rw[qT d (by rw[g];exact hi),io,on hp];cases io r i with
    |none=>exact e
    |some j=>
      show rg a (b+1+j)=rg a (b+(j+1));rw[show b+1+j=b+(j+1) by omega]
   cases p with
   |O k=>
     rw[bZ];by_cases e:k=i
     · subst e
       have f:io r k=none:=by
        cases q:io r k with
        |none=>rfl
        |some j=>exact absurd (iy (fX q)) (Wc.mp nd).1
       rw[qT (Wc.mp nd).2 (by rw[Wd];exact hi),f,io,VL rfl,cV,VL ⟨rfl,hi⟩];rfl
     ·exact step _ (Wd ..) (Wc.mp nd).2 (λz=>e (by cases z;rfl)) (by rw[cV,on λz=>e z.1])
   |F=>rw[bZ];exact step T rfl nd (λz=>by cases z) rfl;all_goals simp
   |U=>rw[bZ];exact step T rfl nd (λz=>by cases z) rfl;all_goals simp
   |X=>rw[bZ];exact step T rfl nd (λz=>by cases z) rfl;all_goals simp
   |Bo k=>rw[bZ];exact step T rfl nd (λz=>by cases z) rfl;all_goals simp
def Ti(M:List Md):Ap->Md->Prop
 |.F,.F=>True
 |.F,.R=>True
 |.U,.R=>True
 |.Bo _,.R=>True
 |.O i,.O s=>M.getD i .F= .O s
 |_,_=>False
def fitM(M:List Md):List Ap->List Md->Prop
 |[],[]=>True
 |p::ps,m::r=>Ti M p m/\fitM M ps r
 |_,_=>False
theorem fitM.len:∀{ps:List Ap} {mc:List Md},fitM M ps mc->ps.length=mc.length
 |[],[],_=>rfl
 |[],_::_,h=>h.elim
 |_::_,[],h=>h.elim
 |p::ps,m::r,h=>by rw[VV,VV,fitM.len h.2]
theorem fitM.get:∀{ps:List Ap} {mc:List Md} {j:Nat} {p:Ap},fitM M ps mc->ps[j]?=some p->Ti M p (mc.getD j .F)
 |[],_,_,_,_,e=>by cases e
 |_::_,[],_,_,h,_=>h.elim
 | p::ps,m::r,j,q,h,e=>by
   cases j with
   |zero=>cases e;exact h.1
   |succ j=>rw[W8];exact fitM.get (j:=j) h.2 (by simpa using e)
theorem lj{mc:List Md}{a:P1}{j:Nat}{s:Sh}(h:mc.getD j .F= .O s):rg (fI mc a) j=rg a j:=by
 have b:j<mc.length:=by
  by_cases z:j<mc.length
  ·exact z
  ·rw[V5,Wb (by omega)]at h;cases h
 unfold fI;show((((List.range mc.length).map _)[j]?).join)=_;rw[List.getElem?_map,List.getElem?_range b];show(some (match mc.getD j .F with | .O _=>rg a j|_=>none)).join=_;rw[h];rfl
open Classical in
theorem kJ{g:List Md}{Kr:KT D V}{fm:List D->Out D}{ps:List Ap}{ds:List D}{vs:List V}{Q:VK}(R:Rel Y M B U As Z H T)(A:Ag Y B U H Z T ps ds vs)(hf:fitM M ps g)(hd:(cg ps).Nodup)
 (hb:∀i∈ii ps,i∉cg ps) (hU:∀d v B U J H N,Kr d v B U H N->Kr d v B J H N) (P:Mo Y Kr E M B U Z (bN ps fm ds T) Q):vK Y g Kr fm vs H Q E:=by
 have hlen:=A.len;have hl:=hf.len
 have K:∀{i j:Nat},ps[j]?=some (.O i)->∃d v s,ds[j]?=some d/\vs[j]?=some v/\rg Z i=some v/\rg T i=some d/\g.getD j .F= .O s/\M.getD i .F= .O s:=λ{i j} e=>by
  obtain⟨d,v,ed,ev,r⟩:=A.get e;have q:=hf.get e;cases y:g.getD j .F with
  |O s=>rw[y]at q;exact⟨d,v,s,ed,ev,r.1,r.2,rfl,q⟩
  |F=>rw[y]at q;exact q.elim
  |R=>rw[y]at q;exact q.elim
 have FPd:∃Uc:Hp,(∀a,(∃j i:Nat,ps[j]?=some (.O i)/\a∈As i)->Uc a=none)/\(∀a,(¬ ∃j i:Nat,ps[j]?=some (.O i)/\a∈As i)->Uc a=H a):=
  ⟨λa=>if (∃j i:Nat,ps[j]?=some (.O i)/\a∈As i) then none else H a,λa h=>VL h,λa h=>on h⟩
 obtain⟨Uc,uc1,uc2⟩:=FPd
 have notFP:∀{a o},U a=some o->¬ ∃j i:Nat,ps[j]?=some (.O i)/\a∈As i:=λ{a o} q ⟨j,i,_,f⟩=>by
  rw[R.un i a f]at q;cases q
 have m:Same U Uc:=λa o q=>by rw[uc2 a (notFP q)];exact R.uh a o q
 have ucH:Same Uc H:=λa o q=>by
  by_cases z:∃j i:Nat,ps[j]?=some (.O i)/\a∈As i
  ·rw[uc1 a z]at q;cases q
  ·rw[uc2 a z]at q;exact q
 -- what is owned and not cg
 have other:∀{i a},i∉cg ps->a∈As i->∃o,Uc a=some o/\H a=some o:=λ{i a} hi f=>by
  obtain⟨o,q⟩:=R.at f;refine⟨o,?_,q⟩;rw[uc2 a]
  ·exact q
  · rintro⟨j,k,ek,x⟩;by_cases e:k=i
    ·subst e;exact hi (iy ek)
    ·exact R.dj k i a e x f
 have Rc:Rel Y g B Uc (λj=>match ps[j]? with|some (.O i)=>As i|_=>[]) (vs.map some) H (ds.map some):=by
  refine⟨R.bu.trans m,ucH,λj=>?_,λj k a hne f x=>?_,λj a f=>?_,λj=>?_,by rw[VO,VO,hlen.1,hlen.2],R.tb⟩
  · try dsimp only
    split
    ·exact R.nd _
    ·exact WE
  · try dsimp only at f x
    split at f
    · rename_i i e1;split at x
      · rename_i i' e2;by_cases e:i=i'
        ·subst e;exact hne (qm hd e1 e2)
        ·exact R.dj i i' a e f x
      ·cases x
    ·cases f
  · try dsimp only at f
    split at f
    ·rename_i i e1;exact uc1 a ⟨j,i,e1,f⟩
    ·cases f
  · rw[dH,dH];cases e:ps[j]? with
    |none=>
      have:ps.length<=j:=Xh.mp e
      rw[Wb (by omega)];rfl
    |some p=>
      obtain⟨d,v,ed,ev,r⟩:=A.get e;rw[ed,ev];refine⟨v,rfl,?_⟩;have q:=hf.get e;cases p with
      |F=>
        have r:Dn Y B d v:=r;cases y:g.getD j .F with
        |F=>exact⟨r,rfl⟩
        |R=>exact⟨Dn.mono (R.bu.trans m) r,rfl⟩
        |O s=>rw[y]at q;exact q.elim
      |U=>
        have r:Dn Y U d v:=r;cases y:g.getD j .F with
        |F=>rw[y]at q;exact q.elim
        |R=>exact⟨Dn.mono m r,rfl⟩
        |O s=>rw[y]at q;exact q.elim
      |X=>cases y:g.getD j .F<;>(rw[y]at q;exact q.elim)
      |Bo i=>
        cases y:g.getD j .F with
        |F=>rw[y]at q;exact q.elim
        |O s=>rw[y]at q;exact q.elim
        |R=>
          refine⟨?_,rfl⟩;have l:=R.lo i;rw[r.2]at l;have w:=iA l r.1;cases e2:M.getD i .F with
          |F=>rw[e2]at w;exact Dn.mono (R.bu.trans m) w.1
          |R=>rw[e2]at w;exact Dn.mono m w.1
          |O s=>
            rw[e2]at w;refine Ow.dn (R.bu.trans m) (λa f o q=>?_) w;obtain⟨o',q1,q2⟩:=other (hb i (ub e)) f;rw[q2]at q;cases q;exact q1
      |O i=>
        obtain⟨d',v',s,ed',ev',L,h3,h4,h5⟩:=K e;rw[h4];have l:=R.lo i;rw[r.2,h5]at l;exact iA l r.1
 refine⟨B,Uc,_,ds,Rc,by omega,?_⟩
 have main:∀{S J H':Hp} {C:Nat->List Addr} {W:P1},Rel Y g S J C (vs.map some) H' (fI g W)->Ex B Uc S J->
  Rel Y M S (ov S U) (λi=>match io ps i with|some j=>C j|none=>As i) Z H' (bZ ps 0 W T)/\Ex B U S (ov S U)/\∀N,NewM N J C->NewM N (ov S U) (λi=>match io ps i with|some j=>C j|none=>As i):=λ{S J H' C W} t I=>by
  have su:Same U (ov S U):=λa o q=>by
   unfold ov;cases z:S a with
   |none=>exact q
   |some o'=>
     have r:=I.u a o (m a o q);have L:=t.bu a o' z;rw[r]at L;cases L;rfl
  have uh:Same (ov S U) H':=λa o q=>by
   unfold ov at q;cases z:S a with
   |none=>rw[z]at q;exact t.uh a o (I.u a o (m a o q))
   |some o'=>rw[z]at q;cases q;exact t.bh a _ z
  have bu:Same S (ov S U):=λa o q=>by unfold ov;rw[q]
  have free:∀{a},J a=none->ov S U a=none:=λ{a} h=>by
   unfold ov;cases z:S a with
   |none=>exact m.free (I.u.free h)
   |some o=>have:=t.bu a o z;rw[h]at this;cases this
  have there:∀{i a},io ps i=none->a∈As i->∃o,J a=some o/\H a=some o/\H' a=some o:=λ{i a} hi f=>by
   obtain⟨o,q1,q2⟩:=other (λz=>by obtain⟨j,hj⟩:=nz z;rw[hi]at hj;cases hj) f;exact⟨o,I.u a o q1,q2,t.uh a o (I.u a o q1)⟩
  refine⟨⟨bu,uh,λi=>?_,λi k a hne f x=>?_,λi a f=>?_,λi=>?_,by rw[jg];exact R.len,t.tb⟩,⟨I.b,su,λa o q=>?_⟩,λN n=>⟨n.nd,λa f=>free (n.un a f),λa f i=>?_⟩⟩
  · try dsimp only
    split
    ·exact t.nd _
    ·exact R.nd _
  · try dsimp only at f x
    split at f
    · rename_i j ej;split at x
      ·rename_i j' ej';refine t.dj j j' a (λz=>hne ?_) f x;subst z;have r:=fX ej;have L:=fX ej';rw[r]at L;cases L;rfl
      ·rename_i ek;obtain⟨o,q,_⟩:=there ek x;rw[t.un j a f]at q;cases q
    · rename_i ei;obtain⟨o,q,_⟩:=there ei f;split at x
      ·rename_i j' ej';rw[t.un j' a x]at q;cases q
      ·exact R.dj i k a hne f x
  · try dsimp only at f
    split at f
    ·rename_i j ej;exact free (t.un j a f)
    · rename_i ei;obtain⟨o,q,_⟩:=there ei f;unfold ov;cases z:S a with
      |none=>exact R.un i a f
      |some o'=>
        rcases I.nb a o' z with w|w|w
        ·have:=R.bu a o' w;rw[R.un i a f]at this;cases this
        ·obtain⟨o2,q1,q2⟩:=other (λz=>by obtain⟨j,hj⟩:=nz z;rw[ei]at hj;cases hj) f;rw[w]at q1;cases q1
        ·obtain⟨o2,_,q2,q3⟩:=there ei f;rw[t.bh a o' z]at q3;cases q3;exact(R.nt f q2 w).elim
  · try dsimp only
    cases ep:io ps i with
    |some j=>
      obtain⟨d,v,s,ed,ev,L,h3,h4,h5⟩:=K (fX ep)
      have hi:i<T.length:=by
       have:=bP h3
       exact(V6.mp this).1
      rw[qT hd hi,ep]
      try dsimp only
      have l:=t.lo j;rw[lj h4,dH,ev,h4]at l;rw[L,h5,Zx];exact l
    |none=>
      try dsimp only
      by_cases hi:i<T.length
      ·rw[qT hd hi,ep];refine(R.lo i).mono I.b su λa f=>?_;obtain⟨o,_,q1,q2⟩:=there ep f;rw[q1,q2]
      · have r:rg (bZ ps 0 W T) i=none:=by
         unfold rg;rw[List.getElem?_eq_none (by rw[jg];omega)];rfl
        have L:rg T i=none:=by
         unfold rg;rw[List.getElem?_eq_none (by omega)];rfl
        have l:=R.lo i;rw[L]at l;rw[r];exact l
  · rcases I.nb a o q with w|w|w
    ·exact .inl w
    ·exact .inr (.inl (m.free w))
    ·exact .inr (.inr w)
  · try dsimp only
    cases ep:io ps i with
    |some j=>exact n.ap a f j
    |none=>
      intro z;obtain⟨o,q,_⟩:=there ep z;rw[n.un a f]at q;cases q
 cases e:fm ds with
 |ok d G=>
   unfold bN at P;rw[e]at P;intro v S J C H' N t I n' k;obtain⟨R2,e2,n2⟩:=main t I;exact P v S _ _ H' N R2 e2 (n2 N n') (hU d v S J (ov S U) H' N k)
 |exc c G=>
   unfold bN at P;rw[e]at P;intro S J C H' t I;obtain⟨R2,e2,n2⟩:=main t I;exact P S _ _ H' R2 e2
 |bad=>
   unfold bN at P;rw[e]at P;exact P
end
def f8(c:Nat)(a:List D->Out D)(ds:List D):Res D:=match a (.obj c [] []::ds) with
 |.ok .non G=>(match rg G 0 with|some d=>.ok d|none=>.bad)
 |.ok _ _=>.bad
 |.exc c _=>.exc c
 |.bad=>.bad
section
variable{Y:Cm}{E:XK}{M:List Md}{B U H:Hp}{As:Nat->List Addr}{Z:St}{T:P1}{K:F0}
theorem OK{a:List Md}{b:KT D V}{f:List D->Out D}{ps:List Ap}{t:TA}{m:P1->Res (List D)}(h:AJ Y E M ps t m)(k:fitM M ps a)(hd:(cg ps).Nodup)(l:∀i∈ii ps,i∉cg ps)
 (n:∀d v B U J H N,b d v B U H N->b d v B J H N):MJ Y b E M (ik (vK Y a b f) [] E t) (λT=>((m T).up T).bind (bN ps f)):=by
 intro B U As Z H T Q R P;replace P:Mo Y b E M B U Z (((m T).up T).bind (bN ps f)) Q:=P;refine h B U As Z H T _ R ?_;cases e:m T with
 |ok ds=>
   rw[e]at P;intro vs I U1 H1 N j g o A;rw[Wh];exact kJ j A k hd l n (Mo.at (r:=bN ps f ds T) P g.toEx)
 |exc c=>rw[e]at P;exact λI U1 H1 j g=>P I U1 As H1 j g.toEx
 |bad=>rw[e]at P;exact P
theorem OB{c:Nat}{g:Str}{f:List Md}{b:KT D V}{j:List D->Out D}{p:Ap}{ps:List Ap}{ta:TE}{k:P1->Res D}{t:TA}{m:P1->Res (List D)}(G:A1J Y E M p ta k)(h:AJ Y E M ps t m)(C:fitM M (p::ps) f)(hd:(cg (p::ps)).Nodup)
 (F:∀i∈ii (p::ps),i∉cg (p::ps)) (K:∀d v B U J H N,b d v B U H N->b d v B J H N):
 MJ Y b E M (cT (Y c) g (vK Y f b j) [] E ta t) (λT=>((k T).up T).bind λo T=>if a8 c g o=true then ((m T).up T).bind λds T=>bN (p::ps) j (o::ds) T else .bad):=by
 intro B U As Z H T Q R P;replace P:Mo Y b E M B U Z (((k T).up T).bind λo T=>if a8 c g o=true then ((m T).up T).bind λds T=>bN (p::ps) j (o::ds) T else .bad) Q:=P;refine G B U As Z H T _ R ?_;cases e:k T with
 |ok o=>
   rw[e]at P;intro v I U1 H1 N q n W u;replace P:Mo Y b E M B U Z (if a8 c g o=true then ((m T).up T).bind λds T=>bN (p::ps) j (o::ds) T else .bad) Q:=P;by_cases z:a8 c g o=true
   · rw[VL z]at P;obtain⟨a,dx,fs,rfl,O,L⟩:=iU z (A1.read q u);refine⟨a,dx,fs,rfl,O,L,h I U1 As Z H1 T _ q ?_⟩;cases s:m T with
     |ok ds=>
       rw[s]at P;intro vs y w x X R2 l S A;rw[Wh];exact kJ (ps:=p::ps) (ds:=o::ds) R2 ⟨o,ds,_,vs,rfl,rfl,u.mono l,A⟩ C hd F K (Mo.at (r:=bN (p::ps) j (o::ds) T) P (n.toEx.trans l.toEx))
     |exc c=>rw[s]at P;exact λy w x R2 l=>P y w As x R2 (n.toEx.trans l.toEx)
     |bad=>rw[s]at P;exact P
   ·rw[on z]at P;exact P.elim
 |exc c=>rw[e]at P;exact λI U1 H1 q n=>P I U1 As H1 q n.toEx
 |bad=>rw[e]at P;exact P
theorem IL{c:Nat}{sh:List (Str×Sh)}{f:List Md}{fm:List D->Out D}{ps:List Ap}{ds:List D}{vs:List V}{Q:VK}(R:Rel Y M B U As Z H T)(A:Ag Y B U H Z T ps ds vs)(hl:ps.length+1=f.length)(h0:f.getD 0 .F= .O (.ob sh))
 (hf:∀(j:Nat) p,ps[j]?=some p->rW M true p (f.getD (j+1) .F)=true) (P:Po Y (KO Y (.ob sh)) E M B U As Z H T (f8 c fm ds) Q) (x dx:Addr) (hx:H x=none) (hdx:H dx=none) (hne:dx≠x):
 vK Y f (KR Y .F) fm (.ref x::vs) (upd (upd H dx (.own x)) x (.ins (Y c) dx [])) (λv H2=>v=.non/\Q (.ref x) H2) E:=by
 have K:=A.len;have sH:Same H (upd (upd H dx (.own x)) x (.ins (Y c) dx [])):=Gd.tK hx (Gd.b8 hdx);have hUc:∃y:Hp,y x=none/\∀a,a≠x->y a=upd (upd H dx (.own x)) x (.ins (Y c) dx []) a:=⟨λa=>if a=x then none else upd (upd H dx (.own x)) x (.ins (Y c) dx []) a,VL rfl,λa h=>on h⟩;obtain⟨y,u1,u2⟩:=hUc;have n:Same H y:=λa o q=>by rw[u2 a (aR q hx)];exact sH a o q
 have ucH:Same y (upd (upd H dx (.own x)) x (.ins (Y c) dx [])):=λa o q=>by
  by_cases z:a=x
  ·subst z;rw[u1]at q;cases q
  ·rw[u2 a z]at q;exact q
 have r:∀{a},y a=none->H a=none:=λh=>n.free h
 have Rc:Rel Y f B y (λj=>match j with|0=>[x]|_+1=>[]) ((.ref x::vs).map some) (upd (upd H dx (.own x)) x (.ins (Y c) dx [])) ((.obj c [] []::ds).map some):=by
  refine⟨R.bh.trans n,ucH,λj=>?_,λj k a W g hk=>?_,λj a g=>?_,λj=>?_,by rw[VO,VO,VV,VV,K.1,K.2],R.tb⟩
  · cases j with
    |zero=>simp
    |succ j=>exact WE
  · cases j with
    |zero=>
      cases k with
      |zero=>exact W rfl
      |succ k=>cases hk
    |succ j=>cases g
  · cases j with
    |zero=>rw[VU.mp g];exact u1
    |succ j=>cases g
  · rw[dH,dH];cases j with
    |zero=>
      rw[h0];refine⟨.ref x,rfl,?_⟩;show Ow Y B _ (.obj c [] []) (.ob sh) (.ref x) [x];rw[Ow];exact⟨x,dx,[],[],rfl,az,rfl,rfl,by rw[Owf];exact⟨rfl,rfl⟩⟩
    |succ j=>
      rw[Xu,Xu];cases e:ps[j]? with
      |none=>
        have:ps.length<=j:=Xh.mp e
        rw[Wb (by omega)];rfl
      |some p=>
        obtain⟨d,v,ed,ev,h1⟩:=A.get e;rw[ed,ev];refine⟨v,rfl,?_⟩;have hr:=A1.read R h1;have q:=hf j p e;cases em:f.getD (j+1) .F with
        |F=>
          rw[em]at q;cases p with
          |F=>exact⟨h1,rfl⟩
          |_=>cases q
        |R=>exact⟨Dn.mono n hr,rfl⟩
        |O s=>rw[em]at q;cases p<;>cases q
 refine⟨B,y,_,.obj c [] []::ds,Rc,by rw[VV];omega,?_⟩
 have I:∀{S J H':Hp} {C:Nat->List Addr} {L:P1},Rel Y f S J C ((.ref x::vs).map some) H' L->Ex B y S J->Rel Y M S (ov S U) As Z H' T/\Gw B U H S (ov S U) H'/\∀a,J a=none->ov S U a=none:=λ{S J H' C L} m t=>by
  have sU:Same U J:=(R.uh.trans n).trans t.u
  have su:Same U (ov S U):=λa o q=>by
   unfold ov;cases z:S a with
   |none=>exact q
   |some o'=>
     have h1:=sU a o q;have h2:=m.bu a o' z;rw[h1]at h2;cases h2;rfl
  have sh:Same H H':=(n.trans t.u).trans m.uh
  have uh:Same (ov S U) H':=λa o q=>by
   unfold ov at q;cases z:S a with
   |none=>rw[z]at q;exact sh a o (R.uh a o q)
   |some o'=>rw[z]at q;cases q;exact m.bh a _ z
  have bu:Same S (ov S U):=λa o q=>by unfold ov;rw[q]
  have new:∀a o,S a=some o->B a=some o\/H a=none\/d7 o:=λa o q=>(t.nb a o q).imp id λz=>z.imp r id;refine⟨R.grow t.b su sh bu uh λi a g=>?_,⟨⟨t.b,su,λa o q=>?_⟩,sh,λa o q=>?_⟩,λa h=>?_⟩
  · unfold ov;cases z:S a with
    |none=>exact R.un i a g
    |some o=>
      obtain⟨o',q'⟩:=R.at g;rcases new a o z with q|q|q
      ·have:=R.bu a o q;rw[R.un i a g]at this;cases this
      ·rw[q]at q';cases q'
      ·have e1:=sh _ _ q';rw[m.bh a o z]at e1;cases e1;exact(R.nt g q' q).elim
  · rcases new a o q with q|q|q
    ·exact .inl q
    ·exact .inr (.inl (R.uh.free q))
    ·exact .inr (.inr q)
  · unfold ov at q;cases z:S a with
    |none=>rw[z]at q;exact .inl q
    |some o'=>
      rw[z]at q;cases q;rcases new a _ z with q|q
      ·exact .inl (R.bu a _ q)
      ·exact .inr q
  · unfold ov;cases z:S a with
    |none=>exact sU.free h
    |some o=>have:=m.bu a o z;rw[h]at this;cases this
 unfold f8 at P;cases e:fm (.obj c [] []::ds) with
 |ok d G=>
   rw[e]at P;intro v S J C H' N m t n' k;obtain⟨R2,g2,X⟩:=I m t;cases d with
   |non=>
     have k:Dn Y S .non v:=k;rw[Dn]at k;refine⟨k,?_⟩;replace P:Po Y (KO Y (.ob sh)) E M B U As Z H T (match rg G 0 with|some d=>.ok d|none=>.bad) Q:=P;have l:=m.lo 0;rw[lj h0,h0]at l;cases e0:rg G 0 with
     |none=>rw[e0]at P;exact P.elim
     |some d=>
       rw[e0]at P l;have w:=iA l (v:=.ref x) rfl;exact P (.ref x) S _ H' (C 0) R2 g2 ⟨m.nd 0,λa g=>r (t.u.free (m.un 0 a g)),λa g=>X a (m.un 0 a g)⟩ w
   |_=>exact P.elim
 |exc c' G=>
   rw[e]at P;intro S J C H' m t;obtain⟨R2,g2,X⟩:=I m t;exact P S _ H' R2 g2
 |bad=>rw[e]at P;exact P
theorem Nd{c:Nat}{sh:List (Str×Sh)}{a:List Md}{e:List D->Out D}{ps:List Ap}{t:TA}{m:P1->Res (List D)}(h:AJ Y E M ps t m)(g:ps.length+1=a.length)(h0:a.getD 0 .F= .O (.ob sh))
 (i:∀(j:Nat) p,ps[j]?=some p->rW M true p (a.getD (j+1) .F)=true):PJ Y (KO Y (.ob sh)) E M (p6 (Y c) (vK Y a (KR Y .F) e) [] E t) (λT=>(m T).bind (f8 c e)):=by
 intro B U As Z H T Q R P;refine h.bnd R P λds vs I U1 H1 k e1 A W=>?_;intro x dx f d b;rw[Wh];exact IL k A g h0 i W x dx f d b
structure Pth (Y:Cm) (M:List Md) (t:TE) (get:P1->Option D) (set:P1->D->P1):Prop where
 rd:∀{B U:Hp} {As:Nat->List Addr} {Z:St} {H:Hp} {T:P1} {d:D},Rel Y M B U As Z H T->get T=some d->∃v A,(∀Q:VK,Q v H->t Z H Q)/\Ow Y B H d (.ct .fz) v A/\(∀a∈A,∃i,a∈As i)/\
  ∀I U1 H1,Rel Y M I U1 As Z H1 T->Same B I->Same H H1->∀a∈A,∀o' d',Ow Y I (upd H1 a o') d' (.ct .fz) v A->Rel Y M I U1 As Z (upd H1 a o') (set T d')
theorem Rel.mut(R:Rel Y M B U As Z H T){i:Nat}{a:Addr}{o':HO}{d d':D}{v:V}{sh:Sh}(g:M.getD i .F= .O sh)(f:rg Z i=some v)(hd:rg T i=some d)(c:a∈As i)(w:Ow Y B (upd H a o') d' sh v (As i)):
 Rel Y M B U As Z (upd H a o') (T.set i (some d')):=by
 have hi:i<T.length:=(V6.mp (bP hd)).1;refine⟨R.bu,λb u q=>?_,R.nd,R.dj,R.un,λj=>?_,by rw[Wd];exact R.len,R.tb⟩
 ·rw[ao (aR q (R.un i a c))];exact R.uh b u q
 · rw[cV];by_cases e:i=j
   ·subst e;rw[VL ⟨rfl,hi⟩,g];exact⟨v,f,w⟩
   ·rw[on λz=>e z.1];exact(R.lo j).mono (Same.refl _) (Same.refl _) λb h=>ao (λz:b=a=>R.dj i j a e c (z▸h))
def bI(i:Nat):P1->Option D:=λT=>rg T i
def cU(i:Nat):P1->D->P1:=λT d=>T.set i (some d)
theorem Vd{i:Nat}(f:M.getD i .F= .O (.ct .fz)):Pth Y M (cF i) (bI i) (cU i) where
 rd:=λ{B U As Z H T d} R e=>by
  replace e:rg T i=some d:=e;have l:=R.lo i;rw[e,f]at l;obtain⟨v,c,w⟩:=l;exact⟨v,As i,λQ q=>⟨v,bP c,q⟩,w,λa b=>⟨i,b⟩,λI U1 H1 h _ _ a b o' d' g=>h.mut f c e b g⟩
theorem Owf.upd{sh:List (Str×Sh)}{f:Str}{B H:Hp}:∀{fs:List (Str×V)} {ds:List D} {A:List Addr} {d:D},Owf Y B H ds (fs.map (·.1)) sh (fs.map (·.2)) A->A.Nodup->aZ (fs.map (·.1)) ds f=some d->
 ∃v A1,fs.lookup f=some v/\Ow Y B H d ((sh.lookup f).getD .fz) v A1/\(∀a∈A1,a∈A)/\∀I H1 d',Same B I->(∀b∈A,b∉A1->H1 b=H b)->Ow Y I H1 d' ((sh.lookup f).getD .fz) v A1->Owf Y I H1 (cW (fs.map (·.1)) ds f d') (fs.map (·.1)) sh (fs.map (·.2)) A
 |[],ds,A,d,h,nd,e=>by cases ds<;>cases e
 | p::fs,ds,A,d,h,nd,e=>by
   cases ds with
   |nil=>cases e
   |cons d0 ds=>
     rw[List.map_cons,List.map_cons,Owf]at h;obtain⟨n,E,x,r,s,y,J,h0,K,o,u⟩:=h;cases J;cases h0;subst K;obtain⟨F,j,g⟩:=List.nodup_append.mp nd;rw[List.map_cons]at e;unfold aZ at e;by_cases q:p.1=f
     ·rw[VL q]at e;cases e;rw[q]at o;refine⟨p.2,s,by rw[Wp,<-q,Xb],o,λa m=>V0 _ m,λI H1 d' i k w=>?_⟩;rw[VN,VN,cW,VL q,Owf];exact⟨p.1,_,p.2,_,s,y,rfl,rfl,rfl,by rw[q];exact w,Owf.mono i (λb c=>k b (VS _ c) λz=>g b z b c rfl) u⟩
     ·rw[on q]at e;obtain⟨v,A1,G,C,t,L⟩:=Owf.upd u j e;have c:(f==p.1)=false:=Wt.mpr λz=>q z.symm;refine⟨v,A1,by rw[Wp,c];exact G,C,λa m=>VS _ (t a m),λI H1 d' i k w=>?_⟩;rw[VN,VN,cW,on q,Owf];exact⟨p.1,_,p.2,_,s,y,rfl,rfl,rfl,Ow.mono i (λb c=>k b (V0 _ c) λz=>g b c b (t b z) rfl) o,L I H1 d' i (λb c l=>k b (VS _ c) l) w⟩
def dR(c:Nat)(f:Str)(i:Nat):P1->Option D:=λT=>match rg T i with
 |some (.obj a ns vs)=>if a=c then aZ ns vs f else none
 |_=>none
def dk(f:Str)(i:Nat):P1->D->P1:=λT d=>match rg T i with
 |some (.obj c ns vs)=>T.set i (some (.obj c ns (cW ns vs f d)))
 |_=>T
theorem Vf{c:Nat}{f:Str}{i:Nat}{sh:List (Str×Sh)}(X:Cls K (Y c))(W:NoAttr K (Y c) f)(E:M.getD i .F= .O (.ob sh))(G:(sh.lookup f).getD .fz=.ct .fz):Pth Y M (mV K (cF i) f) (dR c f i) (dk f i) where
 rd:=λ{B U As Z H T d} R e=>by
  have l:=R.lo i;unfold dR at e;cases e0:rg T i with
  |none=>rw[e0]at e;cases e
  |some d0=>
    cases d0 with
    |obj k ns vs=>
      rw[e0]at e;replace e:(if k=c then aZ ns vs f else none)=some d:=e;by_cases q:k=c
      · subst q;rw[VL rfl]at e;rw[e0,E]at l;obtain⟨v,C,w⟩:=l;have x:Ow Y B H (.obj k ns vs) (.ob sh) v (As i):=w;rw[Ow]at x;obtain⟨a,dx,xs,A',rfl,L,h2,j,J⟩:=x;subst h2;have nd:=R.nd i;rw[j]at nd;obtain⟨n,m⟩:=Wc.mp nd;obtain⟨u,A1,V,A,t,cl⟩:=Owf.upd J m e;rw[G]at A;refine⟨u,A1,λQ q=>⟨.ref a,bP C,a,_,dx,xs,u,rfl,L,X,W,V,q⟩,A,λb h=>⟨i,by rw[j];exact VR _ (t b h)⟩,λI U1 H1 R1 P g b h o' d' N=>?_⟩;have s:b∈As i:=by rw[j];exact VR _ (t b h)
        have:dk f i T d'=T.set i (some (.obj k (xs.map (·.1)) (cW (xs.map (·.1)) vs f d'))):=by unfold dk;rw[e0]
        rw[this];refine R1.mut E C e0 s ?_;rw[j,Ow];have p:a≠b:=λz=>n (by rw[z];exact t b h);refine⟨a,dx,xs,A',rfl,by rw[ao p];exact g _ _ L,rfl,rfl,cl I _ d' P (λy S r=>?_) (by rw[G];exact N)⟩
        have:y≠b:=λz=>r (by rw[z];exact h)
        rw[ao this];obtain⟨o,D⟩:=Owf.at J S;rw[D,g _ _ D]
      ·rw[on q]at e;cases e
    |_=>rw[e0]at e;cases e
def OO(set:P1->D->P1)(T:P1):Option (D×List D)->Out D
 |some (d,a)=>.ok d (set T (.lst a))
 |none=>.bad
def ON(set:P1->D->P1)(f:List D->D->Option (D×List D))(T:P1)(xs:List D):Res D->Out D
 |.ok x=>OO set T (f xs x)
 |.exc c=>.exc c T
 |.bad=>.bad
def iz(get:P1->Option D)(set:P1->D->P1)(f:List D->D->Option (D×List D))(me:P1->Res D):P1->Out D:=λT=>match get T with
 |some (.lst xs)=>ON set f T xs (me T)
 |_=>.bad
theorem Ow.lst{d:D}{v:V}{A:List Addr}{ds:List D}(w:Ow Y B H d (.ct .fz) v A)(e:d=.lst ds):∃a xs,v=.ref a/\H a=some (.lst xs)/\A=[a]/\Dns Y B ds xs:=by
 subst e;rw[Ow]at w;obtain⟨a,xs,i,r,h,g,f⟩:=w;obtain⟨c,b⟩:=Ows.fz f;exact⟨a,xs,r,h,by rw[g,b],c⟩
theorem Ow.lst'{a:Addr}{ds:List D}{xs:List V}(h:H a=some (.lst xs))(d:Dns Y B ds xs):Ow Y B H (.lst ds) (.ct .fz) (.ref a) [a]:=by
 rw[Ow];exact⟨a,xs,[],rfl,h,rfl,Ows.of d⟩
section
variable{t:TE}{get:P1->Option D}{set:P1->D->P1}
theorem Es{k:Kd}{r:V->List V->Hp->VK->Prop}{f:List D->D->Option (D×List D)}{te:TE}{me:P1->Res D}(p:Pth Y M t get set)(G:PJ Y (KR Y k) E M te me)
 (C:∀(B U H:Hp) (a:Addr) (ds:List D) (xs:List V) (x:D) (u:V) (d:D) (j:List D) (Q:VK),Same B U->Same U H->H a=some (.lst xs)->Dns Y B ds xs->Dn Y (hp k B U H) x u->f ds x=some (d,j)->(∀v l,Dn Y B d v->Dns Y B j l->Q v (upd H a (.lst l)))->r (.ref a) [u] H Q):
 MJ Y (KR Y .F) E M (LU K "list" r t (aM te bO)) (iz get set f me):=by
 intro B U As Z H T Q R P;unfold iz at P;cases e:get T with
 |none=>rw[e]at P;exact P.elim
 |some d0=>
   cases d0 with
   |lst ds=>
     rw[e]at P;replace P:Mo Y (KR Y .F) E M B U Z (ON set f T ds (me T)) Q:=P;obtain⟨v,A,z,w,W,O⟩:=p.rd R e;obtain⟨a,xs,rfl,o,rfl,J⟩:=w.lst rfl;refine z _ ⟨.inl ⟨rfl,xs,SqL.of o⟩,G B U As Z H T _ R ?_⟩;cases m:me T with
     |ok x=>
       rw[m]at P;replace P:Mo Y (KR Y .F) E M B U Z (OO set T (f ds x)) Q:=P;intro u I U1 H1 N i g S y;cases n:f ds x with
       |none=>rw[n]at P;exact P.elim
       |some L=>
         obtain⟨d,j⟩:=L;rw[n]at P;refine C I U1 H1 a ds xs x u d j Q i.bu i.uh (g.h _ _ o) (J.mono g.b) y n λv l s q=>?_;exact P v I U1 As _ [] (O I U1 H1 i g.b g.h a VP _ _ (Ow.lst' az q)) g.toEx NewM.nil s
     |exc c=>rw[m]at P;exact λI U1 H1 i g=>P I U1 As H1 i g.toEx
     |bad=>rw[m]at P;exact P.elim
   |_=>rw[e]at P;exact P.elim
def mF(xs:List D)(x:D):Option (D×List D):=if xs.length<af then some (.non,xs++[x]) else none
theorem EA{te:TE}{me:P1->Res D}(p:Pth Y M t get set)(g:PJ Y (KR Y .F) E M te me):MJ Y (KR Y .F) E M (LU K "list" yo t (aM te bO)) (iz get set mF me):=
 Es (f:=mF) p g λB U H a ds xs x u d i Q _ _ h c e b k=>by
  unfold mF at b;by_cases z:ds.length<af
  ·rw[VL z]at b;cases b;exact⟨a,xs,u,rfl,rfl,h,fE (WY (by rw[<-c.len];exact z)),k .non _ (by rw[Dn]) (c.append (Dns.one e))⟩
  ·rw[on z]at b;cases b
def CZ(xs:List D)(x:D):Option (D×List D):=match x with
 |.int i=>if 0<=i/\i<xs.length/\xs.length<=af then xs[i.toNat]?.map λd=>(d,xs.eraseIdx i.toNat) else none
 |_=>none
theorem IP{te:TE}{me:P1->Res D}(p:Pth Y M t get set)(m:PJ Y (KR Y .X) E M te me):MJ Y (KR Y .F) E M (LU K "list" CN t (aM te bO)) (iz get set CZ me):=
 Es (f:=CZ) p m λB U H a ds xs x u d q Q _ _ n e c b k=>by
  cases x with
  |int i=>
    have c:Dn Y H (.int i) u:=c;rw[Dn]at c;subst c;replace b:(if 0<=i/\i<ds.length/\ds.length<=af then ds[i.toNat]?.map λd=>(d,ds.eraseIdx i.toNat) else none)=some (d,q):=b;by_cases z:0<=i/\i<ds.length/\ds.length<=af
    ·rw[if_pos z]at b;obtain⟨y,o,r⟩:=Option.map_eq_some_iff.mp b;cases r;obtain⟨w,l,s⟩:=e.get o;obtain⟨j,h,g⟩:=z;unfold af at g;refine⟨a,xs,i,i.toNat,w,rfl,rfl,n,by omega,by omega,?_,l,k w _ s (e.erase _)⟩;refine(rP ?_).1;unfold nF;rw[if_pos j,if_pos (by rw[<-e.len];exact h)]
    ·rw[on z]at b;cases b
  |_=>cases b
end
end
section
variable{Y:Cm}{E:XK}{Kr:KT D V}{pr:Nat->Bool}{M:List Md}{B U H:Hp}{As:Nat->List Addr}{Z:St}{T:P1}{K:F0}
def l4(set:P1->D->P1)(x d:D)(T:P1):Res D->SO
 |.ok k=>(match qG d k x with|some d'=>.nx (set T d')|none=>.bad)
 |.exc c=>.exc c T
 |.bad=>.bad
def ge(get:P1->Option D)(set:P1->D->P1)(mk:P1->Res D)(b:P1->Out D):P1->SO:=λT=>fW (b T) λx a=>match get a with
 |some d=>l4 set x d a (mk a)
 |none=>.bad
section
variable{W:Type}[DecidableEq W]
theorem mS{kvs:List (W×V)}{k:W}:(kvs.any λa=>decide (a.1=k))=bV (kvs.map (·.1)) k:=by
 unfold bV;rw[List.any_map];rfl
theorem tQ{kvs:List (W×V)}{k:W}{v:V}(h:bV (kvs.map (·.1)) k=true):(eB kvs k v).map (·.1)=kvs.map (·.1):=by
 unfold eB;rw[mS,if_pos h,List.map_map];refine List.map_congr_left λp _=>?_;show(if p.1=k then (p.1,v) else p).1=p.1;split<;>rfl
theorem eE{kvs:List (W×V)}{k:W}{v:V}(h:¬ bV (kvs.map (·.1)) k=true):eB kvs k v=kvs++[(k,v)]:=by
 unfold eB;rw[mS,if_neg h]
theorem m9{G:Hp}{x:D}{v:V}{k:W}(b:Dn Y G x v):∀{kvs:List (W×V)} {ds:List D},Dns Y G ds (kvs.map (·.2))->Dns Y G (im (kvs.map (·.1)) ds k x) ((kvs.map λa=>if a.1=k then (a.1,v) else a).map (·.2))
 |[],ds,h=>by cases ds<;>exact(by rw[List.map_nil,List.map_nil,List.map_nil];unfold im;rw[Dns])
 | p::kvs,ds,h=>by
   cases ds with
   |nil=>rw[Dns]at h;cases h
   |cons d ds=>
     rw[VN,Dns]at h;obtain⟨y,r,e,f,c⟩:=h;cases e;rw[VN,VN,VN,im,Dns];refine⟨_,_,rfl,?_,m9 b c⟩;by_cases q:p.1=k
     ·rw[VL q,VL q];exact b
     ·rw[on q,on q];exact f
end
theorem Ow.dT{d:D}{v:V}{A:List Addr}{b:List (List ay)}{ds:List D}(w:Ow Y B H d (.ct .fz) v A)(e:d=.dT b ds):∃(a:Addr) (kvs:List (List ay×V)),v=.ref a/\H a=some (.dT kvs)/\kvs.map (·.1)=b/\A=[a]/\Dns Y B ds (kvs.map (·.2)):=by
 subst e;rw[Ow]at w;obtain⟨a,xs,k,r,j,i,h,g⟩:=w;obtain⟨f,c⟩:=Ows.fz g;exact⟨a,xs,r,j,i,by rw[h,c],f⟩
theorem Ow.dK{d:D}{v:V}{A:List Addr}{b:List ay}{ds:List D}(w:Ow Y B H d (.ct .fz) v A)(e:d=.dK b ds):∃(a:Addr) (kvs:List (ay×V)),v=.ref a/\H a=some (.dK kvs)/\kvs.map (·.1)=b/\A=[a]/\Dns Y B ds (kvs.map (·.2)):=by
 subst e;rw[Ow]at w;obtain⟨a,xs,k,r,j,i,h,g⟩:=w;obtain⟨f,c⟩:=Ows.fz g;exact⟨a,xs,r,j,i,by rw[h,c],f⟩
theorem Ow.dT'{a:Addr}{kvs:List (List ay×V)}{ds:List D}(h:H a=some (.dT kvs))(d:Dns Y B ds (kvs.map (·.2))):Ow Y B H (.dT (kvs.map (·.1)) ds) (.ct .fz) (.ref a) [a]:=by
 rw[Ow];exact⟨a,kvs,[],rfl,h,rfl,rfl,Ows.of d⟩
theorem Ow.dK'{a:Addr}{kvs:List (ay×V)}{ds:List D}(h:H a=some (.dK kvs))(d:Dns Y B ds (kvs.map (·.2))):Ow Y B H (.dK (kvs.map (·.1)) ds) (.ct .fz) (.ref a) [a]:=by
 rw[Ow];exact⟨a,kvs,[],rfl,h,rfl,rfl,Ows.of d⟩
theorem Jk{d k x d':D}{v u w:V}{A:List Addr}(p:Ow Y B H d (.ct .fz) v A)(m:Dn Y H k u)(j:Dn Y B x w)(e:qG d k x=some d'):∃a o',v=.ref a/\a∈A/\DPut H a u w (upd H a o')/\Ow Y B (upd H a o') d' (.ct .fz) v A:=by
 cases d with
 |dT c vs=>
   obtain⟨a,kvs,rfl,n,i,rfl,h⟩:=p.dT rfl;cases k with
   |tup r=>
     replace e:((bC r).bind λk=>if c.length<af then some (if bV c k=true then D.dT c (im c vs k x) else .dT (c++[k]) (vs++[x])) else none)=some d':=e;obtain⟨f,o,e⟩:=XT.mp e;rw[Dn]at m;obtain⟨b,xs,rfl,y,s⟩:=m;have ex:=eU o s;subst ex;by_cases z:c.length<af
     · rw[VL z]at e;cases e;have l:kvs.length<sizeLine:=fE (WY (by rw[<-i,VO]at z;exact z));refine⟨a,_,rfl,VP,DPut.t n y l,?_⟩;subst i;by_cases q:bV (kvs.map (·.1)) f=true
       · rw[if_pos q];have hp:eB kvs f w=kvs.map λg=>if g.1=f then (g.1,w) else g:=by unfold eB;rw[mS,if_pos q]
         have:=Ow.dT' (Y:=Y) (B:=B) (H:=upd H a (.dT (eB kvs f w))) (ds:=im (kvs.map (·.1)) vs f x) az (by rw[hp];exact m9 j h)
         rw[tQ q]at this;exact this
       · rw[on q]
         have:=Ow.dT' (Y:=Y) (B:=B) (H:=upd H a (.dT (eB kvs f w))) (ds:=vs++[x]) az (by rw[eE q,Wm];exact h.append (Dns.one j))
         rw[eE q,Wm]at this;rw[eE q];exact this
     ·rw[on z]at e;cases e
   |_=>cases e
 |dK c vs=>
   obtain⟨a,kvs,rfl,n,i,rfl,h⟩:=p.dK rfl;replace e:((bA k).bind λk=>if c.length<af then some (if bV c k=true then D.dK c (im c vs k x) else .dK (c++[k]) (vs++[x])) else none)=some d':=by cases k<;>exact e
   obtain⟨f,o,e⟩:=XT.mp e;have ex:=nD o m;subst ex;by_cases z:c.length<af
   · rw[VL z]at e;cases e;have l:kvs.length<sizeLine:=fE (WY (by rw[<-i,VO]at z;exact z));refine⟨a,_,rfl,VP,DPut.k n l,?_⟩;subst i;by_cases q:bV (kvs.map (·.1)) f=true
     · rw[if_pos q];have hp:eB kvs f w=kvs.map λg=>if g.1=f then (g.1,w) else g:=by unfold eB;rw[mS,if_pos q]
       have:=Ow.dK' (Y:=Y) (B:=B) (H:=upd H a (.dK (eB kvs f w))) (ds:=im (kvs.map (·.1)) vs f x) az (by rw[hp];exact m9 j h)
       rw[tQ q]at this;exact this
     · rw[on q]
       have:=Ow.dK' (Y:=Y) (B:=B) (H:=upd H a (.dK (eB kvs f w))) (ds:=vs++[x]) az (by rw[eE q,Wm];exact h.append (Dns.one j))
       rw[eE q,Wm]at this;rw[eE q];exact this
   ·rw[on z]at e;cases e
 |_=>cases k<;>cases e
section
variable{t:TE}{get:P1->Option D}{set:P1->D->P1}{tk tv:TE}{mk:P1->Res D}{mv:P1->Out D}
theorem Ml(p:Pth Y M t get set)(Q:PJ Y (KR Y .X) E M tk mk)(K:MJ Y (KR Y .F) E M tv mv):SJ Y E Kr pr M (Cf t tk tv) (ge get set mk mv):=by
 intro B U As Z H T D R P;refine K.bndS R P λx f w I U1 i H1 N G e1 n1 J W=>?_;cases e:get f with
 |none=>rw[e]at W;exact W.elim
 |some d=>
   rw[e]at W;replace W:So Y E Kr pr M I U1 Z (l4 set x d f (mk f)) D:=W;obtain⟨v,A,O,z,hA,V⟩:=p.rd G e;refine O _ (Q I U1 i Z H1 f _ G ?_);cases s:mk f with
   |ok k=>
     rw[s]at W;replace W:So Y E Kr pr M I U1 Z (match qG d k x with|some d'=>.nx (set f d')|none=>.bad) D:=W;intro u j l m N2 R2 g n2 L;cases y:qG d k x with
     |none=>rw[y]at W;exact W.elim
     |some d'=>
       rw[y]at W
       have q:Ow Y j m d (.ct .fz) v A:=Ow.mono g.b (λa r=>by
        obtain⟨o,C⟩:=Ow.at z r
        rw[C,g.h _ _ C]) z
       obtain⟨a,o',S,r,dp,n⟩:=Jk q L (Dn.mono g.b J) y;exact⟨a,_,S,dp,W Z j l i _ (V j l m R2 g.b g.h a r o' d' n) g.toEx (Kp.refl _ _)⟩
   |exc c=>rw[s]at W;exact λj l m R2 g=>W Z j l i m R2 g.toEx (Kp.refl _ _)
   |bad=>rw[s]at W;exact W.elim
def yD(set:P1->D->P1)(x:D)(xs:List D)(T:P1):Res D->SO
 |.ok (.int i)=>(match nF xs.length i with|some j=>.nx (set T (.lst (xs.set j x)))|none=>.bad)
 |.ok _=>.bad
 |.exc c=>.exc c T
 |.bad=>.bad
def i9(get:P1->Option D)(set:P1->D->P1)(mk:P1->Res D)(mv:P1->Out D):P1->SO:=λT=>fW (mv T) λx a=>match get a with
 |some (.lst xs)=>yD set x xs a (mk a)
 |_=>.bad
theorem Mb(p:Pth Y M t get set)(L:PJ Y (KR Y .X) E M tk mk)(J:MJ Y (KR Y .F) E M tv mv):SJ Y E Kr pr M (tG tv (O1 t tk J8)) (i9 get set mk mv):=by
 intro B U As Z H T D R P;refine J.bndS R P λx f w I U1 l H1 N z e1 V G W=>?_;cases e:get f with
 |none=>rw[e]at W;exact W.elim
 |some d=>
   cases d with
   |lst xs=>
     rw[e]at W;replace W:So Y E Kr pr M I U1 Z (yD set x xs f (mk f)) D:=W;obtain⟨v,A,K,C,hA,Q⟩:=p.rd z e;obtain⟨a,vs,rfl,O,rfl,y⟩:=C.lst rfl;refine K _ (L I U1 l Z H1 f _ z ?_);cases r:mk f with
     |ok k=>
       rw[r]at W;intro u q n o N2 R2 g S m;cases k with
       |int i=>
         replace W:So Y E Kr pr M I U1 Z (match nF xs.length i with|some j=>.nx (set f (.lst (xs.set j x)))|none=>.bad) D:=W;have m:Dn Y o (.int i) u:=m;rw[Dn]at m;cases s:nF xs.length i with
         |none=>rw[s]at W;exact W.elim
         |some j=>
           rw[s]at W;refine⟨a,vs,i,j,rfl,m,g.h _ _ O,by rw[<-y.len];exact s,?_⟩;exact W Z q n l _ (Q q n o R2 g.b g.h a VP _ _ (Ow.lst' az (Dns.set (Dn.mono g.b G) j (y.mono g.b)))) g.toEx (Kp.refl _ _)
       |_=>exact W.elim
     |exc c=>rw[r]at W;exact λq n o R2 g=>W Z q n l o R2 g.toEx (Kp.refl _ _)
     |bad=>rw[r]at W;exact W.elim
   |_=>rw[e]at W;exact W.elim
end
theorem qe{f:Str}{y:V}:∀{fs:List (Str×V)},(eQ f y fs).map (·.1)=if bV (fs.map (·.1)) f=true then fs.map (·.1) else fs.map (·.1)++[f]
 |[]=>rfl
 | p::fs=>by
   obtain⟨g,z⟩:=p;unfold eQ bV;rw[List.map_cons,List.any_cons];by_cases q:g=f
   ·rw[VL q,Wv q,Bool.true_or,VL rfl,VN]
   · rw[if_neg q,decide_eq_false q,Bool.false_or,List.map_cons,qe];unfold bV;split
     ·rfl
     ·rw[Xs]
theorem Owf.put{sh:List (Str×Sh)}{f:Str}{x:D}{y:V}{N:List Addr}(s:Ow Y B H x ((sh.lookup f).getD .fz) y N)(v:N.Nodup):∀{fs:List (Str×V)} {ds:List D} {A:List Addr},Owf Y B H ds (fs.map (·.1)) sh (fs.map (·.2)) A->A.Nodup->(∀a∈N,a∉A)->
 ∃i,Owf Y B H (if bV (fs.map (·.1)) f=true then cW (fs.map (·.1)) ds f x else ds++[x]) ((eQ f y fs).map (·.1)) sh ((eQ f y fs).map (·.2)) i/\i.Nodup/\∀a∈i,a∈A\/a∈N
 | [],ds,A,h,nd,hd=>by
   cases ds with
   |nil=>
     refine⟨N,?_,v,λa c=>.inr c⟩;show Owf Y B H [x] [f] sh [y] N;rw[Owf];exact⟨f,[],y,[],N,[],rfl,rfl,by rw[Wh],s,by rw[Owf];exact⟨rfl,rfl⟩⟩
   |cons d ds=>
     rw[Owf]at h;obtain⟨_,_,_,_,_,_,e,_⟩:=h;cases e
 | p::fs,ds,A,h,nd,hd=>by
   obtain⟨g,z⟩:=p;cases ds with
   |nil=>
     rw[Owf]at h;cases h.1
   |cons d ds=>
     rw[List.map_cons,List.map_cons,Owf]at h;obtain⟨n,J,u,r,E,I,K,h0,M,L,G⟩:=h;cases K;cases h0;subst M;obtain⟨o,j,m⟩:=List.nodup_append.mp nd;unfold eQ;by_cases q:g=f
     · have t:bV (((g,z)::fs).map (·.1)) f=true:=by
        unfold bV;rw[List.map_cons,List.any_cons,decide_eq_true q,Bool.true_or]
       rw[VL q,t,VL rfl,VN,cW,VL q,VN,VN];refine⟨N++I,?_,Wq.mpr ⟨v,j,λa c b k e=>hd a c (VS _ (e▸k))⟩,λa c=>?_⟩
       ·rw[Owf];exact⟨g,_,y,_,N,I,rfl,rfl,rfl,by rw[q];exact s,G⟩
       · rcases VW.mp c with z|z
         ·exact .inr z
         ·exact .inl (VS _ z)
     · obtain⟨i,w,l,F⟩:=Owf.put s v G j (λa c k=>hd a c (VS _ k))
       have t:bV (((g,z)::fs).map (·.1)) f=bV (fs.map (·.1)) f:=by
        unfold bV;rw[List.map_cons,List.any_cons,decide_eq_false q,Bool.false_or]
       rw[on q,t,VN,VN,VN,cW,on q]
       have C:∀a∈E,∀b∈i,a≠b:=λa c b k e=>by
        rcases F b k with z|z
        ·exact m a c b z e
        ·exact hd b z (V0 _ (e▸c))
       refine⟨E++i,?_,Wq.mpr ⟨o,l,C⟩,λa c=>?_⟩
       · have:(if bV (fs.map (·.1)) f=true then d::cW (fs.map (·.1)) ds f x else (d::ds)++[x])=d::(if bV (fs.map (·.1)) f=true then cW (fs.map (·.1)) ds f x else ds++[x]):=by split<;>rfl
         rw[this,Owf];exact⟨g,_,z,_,E,i,rfl,rfl,rfl,L,w⟩
       · rcases VW.mp c with z|z
         ·exact .inl (V0 _ z)
         · rcases F a z with z|z
           ·exact .inl (VS _ z)
           ·exact .inr z
def b6(c:Nat)(f:Str)(i:Nat)(me:P1->Out D):P1->SO:=λT=>fW (me T) λx a=>match rg a i with
 |some d=>(match lO c f x d with|some d'=>.nx (a.set i (some d'))|none=>.bad)
 |none=>.bad
theorem JW{K':KT D V}{c:Nat}{f:Str}{i:Nat}{sh:List (Str×Sh)}{te:TE}{me:P1->Out D}(hc:Cls K (Y c))(hn:NoAttr K (Y c) f)(hm:M.getD i .F= .O (.ob sh))(he:MJ Y K' E M te me)
 (r:∀B U H d v N,K' d v B U H N->∃N',(N'=[]\/N'=N)/\Ow Y B H d ((sh.lookup f).getD .fz) v N'):SJ Y E Kr pr M (Ce K (cF i) te f) (b6 c f i me):=by
 intro B U As Z H T D R P;refine he.bndS R P λx s y I U1 g H1 N m e1 n1 hx W=>?_;obtain⟨N',hN,ow⟩:=r _ _ _ _ _ _ hx
 have J:NewM N' U1 g:=by
  rcases hN with e|e
  ·subst e;exact NewM.nil
  ·subst e;exact n1
 have l:=m.lo i;cases e:rg s i with
 |none=>rw[e]at W;exact W.elim
 |some d=>
   rw[e]at W;replace W:So Y E Kr pr M I U1 Z (match lO c f x d with|some d'=>.nx (s.set i (some d'))|none=>.bad) D:=W;rw[e,hm]at l;obtain⟨v,hv,w⟩:=l;cases d with
   |obj p ns vs=>
     have ep:lO c f x (.obj p ns vs)=if p=c/\ns.length<900 then some (if bV ns f=true then .obj p ns (cW ns vs f x) else .obj p (ns++[f]) (vs++[x])) else none:=rfl
     rw[ep]at W;by_cases q:p=c/\ns.length<900
     · rw[VL q]at W;obtain⟨q1,q2⟩:=q;subst q1;have w:Ow Y I H1 (.obj p ns vs) (.ob sh) v (g i):=w;rw[Ow]at w;obtain⟨a,dx,fs,A',rfl,h1,h2,X,h4⟩:=w;subst h2;have nd:=m.nd i;rw[X]at nd;obtain⟨nd1,nd2⟩:=Wc.mp nd;have n:a∈g i:=by rw[X];exact VP
       obtain⟨o,w2,nda,hA⟩:=Owf.put ow J.nd h4 nd2 (λb h A=>J.ap b h i (by rw[X];exact VR _ A))
       have S:a∉o:=λz=>by
        rcases hA a z with z|z
        ·exact nd1 z
        ·exact J.ap a z i n
       refine⟨.ref a,bP hv,a,_,dx,fs,rfl,h1,hc,hn,by rw[VO]at q2;omega,?_⟩
       have w3:Ow Y I (upd H1 a (.ins (Y p) dx (eQ f y fs))) (if bV (fs.map (·.1)) f=true then .obj p (fs.map (·.1)) (cW (fs.map (·.1)) vs f x) else .obj p (fs.map (·.1)++[f]) (vs++[x])) (.ob sh) (.ref a) (a::o):=by
        have C:=Owf.mono (H':=upd H1 a (.ins (Y p) dx (eQ f y fs))) (Same.refl I) (λb h=>ao (λz:b=a=>S (z▸h))) w2;have G:=qe (f:=f) (y:=y) (fs:=fs);by_cases k:bV (fs.map (·.1)) f=true
        ·rw[VL k]at G C ⊢;rw[Ow];rw[G]at C;exact⟨a,dx,_,o,rfl,az,G,rfl,C⟩
        ·rw[on k]at G C ⊢;rw[Ow];rw[G]at C;exact⟨a,dx,_,o,rfl,az,G,rfl,C⟩
       have hi:i<s.length:=(V6.mp (bP e)).1;refine W Z I U1 (λj=>if j=i then a::o else g j) _ ⟨m.bu,λb u z=>?_,λj=>?_,λj k b Q h r=>?_,λj b h=>?_,λj=>?_,by rw[Wd];exact m.len,m.tb⟩ (Ex.refl _ _) (Kp.refl _ _)
       ·rw[ao (aR z (m.un i a n))];exact m.uh b u z
       · show(if j=i then a::o else g j).Nodup;split
         ·exact Wc.mpr ⟨S,nda⟩
         ·exact m.nd j
       · replace h:b∈(if j=i then a::o else g j):=h;replace r:b∈(if k=i then a::o else g k):=r
         have L:∀{j},j≠i->b∈a::o->b∈g j->False:=λ{j} hj A t=>by
          rcases VY.mp A with z|z
          ·exact m.dj i j b (Xp hj) (by rw[z];exact n) t
          · rcases hA b z with z|z
            ·exact m.dj i j b (Xp hj) (by rw[X];exact VR _ z) t
            ·exact J.ap b z j t
         split at h
         · rename_i z1;split at r
           ·rename_i z2;exact Q (z1.trans z2.symm)
           ·rename_i z2;exact L z2 h r
         · rename_i z1;split at r
           ·exact L z1 r h
           ·exact m.dj j k b Q h r
       · replace h:b∈(if j=i then a::o else g j):=h;split at h
         · rcases VY.mp h with z|z
           ·rw[z];exact m.un i a n
           · rcases hA b z with z|z
             ·exact m.un i b (by rw[X];exact VR _ z)
             ·exact J.un b z
         ·exact m.un j b h
       · rw[cV];show Lo Y I U1 _ (M.getD j .F) _ _ (if j=i then a::o else g j);by_cases z:i=j
         ·subst z;rw[VL ⟨rfl,hi⟩,VL rfl,hm];exact⟨.ref a,hv,w3⟩
         ·rw[on λy=>z y.1,on λy=>z y.symm];exact(m.lo j).mono (Same.refl _) (Same.refl _) λb h=>ao (λy:b=a=>m.dj i j a z n (y▸h))
     ·rw[on q]at W;exact W.elim
   |_=>exact W.elim
theorem Mf{c:Nat}{f:Str}{i:Nat}{sh:List (Str×Sh)}{te:TE}{me:P1->Out D}(h:Cls K (Y c))(a:NoAttr K (Y c) f)(b:M.getD i .F= .O (.ob sh))(e:(sh.lookup f).getD .fz=.fz)(g:MJ Y (KR Y .F) E M te me):SJ Y E Kr pr M (Ce K (cF i) te f) (b6 c f i me):=
 JW h a b g λB U H d v N k=>⟨[],.inl rfl,by rw[e,Ow];exact⟨k,rfl⟩⟩
theorem Me{c:Nat}{f:Str}{i:Nat}{sh:List (Str×Sh)}{s:Sh}{te:TE}{me:P1->Out D}(h:Cls K (Y c))(a:NoAttr K (Y c) f)(b:M.getD i .F= .O (.ob sh))(e:(sh.lookup f).getD .fz=s)(g:MJ Y (KO Y s) E M te me):SJ Y E Kr pr M (Ce K (cF i) te f) (b6 c f i me):=
 JW h a b g λB U H d v N k=>⟨N,.inr rfl,by rw[e];exact k⟩
def gZ(Y:Cm)(M:List Md)(Kr:KT D V)(a:List D->Out D):Sp:=λvs H Q _=>vK Y M Kr a vs H Q E0
def qg(M:List Md)(a:Nat):Nat->Bool:=λj=>decide (j<a)&&(match M.getD j .F with | .O _=>true|_=>false)
theorem wk{W:Type}{l:List (Option W)}{n i:Nat}:rg (l++List.replicate n none) i=rg l i:=by
 unfold rg;by_cases h:i<l.length
 ·rw[WB h]
 · rw[Ww (by omega),Wb (show l.length<=i by omega)];by_cases a:i-l.length<n
   ·rw[Xq,VL a];rfl
   ·rw[Xq,on a]
def kS(k:Nat)(a:P1->SO)(ds:List D):Out D:=match a (ds.map some++List.replicate (k-ds.length) none) with
 |.rt d T=>.ok d T
 |.exc c T=>.exc c T
 |_=>.bad
theorem Rel.enter{more:List Md}{vs:List V}{ds:List D}{n:Nat}(R:Rel Y M B U As (vs.map some) H (ds.map some))(a:vs.length=M.length):Rel Y (M++more) B U As (vs.map some++List.replicate n none) H (ds.map some++List.replicate n none):=by
 have hd:ds.length=vs.length:=by have:=R.len;rw[VO,VO]at this;exact this
 refine⟨R.bu,R.uh,R.nd,R.dj,R.un,λi=>?_,by rw[VQ,VQ,R.len,WN,WN],R.tb⟩;rw[wk,wk];have l:=R.lo i;by_cases h:i<M.length
 ·rw[V5,WB h,<-V5];exact l
 · have:rg (ds.map some) i=none:=by rw[dH,Wb (by omega)]
   rw[this]at l ⊢;exact l
theorem Rel.leave{more:List Md}{vs:List V}{d:St}{G:P1}{n:Nat}(h:vs.length=M.length)(R:Rel Y (M++more) B U As d H G)(k:Kp (qg M M.length) (vs.map some++List.replicate n none) d):
 ∃C,Rel Y M B U C (vs.map some) H (fI M G)/\∀N,NewM N U As->NewM N U C:=by
 refine⟨λi=>if qg M M.length i=true then As i else [],⟨R.bu,R.uh,λi=>?_,λi j a g b f=>?_,λi a b=>?_,λi=>?_,?_,R.tb⟩,λN n=>⟨n.nd,n.un,λa b i=>?_⟩⟩
 · show(if qg M M.length i=true then As i else []).Nodup;split
   ·exact R.nd i
   ·exact WE
 · replace b:a∈(if qg M M.length i=true then As i else []):=b;replace f:a∈(if qg M M.length j=true then As j else []):=f;split at b
   · split at f
     ·exact R.dj i j a g b f
     ·cases f
   ·cases b
 · replace b:a∈(if qg M M.length i=true then As i else []):=b;split at b
   ·exact R.un i a b
   ·cases b
 · show Lo Y B U H (M.getD i .F) (rg (fI M G) i) (rg (vs.map some) i) (if qg M M.length i=true then As i else []);by_cases hi:i<M.length
   · have m:(M++more).getD i .F=M.getD i .F:=by
      rw[V5,WB hi,<-V5]
     cases c:M.getD i .F with
     |O s=>
       have hp:qg M M.length i=true:=by unfold qg;rw[c,decide_eq_true hi];rfl
       rw[VL hp,lj c];have l:=R.lo i;rw[m,c,k i hp,wk]at l;exact l
     |F=>
       have hp:qg M M.length i=false:=by unfold qg;rw[c];simp
       have e:rg (fI M G) i=none:=by
        unfold fI rg;rw[List.getElem?_map,List.getElem?_range hi];show(some (match M.getD i .F with | .O _=>_|_=>none)).join=none;rw[c];rfl
       rw[hp,e];exact rfl
     |R=>
       have hp:qg M M.length i=false:=by unfold qg;rw[c];simp
       have e:rg (fI M G) i=none:=by
        unfold fI rg;rw[List.getElem?_map,List.getElem?_range hi];show(some (match M.getD i .F with | .O _=>_|_=>none)).join=none;rw[c];rfl
       rw[hp,e];exact rfl
   · have hp:qg M M.length i=false:=by unfold qg;rw[decide_eq_false hi];rfl
     have e:rg (fI M G) i=none:=by
      unfold fI rg;rw[List.getElem?_eq_none (by rw[List.length_map,List.length_range];omega)];rfl
     rw[hp,e];exact rfl
 ·unfold fI;rw[List.length_map,List.length_map,List.length_range,h]
 · show a∉(if qg M M.length i=true then As i else []);split
   ·exact n.ap a b i
   ·simp
theorem Je{more:List Md}{t:TS}{a:P1->SO}{N:List Str}{vs:List V}{Q:VK}{n:List D->Out D}(s:SJ Y E0 Kr (qg M M.length) (M++more) t a)(w:N.length=M.length+more.length)(m:n=run N.length a)(r:∀B U H,Kr .non .non B U H [])
 (h:vK Y M Kr n vs H Q E0):t {nx:=λ_ H'=>Q .non H',rt:=Q} (L2.gY N vs) H:=by
 obtain⟨B,U,As,ds,R,k,P⟩:=h;subst m;have hd:ds.length=vs.length:=by have:=R.len;rw[VO,VO]at this;exact this
 unfold L2.gY;refine s B U As _ H (ds.map some++List.replicate (N.length-vs.length) none) _ (R.enter k) ?_;unfold run at P;rw[hd]at P;cases e:a (ds.map some++List.replicate (N.length-vs.length) none) with
 |nx G=>
   rw[e]at P;intro f S J C H' j i g;obtain⟨b,R2,l⟩:=j.leave k g;exact P .non S J b H' [] R2 i NewM.nil (r _ _ _)
 |rt d G=>
   rw[e]at P;intro v f S J C H' u j i g p q;obtain⟨b,R2,l⟩:=j.leave k g;exact P v S J b H' u R2 i (l _ p) q
 |exc c G=>
   rw[e]at P;intro f S J C H' j i g o;obtain⟨b,R2,l⟩:=j.leave k g;exact P S J b H' R2 i o
 |bk G=>rw[e]at P;exact P.elim
 |ct G=>rw[e]at P;exact P.elim
 |bad=>rw[e]at P;exact P.elim
theorem Fh{more:List Md}{t:TS}{a:P1->SO}{N:List Str}{vs:List V}{Q:VK}{n:List D->Out D}(r:SJ Y E0 Kr (qg M M.length) (M++more) t a)(u:N.length=M.length+more.length)(j:n=kS N.length a)
 (h:vK Y M Kr n vs H Q E0):t {nx:=λ_ H'=>Q .non H',rt:=Q} (L2.gY N vs) H:=by
 obtain⟨B,U,As,ds,R,i,P⟩:=h;subst j;have hd:ds.length=vs.length:=by have:=R.len;rw[VO,VO]at this;exact this
 unfold L2.gY;refine r B U As _ H (ds.map some++List.replicate (N.length-vs.length) none) _ (R.enter i) ?_;unfold kS at P;rw[hd]at P;cases e:a (ds.map some++List.replicate (N.length-vs.length) none) with
 |nx G=>rw[e]at P;exact P.elim
 |rt d G=>
   rw[e]at P;intro v f S J C H' s l k g p q;obtain⟨b,R2,m⟩:=l.leave i g;exact P v S J b H' s R2 k (m _ p) q
 |exc c G=>
   rw[e]at P;intro f S J C H' l k g o;obtain⟨b,R2,m⟩:=l.leave i g;exact P S J b H' R2 k o
 |bk G=>rw[e]at P;exact P.elim
 |ct G=>rw[e]at P;exact P.elim
 |bad=>rw[e]at P;exact P.elim
theorem xX{vs:List V}{Q:VK}{b:List D->Out D}(h:vK Y M Kr b vs H Q E):vs.length=M.length:=by
 obtain⟨_,_,_,_,_,a,_⟩:=h;exact a
end
end Mi
namespace Mi
open PySem PySem.Spec L2
mutual
def toPy:D->Option PyData
 |.non=>some .none
 |.bl b=>some (.bool b)
 |.int i=>some (.int i)
 |.str x=>some (.str x)
 |.lst xs=>(toPys xs).map .list
 |.scr xs=>(toPys xs).map .list
 |.tup xs=>(toPys xs).map .tuple
 |.ty _=>none
 |.dK _ _=>none
 |.dT _ _=>none
 |.obj _ _ _=>none
def toPys:List D->Option (List PyData)
 |[]=>some []
 | d::r=>match toPy d,toPys r with
   |some p,some q=>some (p::q)
   |_,_=>none
end
section
variable{Y:Cm}{E:XK}{Kr:KT D V}{pr:Nat->Bool}{M:List Md}{B U H:Hp}{As:Nat->List Addr}{Z:St}{T:P1}{K:F0}
mutual
theorem den_of:∀{d:D} {p:PyData} {v:V},toPy d=some p->Dn Y H d v->L2.Den Y.K H p v
 |.non,p,v,e,h=>by rw[Dn]at h;cases e;rw[L2.Den];exact h
 |.bl _,p,v,e,h=>by rw[Dn]at h;cases e;rw[L2.Den];exact h
 |.int _,p,v,e,h=>by rw[Dn]at h;cases e;rw[L2.Den];exact h
 |.str _,p,v,e,h=>by rw[Dn]at h;cases e;rw[L2.Den];exact h
 | .lst xs,p,v,e,h=>by
   rw[Dn]at h;obtain⟨a,b,rfl,f,c⟩:=h;rw[toPy]at e;obtain⟨ps,e1,rfl⟩:=V7.mp e;rw[L2.Den];exact⟨a,b,rfl,SqL.of f,dens_of e1 c⟩
 | .scr xs,p,v,e,h=>by
   rw[Dn]at h;obtain⟨a,b,rfl,f,c⟩:=h;rw[toPy]at e;obtain⟨ps,e1,rfl⟩:=V7.mp e;rw[L2.Den];exact⟨a,b,rfl,f.sq,dens_of e1 c⟩
 | .tup xs,p,v,e,h=>by
   rw[Dn]at h;obtain⟨a,b,rfl,f,c⟩:=h;rw[toPy]at e;obtain⟨ps,e1,rfl⟩:=V7.mp e;rw[L2.Den];exact⟨a,b,rfl,SqT.of f,dens_of e1 c⟩
 |.ty _,p,v,e,h=>by cases e
 |.dK _ _,p,v,e,h=>by cases e
 |.dT _ _,p,v,e,h=>by cases e
 |.obj _ _ _,p,v,e,h=>by cases e
theorem dens_of:∀{ds:List D} {ps:List PyData} {xs:List V},toPys ds=some ps->Dns Y H ds xs->L2.Dens Y.K H ps xs
 |[],ps,xs,e,h=>by rw[Dns]at h;rw[toPys]at e;cases e;rw[L2.Dens];exact h
 | d::ds,ps,xs,e,h=>by
   rw[Dns]at h;obtain⟨x,r,rfl,c,b⟩:=h;rw[toPys]at e;cases e1:toPy d with
   |none=>rw[e1]at e;cases e
   |some p=>
     cases a:toPys ds with
     |none=>rw[e1,a]at e;cases e
     |some q=>
       rw[e1,a]at e;cases e;rw[L2.Dens];exact⟨x,r,rfl,den_of e1 c,dens_of a b⟩
end
def Li(neg:Bool)(x y:D):Res D:=match toPy x,toPy y with
 |some p,some q=>if SeqAt.shaped p=true/\SeqAt.shaped q=true then .ok (.bl (neg.xor (PyData.eqv p q))) else .bad
 |_,_=>.bad
theorem Mj{neg:Bool}:S2 Y (CP Y.K neg) (Li neg):=by
 intro H x y v u b a;unfold Li;cases e1:toPy x with
 |none=>trivial
 |some p=>
   cases c:toPy y with
   |none=>trivial
   |some q=>
     dsimp only;by_cases z:SeqAt.shaped p=true/\SeqAt.shaped q=true
     ·rw[VL z];refine⟨.bl _,λ_=>by rw[Dn],λQ h=>⟨p,q,den_of e1 b,den_of c a,z.1,z.2,?_⟩⟩;cases neg<;>simpa using h
     ·rw[on z];trivial
def Ld(x y:D):Res D:=match toPy x,toPy y with
 |some p,some (.list xs)=>if SeqAt.shaped p=true/\SeqAt.shaped (.list xs)=true/\(xs.all λz=>SeqAt.noMix z p)=true then .ok (.bl (decide (countIn p xs≠0))) else .bad
 |_,_=>.bad
theorem Q4:S2 Y (λx y H Q=>∃d xs,L2.Den Y.K H d x/\L2.Den Y.K H (.list xs) y/\SeqAt.shaped d=true/\SeqAt.shaped (.list xs)=true/\(∀z∈xs,SeqAt.noMix z d=true)/\Q (.bl (decide (countIn d xs≠0))) H) Ld:=by
 intro H x y v u b a;unfold Ld;cases e1:toPy x with
 |none=>trivial
 |some p=>
   cases c:toPy y with
   |none=>trivial
   |some q=>
     cases q with
     |list xs=>
       dsimp only;by_cases z:SeqAt.shaped p=true/\SeqAt.shaped (.list xs)=true/\(xs.all λz=>SeqAt.noMix z p)=true
       ·rw[VL z];exact⟨.bl _,λ_=>by rw[Dn],λQ h=>⟨p,xs,den_of e1 b,den_of c a,z.1,z.2.1,λy a=>WW.mp z.2.2 y a,h⟩⟩
       ·rw[on z];trivial
     |_=>trivial
def vQ:D->Option String
 |.non=>some "NoneType" | .bl _=>some "bool" | .int _=>some "int" | .str _=>some "str" | .lst _=>some "list" | .tup _=>some "tuple" | .dK _ _=>some "dict" | .dT _ _=>none
 |.ty _=>none | .obj _ _ _=>none | .scr _=>none
def kit(t n:String):Option Bool:=PySem.W.kitOne [] (.type t) (.type n)
def E7(x y:D):Res D:=match y,vQ x with
 |.ty n,some t=>(match kit t n with|some b=>.ok (.bl b)|none=>.bad)
 |_,_=>.bad
theorem Ab{d:D}{v:V}{t:String}(e:vQ d=some t)(h:Dn Y H d v):TyOf K H v (.type t):=by
 cases d with
 |non=>rw[Dn]at h;cases e;subst h;exact .non
 |bl b=>rw[Dn]at h;cases e;subst h;exact .bl b
 |int i=>rw[Dn]at h;cases e;subst h;exact .int i
 |str x=>rw[Dn]at h;cases e;subst h;exact .str x
 |lst _=>rw[Dn]at h;cases e;obtain⟨a,xs,rfl,c,_⟩:=h;exact .lst c
 |scr _=>cases e
 |tup _=>rw[Dn]at h;cases e;obtain⟨a,xs,rfl,c,_⟩:=h;exact .tup c
 |dK _ _=>rw[Dn]at h;cases e;obtain⟨a,xs,rfl,c,_⟩:=h;exact .dK c
 |dT _ _=>cases e
 |ty _=>cases e
 |obj _ _ _=>cases e
theorem Q3:S2 Y (λv u H Q=>∃x c t b,[v,u]=[x,.ty c]/\TyOf K H x t/\PySem.W.kitOne K t (.type c)=some b/\Q (.bl b) H) E7:=by
 intro H x y v u d a;unfold E7;cases y with
 |ty n=>
   cases e:vQ x with
   |none=>trivial
   |some t=>
     dsimp only;cases f:kit t n with
     |none=>trivial
     |some b=>
       rw[Dn]at a;subst a;exact⟨.bl b,λ_=>by rw[Dn],λQ h=>⟨v,n,_,b,rfl,Ab e d,f,h⟩⟩
 |_=>trivial
def GM(i:Nat):P1->Out D:=λT=>match rg T i with|some d=>.ok d (T.set i none)|none=>.bad
theorem Rel.take(R:Rel Y M B U As Z H T)(i:Nat):Rel Y M B U (λj=>if j=i then [] else As j) Z H (T.set i none)/\∀a∈As i,U a=none/\∀j,a∉(λj=>if j=i then [] else As j) j:=by
 refine⟨⟨R.bu,R.uh,λj=>?_,λj k a f b d=>?_,λj a b=>?_,λj=>?_,by rw[Wd];exact R.len,R.tb⟩,λa b=>⟨R.un i a b,λj c=>?_⟩⟩
 · show(if j=i then [] else As j).Nodup;split
   ·exact WE
   ·exact R.nd j
 · replace b:a∈(if j=i then [] else As j):=b;replace d:a∈(if k=i then [] else As k):=d;split at b
   ·cases b
   · split at d
     ·cases d
     ·exact R.dj j k a f b d
 · replace b:a∈(if j=i then [] else As j):=b;split at b
   ·cases b
   ·exact R.un j a b
 · show Lo Y B U H (M.getD j .F) (rg (T.set i none) j) (rg Z j) (if j=i then [] else As j);rw[cV];by_cases e:i=j
   · subst e;rw[VL rfl];by_cases h:i<T.length
     ·rw[VL ⟨rfl,h⟩];exact rfl
     · rw[on λz=>h z.2]
       have:rg T i=none:=by unfold rg;rw[List.getElem?_eq_none (by omega)];rfl
       rw[this];exact rfl
   ·rw[on λz=>e z.1,on λz=>e z.symm];exact R.lo j
 · replace c:a∈(if j=i then [] else As j):=c;split at c
   ·cases c
   ·rename_i z;exact R.dj i j a (λq=>z q.symm) b c
theorem Vp{i:Nat}{s:Sh}(g:M.getD i .F= .O s):MJ Y (KO Y s) E M (cF i) (GM i):=by
 intro B U As Z H T Q R P;unfold GM at P;have l:=R.lo i;cases e:rg T i with
 |none=>rw[e]at P;exact P.elim
 |some d=>
   rw[e]at P;rw[e,g]at l;obtain⟨v,f,w⟩:=l;obtain⟨R2,c⟩:=R.take i;exact⟨v,bP f,P v B U _ H (As i) R2 (Ex.refl _ _) ⟨R.nd i,λa b=>(c a b).1,λa b=>(c a b).2⟩ w⟩
def aT:D->Bool | .int _=>true | .bl _=>true | .non=>true | .str _=>true|_=>false
def lN:D->Bool
 |.lst xs=>xs.all aT
 |.scr xs=>xs.all aT
 |.tup xs=>xs.all aT
 |.dK _ xs=>xs.all aT
 |.dT _ xs=>xs.all aT
 |.obj _ _ xs=>xs.all aT
 |d=>aT d
def o8(m:P1->Res D):P1->Res D:=λT=>(m T).bind λd=>if lN d=true then .ok d else .bad
theorem ft{G a:Hp}{d:D}{v:V}(h:aT d=true)(q:Dn Y G d v):Dn Y a d v:=by
 cases d with
 |int _=>rw[Dn]at q ⊢;exact q
 |bl _=>rw[Dn]at q ⊢;exact q
 |non=>rw[Dn]at q ⊢;exact q
 |str _=>rw[Dn]at q ⊢;exact q
 |_=>cases h
theorem dM{G c:Hp}:∀{ds:List D} {xs:List V},ds.all aT=true->Dns Y G ds xs->Dns Y c ds xs
 |[],_,_,q=>by rw[Dns]at q ⊢;exact q
 | d::ds,_,h,q=>by
   rw[List.all_cons,Xr]at h;rw[Dns]at q ⊢;obtain⟨x,r,e,b,a⟩:=q;exact⟨x,r,e,ft h.1 b,dM h.2 a⟩
theorem cS{k i:Kd}{t:TE}{m:P1->Res D}(h:PJ Y (KC Y k) E M t m):PJ Y (KC Y i) E M t (o8 m):=by
 intro B U As Z H T Q R P;refine h.bnd R P λx v I U1 H1 L _ j e1 l e W=>?_;by_cases z:lN x=true
 · rw[VL z]at W;refine W v I U1 H1 [] j (Gw.refl _ _ _) New.nil ?_;cases x with
   |lst ds=>obtain⟨a,xs,r,d,b⟩:=e;exact⟨a,xs,r,d,dM z b⟩
   |scr ds=>obtain⟨a,xs,r,d,b⟩:=e;exact⟨a,xs,r,d,dM z b⟩
   |tup ds=>obtain⟨a,xs,r,d,b⟩:=e;exact⟨a,xs,r,d,dM z b⟩
   |dK g ds=>obtain⟨a,xs,r,d,b,f⟩:=e;exact⟨a,xs,r,d,b,dM z f⟩
   |dT g ds=>obtain⟨a,xs,r,d,b,f⟩:=e;exact⟨a,xs,r,d,b,dM z f⟩
   |obj c ns ds=>obtain⟨a,dx,xs,r,d,b,f⟩:=e;exact⟨a,dx,xs,r,d,b,dM z f⟩
   |int _=>exact ft (G:=hp k I U1 H1) z e
   |bl _=>exact ft (G:=hp k I U1 H1) z e
   |non=>exact ft (G:=hp k I U1 H1) z e
   |str _=>exact ft (G:=hp k I U1 H1) z e
   |ty _=>cases z
 ·rw[on z]at W;exact W.elim
theorem rS{k:Kd}{t:TE}{m:P1->Res D}(h:PJ Y (KR Y .X) E M t m):PJ Y (KR Y .F) E M t (λT=>(m T).bind λd=>if aT d=true then .ok d else .bad):=by
 intro B U As Z H T Q R P;refine h.bnd R P λx v I U1 H1 L _ b e1 c a W=>?_;by_cases z:aT x=true
 ·rw[VL z]at W;exact W v I U1 H1 [] b (Gw.refl _ _ _) New.nil (ft z a)
 ·rw[on z]at W;exact W.elim
def kD:ay->D | .inl i=>.int i | .inr x=>.str x
def yG:D->Res D | .dT a _=>.ok (.lst (a.map λk=>.tup (k.map kD)))|_=>.bad
theorem r8{G:Hp}:∀k:List ay,Dns Y G (k.map kD) (k.map kV)
 |[]=>by rw[WO,WO,Dns]
 | x::k=>by
   rw[VN,VN,Dns];refine⟨_,_,rfl,?_,r8 k⟩;cases x with
   |inl i=>show Dn Y G (.int i) (.int i);rw[Dn]
   |inr i=>show Dn Y G (.str i) (.str i);rw[Dn]
theorem Dns.of_get{G:Hp}:∀{ds:List D} {xs:List V},ds.length=xs.length->(∀(i:Nat) d x,ds[i]?=some d->xs[i]?=some x->Dn Y G d x)->Dns Y G ds xs
 | [],xs,h,_=>by
   rw[Dns];exact Wx.mp h.symm
 |d::ds,[],h,_=>by cases h
 | d::ds,x::xs,h,k=>by
   rw[Dns];exact⟨x,xs,rfl,k 0 d x rfl rfl,Dns.of_get (by simpa using h) λi d x e1 a=>k (i+1) d x (by simpa using e1) (by simpa using a)⟩
theorem Ii{k:Kd}{ta:TE}{p:P1->Res D}(h:PJ Y (KC Y k) E M ta p):PJ Y (KO Y (.ct .fz)) E M (tF (λxs H Q=>∃a kvs,xs=[.ref a]/\Rd H a (.dT kvs)/\
 ∀(g:List Addr) (l:Addr),g.length=kvs.length->(∀(i:Nat) k v b,kvs[i]?=some (k,v)->g[i]?=some b->H b=some (.tup (k.map kV)))->H l=none->Q (.ref l) (upd H l (.lst (g.map V.ref)))) (aM ta bO)) (un yG p):=by
 intro B U As Z H T Q R P;refine h.bnd R P λx v I U1 H1 L _ f e1 S N W=>?_;cases x with
 |dT g ds=>
   obtain⟨a,kvs,rfl,J,s,h3⟩:=N;refine⟨a,kvs,rfl,J,λbs l C r A=>?_⟩
   have c:∀b∈bs,∃o,H1 b=some o/\d7 o:=λb m=>by
    obtain⟨i,hi,e⟩:=X6 m;have G:bs[i]?=some b:=by rw[<-e];exact V4 hi
    have F:kvs[i]?=some (kvs[i]'(by omega)):=V4 (by omega);exact⟨_,r i _ _ b (by rw[F]) G,_,rfl⟩
   have R2:Rel Y M (Mi.frz I H1 bs) (Mi.frz U1 H1 bs) As Z H1 T:=f.grow (bo f.bh) (bo f.uh) (Same.refl _) (j5 f.bu) (mO f.uh) λi a h=>by
    unfold Mi.frz;split
    ·rename_i z;obtain⟨o,e,t⟩:=c a z;exact(f.nt h e t).elim
    ·exact f.un i a h
   have K:Gw I U1 H1 (Mi.frz I H1 bs) (Mi.frz U1 H1 bs) H1:=by
    refine⟨⟨bo f.bh,bo f.uh,λa o q=>?_⟩,Same.refl _,λa o q=>?_⟩
    · unfold Mi.frz at q;split at q
      ·rename_i z;obtain⟨o',e,t⟩:=c a z;rw[e]at q;cases q;exact .inr (.inr t)
      ·exact .inl q
    · unfold Mi.frz at q;split at q
      ·rename_i z;obtain⟨o',e,t⟩:=c a z;rw[e]at q;cases q;exact .inr (.inr t)
      ·exact .inl q
   have O:Po Y (KO Y (.ct .fz)) E M (Mi.frz I H1 bs) (Mi.frz U1 H1 bs) As Z H1 T (.ok (.lst (g.map λk=>.tup (k.map kD)))) Q:=Po.at W K;refine dO R2 O (Dns.of_get (by rw[List.length_map,List.length_map,C,<-s,List.length_map]) λi d x w ex=>?_) A;rw[List.getElem?_map]at w ex;obtain⟨X,u,rfl⟩:=Option.map_eq_some_iff.mp w;obtain⟨b,y,rfl⟩:=Option.map_eq_some_iff.mp ex;rw[<-s,List.getElem?_map]at u;obtain⟨j,n,rfl⟩:=Option.map_eq_some_iff.mp u;have m:=r i j.1 j.2 b n y;rw[Dn];refine⟨b,_,rfl,?_,r8 j.1⟩;unfold Mi.frz;rw[if_pos (List.mem_of_getElem? y)];exact m
 |_=>exact W.elim
def bQ:List D->Option (List Int)
 |[]=>some []
 |.int i::r=>(bQ r).map (i::·)
 |_::_=>none
theorem gA{G:Hp}:∀{ds:List D} {ns:List Int} {xs:List V},bQ ds=some ns->Dns Y G ds xs->xs=ns.map V.int
 |[],ns,xs,e,h=>by rw[Dns]at h;cases e;rw[h];rfl
 | d::ds,ns,xs,e,h=>by
   rw[Dns]at h;obtain⟨x,r,rfl,a,b⟩:=h;cases d with
   |int i=>
     rw[bQ]at e;obtain⟨M,e1,rfl⟩:=V7.mp e;rw[Dn]at a;rw[gA e1 b,a,VN]
   |_=>cases e
def cX:List Int->Int->Int
 |[],m=>m
 |x::r,m=>cX r (if x<m then x else m)
def fZ:List Int->Int->Int
 |[],m=>m
 |x::r,m=>fZ r (if m<x then x else m)
theorem iE:∀(l:List Int) (m:Int),(cX l m=m\/cX l m∈l)/\cX l m<=m/\∀x∈l,cX l m<=x
 |[],m=>⟨.inl rfl,Int.le_refl _,λ_ h=>(nomatch h)⟩
 | x::r,m=>by
   unfold cX;obtain⟨a,b,d⟩:=iE r (if x<m then x else m);refine⟨?_,?_,λy c=>?_⟩
   · rcases a with a|a
     · by_cases z:x<m
       ·rw[VL z]at a ⊢;exact .inr (by rw[a];exact VP)
       ·rw[on z]at a ⊢;exact .inl a
     ·exact .inr (VR _ a)
   ·split at b<;>split<;>omega
   · rcases VY.mp c with z|z
     ·subst z;split at b<;>split<;>omega
     ·exact d y z
theorem jl:∀(l:List Int) (m:Int),(fZ l m=m\/fZ l m∈l)/\m<=fZ l m/\∀x∈l,x<=fZ l m
 |[],m=>⟨.inl rfl,Int.le_refl _,λ_ h=>(nomatch h)⟩
 | x::r,m=>by
   unfold fZ;obtain⟨a,b,d⟩:=jl r (if m<x then x else m);refine⟨?_,?_,λy c=>?_⟩
   · rcases a with a|a
     · by_cases z:m<x
       ·rw[VL z]at a ⊢;exact .inr (by rw[a];exact VP)
       ·rw[on z]at a ⊢;exact .inl a
     ·exact .inr (VR _ a)
   ·split at b<;>split<;>omega
   · rcases VY.mp c with z|z
     ·subst z;split at b<;>split<;>omega
     ·exact d y z
def nP(f:List Int->Int->Int)(x d:D):Res D:=match x with
 |.lst ds=>(match bQ ds with|some []=>(if aT d=true then .ok d else .bad)|some (n::ns)=>.ok (.int (f ns n))|none=>.bad)
 |_=>.bad
theorem Ke{f:List Int->Int->Int}{ok:Int->Int->Prop}(sp:∀ns n m,m∈n::ns->(∀x∈n::ns,ok m x)->m=f ns n){ta o:TE}{r q:P1->Res D}(A:PJ Y (KR Y .X) E M ta r)(hd:PJ Y (KR Y .X) E M o q):
 PJ Y (KR Y .F) E M (Ae (λxs w H Q=>∃p ns d,xs=[.ref p]/\w=[d]/\SqL K H p (ns.map V.int)/\(ns=[]->Q d H)/\∀m∈ns,(∀x∈ns,ok m x)->Q (.int m) H) (aM ta bO) (aM o bO)) (bn (nP f) r q):=by
 intro B U As Z H T Q R P;refine A.bnd R P λx v I U1 H1 L _ J e1 O e W=>hd.bnd J W λy u j g i S _ R2 t N G b=>?_;have e:Dn Y H1 x v:=e;cases x with
 |lst ds=>
   rw[Dn]at e;obtain⟨a,xs,rfl,s,C⟩:=e;replace b:Po Y (KR Y .F) E M j g As Z i T (match bQ ds with|some []=>(if aT y=true then .ok y else .bad)|some (n::ns)=>.ok (.int (f ns n))|none=>.bad) Q:=b;cases c:bQ ds with
   |none=>rw[c]at b;exact b.elim
   |some ns=>
     have ex:=gA c C;subst ex;cases ns with
     |nil=>
       rw[c]at b;replace b:Po Y (KR Y .F) E M j g As Z i T (if aT y=true then .ok y else .bad) Q:=b;by_cases z:aT y=true
       ·rw[VL z]at b;exact⟨a,[],u,rfl,rfl,SqL.of (t.h _ _ s),λ_=>b u j g i [] R2 (Gw.refl _ _ _) New.nil (ft z G),λm k=>(nomatch k)⟩
       ·rw[on z]at b;exact b.elim
     |cons n ns=>
       rw[c]at b;refine⟨a,n::ns,u,rfl,rfl,SqL.of (t.h _ _ s),(λz=>by cases z),λm k l=>?_⟩;rw[sp ns n m k l];exact b _ j g i [] R2 (Gw.refl _ _ _) New.nil (show Dn Y _ (.int (f ns n)) _ by rw[Dn])
 |_=>exact b.elim
theorem M9{ta b:TE}{e c:P1->Res D}(j:PJ Y (KR Y .X) E M ta e)(hd:PJ Y (KR Y .X) E M b c):
 PJ Y (KR Y .F) E M (Ae (λxs f H Q=>∃p ns d,xs=[.ref p]/\f=[d]/\SqL K H p (ns.map V.int)/\(ns=[]->Q d H)/\∀m∈ns,(∀x∈ns,m<=x)->Q (.int m) H) (aM ta bO) (aM b bO)) (bn (nP cX) e c):=Ke (ok:=λm x=>m<=x) (λns n m i a=>by
 obtain⟨h,k,g⟩:=iE ns n;have l2:=a _ (h.elim (λz=>by rw[z];exact VP) (VR _));rcases VY.mp i with z|z
 ·rw[z]at l2 ⊢;omega
 ·have:=g m z;omega) j hd
theorem Nb{ta b:TE}{e c:P1->Res D}(j:PJ Y (KR Y .X) E M ta e)(hd:PJ Y (KR Y .X) E M b c):
 PJ Y (KR Y .F) E M (Ae (λxs f H Q=>∃p ns d,xs=[.ref p]/\f=[d]/\SqL K H p (ns.map V.int)/\(ns=[]->Q d H)/\∀m∈ns,(∀x∈ns,x<=m)->Q (.int m) H) (aM ta bO) (aM b bO)) (bn (nP fZ) e c):=Ke (ok:=λm x=>x<=m) (λns n m i a=>by
 obtain⟨h,k,g⟩:=jl ns n;have l2:=a _ (h.elim (λz=>by rw[z];exact VP) (VR _));rcases VY.mp i with z|z
 ·rw[z]at l2 ⊢;omega
 ·have:=g m z;omega) j hd
def nA:D->Res D
 |.lst ds=>(match bQ ds with|some ns=>(if ns.length<4000 then .ok (.int (dd ns).length) else .bad)|none=>.bad)
 |_=>.bad
theorem Di{ta:TE}{d:P1->Res D}(g:PJ Y (KR Y .X) E M ta d):PJ Y (KR Y .F) E M
 (tF (λxs H Q=>∃a S n,xs=[.ref a]/\H a=some (.set S n)/\Q (.int n) H) (aM (tF (λxs H Q=>∃p ns,xs=[.ref p]/\SqL K H p (ns.map V.int)/\ns.length<4000/\∀q,H q=none->Q (.ref q) (upd H q (.set (λk=>(dd ns).any (·==k)) (dd ns).length))) (aM ta bO)) bO)) (un nA d):=by
 intro B U As Z H T Q R P;refine g.bnd R P λx v I U1 H1 L _ f e1 j b W=>?_;have b:Dn Y H1 x v:=b;cases x with
 |lst ds=>
   rw[Dn]at b;obtain⟨a,xs,rfl,i,h⟩:=b;replace W:Po Y (KR Y .F) E M I U1 As Z H1 T (match bQ ds with|some ns=>(if ns.length<4000 then .ok (.int (dd ns).length) else .bad)|none=>.bad) Q:=W;cases c:bQ ds with
   |none=>rw[c]at W;exact W.elim
   |some ns=>
     have ex:=gA c h;subst ex;rw[c]at W;replace W:Po Y (KR Y .F) E M I U1 As Z H1 T (if ns.length<4000 then .ok (.int (dd ns).length) else .bad) Q:=W;by_cases z:ns.length<4000
     ·rw[VL z]at W;exact⟨a,ns,rfl,SqL.of i,z,λq e=>⟨q,_,_,rfl,az,W _ I U1 _ [] (f.new e) (Gw.newO f e) New.nil (show Dn Y _ (.int _) _ by rw[Dn])⟩⟩
     ·rw[on z]at W;exact W.elim
 |_=>exact W.elim
def ui:D->Option (Int×Int×List Int)
 |.tup [.int a,.int b,.lst xs]=>(bQ xs).map λns=>(a,b,ns)
 |_=>none
theorem A5{x:D}{a b:Int}{ns:List Int}(h:ui x=some (a,b,ns)):∃xs,x=.tup [.int a,.int b,.lst xs]/\bQ xs=some ns:=by
 unfold ui at h;split at h
 ·obtain⟨M,e,c⟩:=V7.mp h;cases c;exact⟨_,rfl,e⟩
 ·cases h
theorem eV{x:D}{v:V}{a b:Int}{ns:List Int}(e:ui x=some (a,b,ns))(c:Dn Y H x v):∃p l,v=.ref p/\SqT K H p [.int a,.int b,.ref l]/\SqL K H l (ns.map V.int):=by
 obtain⟨xs,rfl,q⟩:=A5 e;rw[Dn]at c;obtain⟨p,s,rfl,o,i⟩:=c;rw[Dns]at i;obtain⟨w,A,rfl,m,h⟩:=i;rw[Dns]at h;obtain⟨u,z,rfl,k,g⟩:=h;rw[Dns]at g;obtain⟨t,y,rfl,j,f⟩:=g;rw[Dns]at f;rw[Dn]at m;rw[Dn]at k;rw[Dn]at j;obtain⟨l,r,rfl,d,n⟩:=j;subst m k f;rw[gA q n]at d;exact⟨p,l,rfl,SqT.of o,SqL.of d⟩
def wC(x y:D):Res D:=match toPy x,toPy y with
 |some p,some (.list xs)=>if SeqAt.shaped p=true/\SeqAt.shaped (.list xs)=true/\(xs.all λz=>SeqAt.noMix z p)=true then .ok (.bl (!decide (countIn p xs≠0))) else .bad
 |_,_=>.bad
def CO(K:F0):R2:=λx y H Q=>∃d xs,L2.Den K H d x/\L2.Den K H (.list xs) y/\SeqAt.shaped d=true/\SeqAt.shaped (.list xs)=true/\(∀z∈xs,SeqAt.noMix z d=true)/\Q (.bl (!decide (countIn d xs≠0))) H
theorem Ma:S2 Y (CO Y.K) wC:=by
 intro H x y v u b a;unfold wC;cases e1:toPy x with
 |none=>trivial
 |some p=>
   cases c:toPy y with
   |none=>trivial
   |some q=>
     cases q with
     |list xs=>
       dsimp only;by_cases z:SeqAt.shaped p=true/\SeqAt.shaped (.list xs)=true/\(xs.all λz=>SeqAt.noMix z p)=true
       ·rw[VL z];exact⟨.bl _,λ_=>by rw[Dn],λQ h=>⟨p,xs,den_of e1 b,den_of c a,z.1,z.2.1,λy a=>WW.mp z.2.2 y a,h⟩⟩
       ·rw[on z];trivial
     |_=>trivial
theorem AG{X:Cx}(j:X.A.units+65<cLine):jI X (compareOp .NotIn) (CO X.K):=by
 intro G s Z H x y v u Q I e c h;obtain⟨d,xs,hd,k,b,a,i,q⟩:=h;obtain⟨l,g⟩:=den_reads I d hd e;obtain⟨bs,f⟩:=den_reads I _ k c;exact PyProof.Rows.notIn_list_dataH f g a b j i ⟨.bl _,H,I,rfl,q⟩
theorem Vu{A:Around}{k:Nat}(a:Room k A):A.units+65<cLine:=by have:=a.un;omega
end
end Mi
namespace Mi
open PySem L2
def fb:List Ap->List Md->Bool
 |[],[]=>true
 |p::ps,m::r=>rW [] true p m&&fb ps r
 |_,_=>false
theorem eF:∀{ps:List Ap} {mc:List Md},fb ps mc=true->ps.length=mc.length
 |[],[],_=>rfl
 |[],_::_,h=>by cases h
 |_::_,[],h=>by cases h
 | p::ps,m::r,h=>by
   have h:(rW [] true p m&&fb ps r)=true:=h;rw[Xr]at h;rw[VV,VV,eF h.2]
theorem eG{M:List Md}:∀{ps:List Ap} {mc:List Md},fb ps mc=true->∀(j:Nat) p,ps[j]?=some p->rW M true p (mc.getD j .F)=true
 |[],_,_,_,_,e=>by cases e
 |_::_,[],h,_,_,_=>by cases h
 | p::ps,m::r,h,j,q,e=>by
   have h:(rW [] true p m&&fb ps r)=true:=h;rw[Xr]at h;cases j with
   |zero=>
     cases e
     have:=h.1
     cases p <;> cases m <;> first | exact this | cases this
   |succ j=>rw[W8];exact eG h.2 j q (by simpa using e)
def pc(b:List D->Out D)(a:P1->Res (List D)):P1->Res D:=λT=>(a T).bind (fk b)
def pm(c:Nat)(b:Str)(d:List D->Out D)(o:P1->Res D)(a:P1->Res (List D)):P1->Res D:=λT=>(o T).bind λo=>if a8 c b o=true then (a T).bind λds=>fk d (o::ds) else .bad
def pk(c:Nat)(b:List D->Out D)(a:P1->Res (List D)):P1->Res D:=λT=>(a T).bind (f8 c b)
def mc(ps:List Ap)(b:List D->Out D)(a:P1->Res (List D)):P1->Out D:=λT=>((a T).up T).bind (bN ps b)
def mm(c:Nat)(b:Str)(ps:List Ap)(d:List D->Out D)(o:P1->Res D)(a:P1->Res (List D)):P1->Out D:=λT=>((o T).up T).bind λo T=>if a8 c b o=true then ((a T).up T).bind λds T=>bN ps d (o::ds) T else .bad
section
variable{Y:Cm}{Kr:KT D V}{pr:Nat->Bool}{M:List Md}{K:F0}
theorem Rv{a:List Md}{c:List D->Out D}{ps:List Ap}{t:TA}{m:P1->Res (List D)}(h:AJ Y E0 M ps t m)(b:fb ps a=true):PJ Y (KR Y .F) E0 M (ik (gZ Y a (KR Y .F) c) [] E0 t) (pc c m):=
 Dp h (eF b) (eG b) λ_ _ _ _ _ _ _ h=>h
theorem MZ{s:Sh}{a:List Md}{c:List D->Out D}{ps:List Ap}{t:TA}{m:P1->Res (List D)}(h:AJ Y E0 M ps t m)(b:fb ps a=true):PJ Y (KO Y s) E0 M (ik (gZ Y a (KO Y s) c) [] E0 t) (pc c m):=
 Dp h (eF b) (eG b) λ_ _ _ _ _ _ _ h=>h
theorem Rn{c:Nat}{b:Str}{a:List Md}{f:List D->Out D}{p:Ap}{ps:List Ap}{ta:TE}{d:P1->Res D}{t:TA}{m:P1->Res (List D)}(g:A1J Y E0 M p ta d)(h:AJ Y E0 M ps t m)(e:fb (p::ps) a=true):
 PJ Y (KR Y .F) E0 M (cT (Y c) b (gZ Y a (KR Y .F) f) [] E0 ta t) (pm c b f d m):=Dh g h (eF e) (eG e) λ_ _ _ _ _ _ _ h=>h
theorem MG{s:Sh}{c:Nat}{b:Str}{a:List Md}{f:List D->Out D}{p:Ap}{ps:List Ap}{ta:TE}{d:P1->Res D}{t:TA}{m:P1->Res (List D)}(g:A1J Y E0 M p ta d)(h:AJ Y E0 M ps t m)(e:fb (p::ps) a=true):
 PJ Y (KO Y s) E0 M (cT (Y c) b (gZ Y a (KO Y s) f) [] E0 ta t) (pm c b f d m):=Dh g h (eF e) (eG e) λ_ _ _ _ _ _ _ h=>h
theorem Ro{c:Nat}{sh:List (Str×Sh)}{a:List Md}{d:List D->Out D}{ps:List Ap}{t:TA}{m:P1->Res (List D)}(h:AJ Y E0 M ps t m)(b:fb ps a=true):
 PJ Y (KO Y (.ob sh)) E0 M (p6 (Y c) (gZ Y (.O (.ob sh)::a) (KR Y .F) d) [] E0 t) (pk c d m):=
 Nd h (by rw[VV,eF b]) rfl λj p e=>by rw[W8];exact eG b j p e
theorem S0{a:List Md}{b:List D->Out D}{ps:List Ap}{t:TA}{m:P1->Res (List D)}(h:AJ Y E0 M ps t m)(c:fitM M ps a)(hd:(cg ps).Nodup)(d:∀i∈ii ps,i∉cg ps):
 MJ Y (KR Y .F) E0 M (ik (gZ Y a (KR Y .F) b) [] E0 t) (mc ps b m):=OK h c hd d λ_ _ _ _ _ _ _ h=>h
theorem SY{c:Nat}{b:Str}{a:List Md}{e:List D->Out D}{p:Ap}{ps:List Ap}{ta:TE}{d:P1->Res D}{t:TA}{m:P1->Res (List D)}(j:A1J Y E0 M p ta d)(h:AJ Y E0 M ps t m)(f:fitM M (p::ps) a)(hd:(cg (p::ps)).Nodup)
 (g:∀i∈ii (p::ps),i∉cg (p::ps)):MJ Y (KR Y .F) E0 M (cT (Y c) b (gZ Y a (KR Y .F) e) [] E0 ta t) (mm c b (p::ps) e d m):=OB j h f hd g λ_ _ _ _ _ _ _ h=>h
theorem Rb{B U H:Hp}{N:List Addr}:KR Y .F .non .non B U H N:=show Dn Y B .non .non by rw[Dn]
end
theorem qH{Y:Cm}{G:Hp}:∀ns:List Int,Dns Y G (ns.map D.int) (ns.map V.int)
 |[]=>by rw[WO,WO,Dns]
 | n::r=>by
   rw[VN,VN,Dns];exact⟨_,_,rfl,by rw[Dn],qH r⟩
theorem OR{Y:Cm}{b:List D->Out D}(h:∀ns:List Int,ns.length<=63->∃T,b [.scr (ns.map D.int)]=.ok (.bl true) T){vs:List V}{H:Hp}{Q:VK}{a:Addr}{ns:List Int}(c:vs=[.ref a])(f:SqF Y.K H a (ns.map V.int))(j:ns.length<=63)(d:∀p∈Y.tb,∃l,H p.1=some (.tbl l)/\p.2∈l)(g:∀H',Q (.bl true) H'):
 vK Y [.R] (KR Y .F) b vs H Q E0:=by
 subst c;obtain⟨T,e⟩:=h ns j;refine⟨H,H,λ_=>[],[.scr (ns.map D.int)],⟨Same.refl _,Same.refl _,λ_=>WE,λ_ _ _ _ z=>(nomatch z),λ_ _ z=>(nomatch z),λi=>?_,rfl,d⟩,rfl,?_⟩
 · rw[dH,dH];cases i with
   |zero=>exact⟨.ref a,rfl,by show Dn Y H (.scr _) _;rw[Dn];exact⟨a,_,rfl,f,qH ns⟩,rfl⟩
   |succ i=>exact rfl
 ·rw[e];intro v S J C H' N o n m k;have k:Dn Y S (.bl true) v:=k;rw[Dn]at k;rw[k];exact g H'
theorem LX{K:F0}{H:Hp}{a:Addr}{xs:List V}{T:Tbs}(o:GA T H)(h:SqL K H a xs):SqF K H a xs:=by
 rcases h with (h|h)|h
 · rcases o.2 a with z|⟨ob,b,z⟩|z
   ·rw[z]at h;cases h
   ·rw[z]at h;cases h
   ·rw[z]at h;cases h
 ·exact .inl h
 ·exact .inr h
theorem QM{H:Hp}{T:Tbs}(o:GA T H):∀p∈T,∃l,H p.1=some (.tbl l)/\p.2∈l:=λp hp=>⟨_,o.1 p hp,Tbs.mem.mpr hp⟩
def kN(m:P1->Res D):P1->Res D:=λT=>(m T).bind λd=>if aT d=true then .ok d else .bad
def Ar(xs:List D)(x:D):Option (D×List D):=match toPy x,toPys xs with
 |some d,some ds=>if SeqAt.shaped d=true/\ds.all SeqAt.shaped=true then (ds.findIdx? λe=>PyData.eqv e d).map λj=>(.non,xs.eraseIdx j) else none
 |_,_=>none
def di:List (List ay)->List D->List ay->List (List ay)×List D
 |k::a,d::ds,j=>if k=j then di a ds j else (k::(di a ds j).1,d::(di a ds j).2)
 |_,_,_=>([],[])
def yT:D->D->Option (D×D)
 |.dT a vs,.tup k=>(bC k).bind λk=>(aZ a vs k).map λx=>(x,.dT (di a vs k).1 (di a vs k).2)
 |_,_=>none
def uy(set:P1->D->P1)(d:D)(T:P1):Res D->Out D
 |.ok k=>(match yT d k with|some (x,d')=>.ok x (set T d')|none=>.bad)
 |.exc c=>.exc c T
 |.bad=>.bad
def l5(get:P1->Option D)(set:P1->D->P1)(mk:P1->Res D):P1->Out D:=λT=>match get T with
 |some (.dT a vs)=>uy set (.dT a vs) T (mk T)
 |_=>.bad
section
variable{Y:Cm}{E:XK}{M:List Md}{B U H:Hp}{As:Nat->List Addr}{Z:St}{T:P1}{t:TE}{get:P1->Option D}{set:P1->D->P1}
theorem Eh{te:TE}{me:P1->Res D}(p:Pth Y M t get set)(v:PJ Y (KR Y .X) E M te me):MJ Y (KR Y .F) E M (LU Y.K "list" (yn Y.K) t (aM te bO)) (iz get set Ar me):=
 Es (f:=Ar) p v λB U H a ds xs x u d C Q bu uh A q g b k=>by
  have g:Dn Y H x u:=g;unfold Ar at b;cases e1:toPy x with
  |none=>rw[e1]at b;cases b
  |some c=>
    cases n:toPys ds with
    |none=>rw[e1,n]at b;cases b
    |some ps=>
      rw[e1,n]at b;replace b:(if SeqAt.shaped c=true/\ps.all SeqAt.shaped=true then (ps.findIdx? λe=>PyData.eqv e c).map λj=>(D.non,ds.eraseIdx j) else none)=some (d,C):=b;by_cases z:SeqAt.shaped c=true/\ps.all SeqAt.shaped=true
      · rw[VL z]at b;obtain⟨j,G,I⟩:=V7.mp b;cases I;obtain⟨o,hp,h⟩:=List.findIdx?_eq_some_iff_getElem.mp G;refine⟨a,xs,u,c,ps,j,rfl,rfl,A,den_of e1 g,dens_of n (Dns.mono (bu.trans uh) q),z.1,λy r=>WW.mp z.2 y r,o,λm e l J=>?_,k .non _ (by rw[Dn]) (q.erase _)⟩;by_cases w:m=j
        ·subst w;rw[V4 o]at l;cases l;rw[hp];simp
        · have:=h m (by omega)
          obtain⟨s,i⟩:=V6.mp l;rw[i]at this;rw[Wi w];simpa using this
      ·rw[on z]at b;cases b
theorem nX{G:Hp}{k:List ay}:∀{kvs:List (List ay×V)} {ds:List D},Dns Y G ds (kvs.map (·.2))->(dU kvs k).map (·.1)=(di (kvs.map (·.1)) ds k).1/\Dns Y G (di (kvs.map (·.1)) ds k).2 ((dU kvs k).map (·.2))
 | [],ds,h=>by
   cases ds<;>exact⟨rfl,by show Dns Y G [] [];rw[Dns]⟩
 | p::kvs,ds,h=>by
   cases ds with
   |nil=>rw[Dns]at h;cases h
   |cons d ds=>
     rw[List.map_cons,Dns]at h;obtain⟨y,r,e,f,c⟩:=h;cases e;obtain⟨b,a⟩:=nX (k:=k) c;unfold dU at b a ⊢;rw[List.map_cons,List.filter_cons,di];by_cases q:p.1=k
     ·rw[on (by simp[q]),VL q];exact⟨b,a⟩
     ·rw[VL (by simpa using q),on q];refine⟨by rw[VN,b],?_⟩;rw[VN,Dns];exact⟨_,_,rfl,f,a⟩
theorem OH{r:TE}{mk:P1->Res D}(p:Pth Y M t get set)(S:PJ Y (KR Y .X) E M r mk):MJ Y (KR Y .F) E M (vX t r) (l5 get set mk):=by
 intro B U As Z H T Q R P;unfold l5 at P;cases e:get T with
 |none=>rw[e]at P;exact P.elim
 |some d=>
   obtain⟨v,A,O,C,hA,cl⟩:=p.rd R e;cases d with
   |dT i vs=>
     rw[e]at P;replace P:Mo Y (KR Y .F) E M B U Z (uy set (.dT i vs) T (mk T)) Q:=P;obtain⟨a,kvs,rfl,z,h2,rfl,h3⟩:=C.dT rfl;refine O _ ⟨a,rfl,.inr ⟨kvs,.inl z⟩,S B U As Z H T _ R ?_⟩;cases o:mk T with
     |exc c=>rw[o]at P;exact λI U1 H1 q g=>P I U1 As H1 q g.toEx
     |bad=>rw[o]at P;exact P.elim
     |ok l=>
       rw[o]at P;intro u I U1 H1 N q g n1 m;have m:Dn Y H1 l u:=m;replace P:Mo Y (KR Y .F) E M B U Z (match yT (.dT i vs) l with|some (x,d')=>.ok x (set T d')|none=>.bad) Q:=P;cases f:yT (.dT i vs) l with
       |none=>rw[f]at P;exact P.elim
       |some xd=>
         obtain⟨x,d'⟩:=xd;rw[f]at P;cases l with
         |tup J=>
           replace f:((bC J).bind λk=>(aZ i vs k).map λx=>(x,D.dT (di i vs k).1 (di i vs k).2))=some (x,d'):=f;obtain⟨n,ek,f⟩:=XT.mp f;obtain⟨y,ey,f⟩:=V7.mp f;cases f;rw[Dn]at m;obtain⟨b,xs,rfl,W,V⟩:=m;have ex:=eU ek V;subst ex;subst h2;have j:Dns Y I vs (kvs.map (·.2)):=h3.mono g.b;have s:=f9 (Y:=Y) (G:=I) n j;rw[ey]at s;obtain⟨w,ew,dw⟩:=s;obtain⟨L,K⟩:=nX (Y:=Y) (G:=I) (k:=n) j;refine⟨kvs,n,b,w,g.h _ _ z,rfl,W,ew,?_⟩;refine P w I U1 As _ [] (cl I U1 H1 q g.b g.h a VP _ _ ?_) g.toEx NewM.nil dw;rw[<-L];exact Ow.dT' az K
         |_=>cases f
   |_=>rw[e]at P;exact P.elim
end
section
variable{Y:Cm}{E:XK}{M:List Md}
theorem I9{ta:TE}{a:P1->Res D}(d:PJ Y (KR Y .F) E M ta a):PJ Y (KI Y .F .U) E M (qx Y.K ta) (i0 a):=by
 intro B U As Z H T Q R P;refine yM d B U As Z H T Q R ?_;cases e:i0 a T with
 |ok ds=>
   rw[e]at P;intro J I U1 H1 N b g n ⟨vs,f,hd⟩;exact P J I U1 H1 N b g n ⟨vs,λh s=>f h (b.bu.trans s),hd⟩
 |exc c=>rw[e]at P;exact P
 |bad=>rw[e]at P;exact P
end
theorem Vt{k:Nat}{A:Around}(r:Room k A):A.units+66<cLine:=by have:=r.un;omega
end Mi
namespace L2
open PySem PySem.Spec PyProof.Rows
section
variable{X:Cx}(K:F0)
theorem E6(h:X.K=K):QI X (Hw K):=by subst h;exact I8
theorem I0(h:X.K=K):QI X (Mp K):=by subst h;exact OX
theorem pR(h:X.K=K):cz X (.builtin "len") (λxs H Q=>∃p a,xs=[.ref p]/\(SqL K H p a\/SqT K H p a)/\Q (.int a.length) H):=by subst h;exact sZ
theorem pQ(h:X.K=K):cz X (.type "list") (λxs H Q=>∃p a,xs=[.ref p]/\(SqL K H p a\/SqT K H p a)/\∀l,H l=none->Q (.ref l) (upd H l (.lst a))):=by subst h;exact sY
theorem pf(h:X.K=K):cz X (.type "tuple") (λxs H Q=>∃p a,xs=[.ref p]/\((SqL K H p a/\∀l,H l=none->Q (.ref l) (upd H l (.tup a)))\/(SqT K H p a/\Q (.ref p) H))):=by subst h;exact pP
theorem xB(h:X.K=K)(a:X.calm=true):cz X (.type "set") (λxs H Q=>∃p ns,xs=[.ref p]/\SqL K H p (ns.map V.int)/\ns.length<4000/\∀q,H q=none->Q (.ref q) (upd H q (.set (λk=>(dd ns).any (·==k)) (dd ns).length))):=by subst h;exact Bl a
theorem xG(h:X.K=K)(b:X.calm=true):fV X (.builtin "min") ["default"] (λxs a H Q=>∃p ns d,xs=[.ref p]/\a=[d]/\SqL K H p (ns.map V.int)/\(ns=[]->Q d H)/\∀m∈ns,(∀x∈ns,m<=x)->Q (.int m) H):=by subst h;exact Bu b
theorem xH(h:X.K=K)(b:X.calm=true):fV X (.builtin "max") ["default"] (λxs a H Q=>∃p ns d,xs=[.ref p]/\a=[d]/\SqL K H p (ns.map V.int)/\(ns=[]->Q d H)/\∀m∈ns,(∀x∈ns,x<=m)->Q (.int m) H):=by subst h;exact Bv b
theorem Ir(h:X.K=K)(a:X.A.units+64<cLine):jI X (compareOp .Eq) (CP K false):=by subst h;exact Nv a
theorem Io(h:X.K=K)(a:X.A.units+64<cLine):jI X (compareOp .NotEq) (CP K true):=by subst h;exact Np a
theorem Ip(h:X.K=K)(a:X.A.units+65<cLine):jI X (compareOp .In) (λx y H Q=>∃d xs,Den K H d x/\Den K H (.list xs) y/\SeqAt.shaped d=true/\SeqAt.shaped (.list xs)=true/\(∀z∈xs,SeqAt.noMix z d=true)/\Q (.bl (decide (countIn d xs≠0))) H):=by subst h;exact Nu a
theorem wx(h:X.K=K)(a:X.A.units+65<cLine):jI X (compareOp .NotIn) (Mi.CO K):=by subst h;exact Mi.AG a
theorem Br(h:X.K=K):cz X (.builtin "isinstance") (λxs H Q=>∃x c t b,xs=[x,.ty c]/\TyOf K H x t/\PySem.W.kitOne K t (.type c)=some b/\Q (.bl b) H):=by subst h;exact Gm
theorem HZ{e:Expr}{ta:TE}{f:Str}{pos:Pos}(h:X.K=K)(a:PE X e ta)(b:attributeBase e f X.env (eval e X.env)=eval e X.env):PE X (.Attribute e f pos) (mV K ta f):=by subst h;exact MW a b
theorem C2{b l:Expr}{a:TE}(h:X.K=K)(c:PE X l a):PI X b l (qx K a):=by subst h;exact HQ c
end
end L2
namespace Mi
open PySem L2
def spT(K:F0)(T:Tbs):Sp:=λvs H Q _=>∃(a:Addr) (ns:List Int),vs=[.ref a]/\SqF K H a (ns.map V.int)/\ns.length<=63/\(∀p∈T,∃l,H p.1=some (.tbl l)/\p.2∈l)/\∀H',Q (.bl true) H'
def gX:List D->Option (List Bool)
 |[]=>some []
 |.bl b::r=>(gX r).map (b::·)
 |_::_=>none
def pV:D->Res D
 |.lst ds=>(match gX ds with|some bs=>.ok (.bl (bs.any id))|none=>.bad)
 |_=>.bad
def ga:List D->Option (List (Int×Int×List Int))
 |[]=>some []
 |d::r=>match ui d,ga r with|some k,some a=>some (k::a)|_,_=>none
def t8(x d:D):Res D:=match x with
 |.lst []=>if aT d=true then .ok d else .bad
 | .lst (e::r)=>(match ga (e::r) with
   |some a=>(match (e::r)[PySem.argBest (λi j=>bj (a.getD i (0,0,[])) (a.getD j (0,0,[]))) r.length]? with|some y=>.ok y|none=>.bad)
   |none=>.bad)
 |_=>.bad
section
variable{Y:Cm}{E:XK}{M:List Md}{K:F0}
theorem mq{G:Hp}:∀{ds:List D} {bs:List Bool} {xs:List V},gX ds=some bs->Dns Y G ds xs->xs=bs.map V.bl
 |[],ns,xs,e,h=>by rw[Dns]at h;cases e;rw[h];rfl
 | d::ds,ns,xs,e,h=>by
   rw[Dns]at h;obtain⟨x,r,rfl,a,b⟩:=h;cases d with
   |bl i=>
     rw[gX]at e;obtain⟨M,e1,rfl⟩:=V7.mp e;rw[Dn]at a;rw[mq e1 b,a,VN]
   |_=>cases e
theorem Q7:S1 Y (λv H Q=>∃p,∃bs:List Bool,[v]=[.ref p]/\SqL K H p (bs.map V.bl)/\Q (.bl (bs.any id)) H) pV:=by
 intro H x v c;cases x with
 |lst ds=>
   rw[Dn]at c;obtain⟨a,xs,rfl,f,d⟩:=c;cases e:gX ds with
   |none=>
     have b:pV (.lst ds)=.bad:=by simp only[pV,e]
     rw[b];trivial
   |some bs=>
     have b:pV (.lst ds)=.ok (.bl (bs.any id)):=by simp only[pV,e]
     rw[b];have ex:=mq e d;subst ex;exact⟨.bl _,λ_=>by rw[Dn],λQ q=>⟨a,bs,rfl,SqL.of f,q⟩⟩
 |_=>trivial
theorem qo:∀{ds:List D} {a:List (Int×Int×List Int)},ga ds=some a->ds.length=a.length
 |[],a,e=>by cases e;rfl
 | d::r,a,e=>by
   unfold ga at e;cases e1:ui d with
   |none=>rw[e1]at e;cases e
   |some k=>
     cases b:ga r with
     |none=>rw[e1,b]at e;cases e
     |some l=>rw[e1,b]at e;cases e;rw[VV,VV,qo b]
theorem ug:∀{ds:List D} {a:List (Int×Int×List Int)} {i:Nat} {d:D},ga ds=some a->ds[i]?=some d->ui d=some (a.getD i (0,0,[]))
 |[],a,i,d,e,h=>by cases h
 | x::r,a,i,d,e,h=>by
   unfold ga at e;cases e1:ui x with
   |none=>rw[e1]at e;cases e
   |some k=>
     cases b:ga r with
     |none=>rw[e1,b]at e;cases e
     |some l=>
       rw[e1,b]at e;cases e;cases i with
       |zero=>cases h;exact e1
       |succ i=>rw[W8];exact ug b (by simpa using h)
theorem M8{ta J:TE}{O N:P1->Res D}(ha:PJ Y (KC Y .F) E M ta O)(hd:PJ Y (KR Y .X) E M J N):
 PJ Y (KR Y .F) E M (Ae (λxs V H Q=>∃p vs d,∃f:List (Int×Int×List Int),xs=[.ref p]/\V=[d]/\SqL K H p vs/\vs.length=f.length/\(∀i v,vs[i]?=some v->Qt K H v (f.getD i (0,0,[])))/\
  (vs=[]->Q d H)/\∀v,vs[PySem.argBest (λi j=>bj (f.getD i (0,0,[])) (f.getD j (0,0,[]))) (vs.length-1)]?=some v->Q v H) (aM ta bO) (aM J bO)) (bn t8 O N):=by
 intro B U As Z H T Q R P;refine ha.bnd R P λx v I U1 H1 L _ R1 e1 n1 o W=>hd.bnd R1 W λy u t q s N2 _ R2 S n2 d2 c=>?_;have o:Cn Y I H1 x v:=o;cases x with
 |lst ds=>
   have o:∃a xs,v=.ref a/\H1 a=some (.lst xs)/\Dns Y I ds xs:=o;obtain⟨a,xs,rfl,h1,G⟩:=o;have n:=S.h _ _ h1;have m:=G.mono S.b;cases ds with
   |nil=>
     rw[Dns]at G;subst G;replace c:Po Y (KR Y .F) E M t q As Z s T (if aT y=true then .ok y else .bad) Q:=c;by_cases z:aT y=true
     ·rw[VL z]at c;exact⟨a,[],u,[],rfl,rfl,SqL.of n,rfl,λi v e=>(nomatch e),λ_=>c u t q s [] R2 (Gw.refl _ _ _) New.nil (ft z d2),λv e=>by cases e⟩
     ·rw[on z]at c;exact c.elim
   |cons e r=>
     replace c:Po Y (KR Y .F) E M t q As Z s T (match ga (e::r) with
      |some f=>(match (e::r)[PySem.argBest (λi j=>bj (f.getD i (0,0,[])) (f.getD j (0,0,[]))) r.length]? with|some y=>.ok y|none=>.bad)
      |none=>.bad) Q:=c
     cases A:ga (e::r) with
     |none=>rw[A]at c;exact c.elim
     |some f=>
       rw[A]at c;replace c:Po Y (KR Y .F) E M t q As Z s T (match (e::r)[PySem.argBest (λi j=>bj (f.getD i (0,0,[])) (f.getD j (0,0,[]))) r.length]? with|some y=>.ok y|none=>.bad) Q:=c;have C:=m.len;refine⟨a,xs,u,f,rfl,rfl,SqL.of n,by rw[<-C,qo A],λi v w=>?_,λz=>?_,λv w=>?_⟩
       ·obtain⟨d,k,g⟩:=m.geti w;obtain⟨p,l,rfl,q1,q2⟩:=eV (K:=K) (ug A k) (Dn.mono R2.bh g);exact⟨p,l,rfl,q1,q2⟩
       ·subst z;cases C
       ·rw[<-C,VV,Nat.add_sub_cancel]at w;obtain⟨d,k,g⟩:=m.geti w;rw[k]at c;exact c v t q s [] R2 (Gw.refl _ _ _) New.nil g
 |_=>exact c.elim
end
section
variable{Y:Cm}{E:XK}{M:List Md}
theorem fF(i:Nat)(a:M.getD i .F= .F:=by rfl):PJ Y (KR Y .F) E M (cF i) (vr i):=xF a
theorem fR(i:Nat)(a:M.getD i .F= .R:=by rfl):PJ Y (KR Y .U) E M (cF i) (vr i):=xR a
theorem fO(i:Nat){sh:Sh}(a:M.getD i .F= .O sh:=by rfl):PJ Y (KR Y .X) E M (cF i) (vr i):=xO a
theorem fC(i:Nat)(a:M.getD i .F= .O (.ct .fz):=by rfl):PJ Y (KC Y .F) E M (cF i) (vr i):=xC a
end
theorem Te{k:Nat}{A:Around}(r:Room k A):A.units+101<cLine:=by have:=r.un;omega
end Mi
namespace L2
open PySem PySem.Spec PyProof.Rows
section
variable{X:Cx}(K:F0)
theorem Bs(h:X.K=K)(a:X.calm=true):cz X (.builtin "any") (λxs H Q=>∃p,∃bs:List Bool,xs=[.ref p]/\SqL K H p (bs.map V.bl)/\Q (.bl (bs.any id)) H):=by subst h;exact Bt a
theorem vB(h:X.K=K)(e:X.calm=true)(c:X.A.units+101<cLine):fV X (.builtin "min") ["default"] (λxs b H Q=>∃p vs d,∃a:List (Int×Int×List Int),xs=[.ref p]/\b=[d]/\SqL K H p vs/\vs.length=a.length/\(∀i v,vs[i]?=some v->Qt K H v (a.getD i (0,0,[])))/\
 (vs=[]->Q d H)/\∀v,vs[PySem.argBest (λi j=>bj (a.getD i (0,0,[])) (a.getD j (0,0,[]))) (vs.length-1)]?=some v->Q v H):=by subst h;exact xE e c
end
end L2
namespace Gd
open PySem L2
theorem Qb:bootBuiltins "any" = some (.builtin "any"):=by decide +kernel
end Gd
namespace Mi
open PySem L2
def tN:D->D->Res D
 |.lst xs,.int k=>if (0<=k/\k<=1000000)/\xs.length*k.toNat<=af then .ok (.lst (List.replicate k.toNat xs).flatten) else .bad
 |_,_=>.bad
section
variable{Y:Cm}{E:XK}{M:List Md}
theorem Dns.rep{B:Hp}{ds:List D}{xs:List V}(h:Dns Y B ds xs):∀k:Nat,Dns Y B (List.replicate k ds).flatten (List.replicate k xs).flatten
 |0=>by rw[List.replicate_zero,List.replicate_zero,List.flatten_nil,List.flatten_nil,Dns]
 |k+1=>by rw[Wn,Wn,WF,WF];exact Dns.append h (Dns.rep h k)
theorem Rz{ta tb:TE}{g f:P1->Res D}(n:PJ Y (KC Y .F) E M ta g)(m:PJ Y (KR Y .X) E M tb f):PJ Y (KO Y (.ct .fz)) E M (BF Rh ta tb) (bn tN g f):=by
 intro B U As Z H T Q R P;refine n.bnd R P λx v I U1 H1 L _ r e1 w d W=>m.bnd r W λy u s q l A _ R2 j t e c=>?_;have d:Cn Y I H1 x v:=d;have e:Dn Y l y u:=e;cases x with
 |lst ds=>
   have d:∃a xs,v=.ref a/\H1 a=some (.lst xs)/\Dns Y I ds xs:=d;obtain⟨a,xs,rfl,o,i⟩:=d;cases y with
   |int k=>
     rw[Dn]at e;subst e;replace c:Po Y (KO Y (.ct .fz)) E M s q As Z l T (if (0<=k/\k<=1000000)/\ds.length*k.toNat<=af then .ok (.lst (List.replicate k.toNat ds).flatten) else .bad) Q:=c;by_cases z:(0<=k/\k<=1000000)/\ds.length*k.toNat<=af
     ·rw[VL z]at c;refine⟨a,k,xs,rfl,rfl,j.h _ _ o,by omega,by omega,?_,λp hp=>dO R2 c ((i.mono j.b).rep _) hp⟩;rw[<-i.len];exact Wl z.2 (by decide)
     ·rw[on z]at c;exact c.elim
   |_=>exact c.elim
 |_=>exact c.elim
end
end Mi
namespace Gd
open PySem L2
theorem Qc:bootBuiltins "abs" = some (.builtin "abs"):=by decide +kernel
end Gd
namespace L2
open PySem
theorem S6{P:List Value->Prop}(h:P []):∀us:List Value,us.length=0->P us:=by
 intro us a;rw[Wx.mp a];exact h
theorem EE{P:List Value->Prop}(h:∀c:Value,P [c]):∀us:List Value,us.length=1->P us:=by
 intro us b;cases us with
 |nil=>cases b
 |cons a us=>exact S6 (P:=λus=>P (a::us)) (h a) us (X8 b)
theorem ED{P:List Value->Prop}(h:∀d c:Value,P [d,c]):∀us:List Value,us.length=2->P us:=by
 intro us b;cases us with
 |nil=>cases b
 |cons a us=>exact EE (P:=λus=>P (a::us)) (h a) us (X8 b)
theorem EC{P:List Value->Prop}(h:∀e d c:Value,P [e,d,c]):∀us:List Value,us.length=3->P us:=by
 intro us b;cases us with
 |nil=>cases b
 |cons a us=>exact ED (P:=λus=>P (a::us)) (h a) us (X8 b)
theorem EB{P:List Value->Prop}(h:∀f e d c:Value,P [f,e,d,c]):∀us:List Value,us.length=4->P us:=by
 intro us b;cases us with
 |nil=>cases b
 |cons a us=>exact EC (P:=λus=>P (a::us)) (h a) us (X8 b)
theorem Lb{P:List Value->Prop}(h:∀g f e d c:Value,P [g,f,e,d,c]):∀us:List Value,us.length=5->P us:=by
 intro us b;cases us with
 |nil=>cases b
 |cons a us=>exact EB (P:=λus=>P (a::us)) (h a) us (X8 b)
end L2
namespace L2
open PySem PySem.Spec PyProof.Rows
def CX1(P:Program)(w:World):BE:=λouter H s E e a=>∃(c C:Addr) (f:Value) (B:Heap) (H':Hp),e=.ref c/\a.os=s.os/\AllBare a.gens/\Un (wT outer) (wT outer) H H' s.heap B/\HOk P w H' B/\
 Heap.FlyingW B outer c (.ref C) f a.heap/\(∀b∈wT outer,∀o,s.heap.get? b=some o->∃d,a.heap.get? b=some {o with slots:=d})/\(∀b∈wT outer,H' b=none)/\E (.ref C) none H'
structure Own (X:Cx) (E:XK):Prop where
 xe:X.xe=λe s'=>wpAny (model X.prog X.w) X.A («leaving» X.env e) (λ_ s''=>CX1 X.prog X.w X.outer X.H₀ X.s₀ E e s'') (λe' s''=>CX1 X.prog X.w X.outer X.H₀ X.s₀ E e' s'')  s'
 ex:X.ex=[]
 stk:X.stack=X.env::X.outer
 fr:X.env.frame=some X.env.locals
def SX(K:F0)(C:Addr):List Value:=match K.lookup C with
 |some ⟨_,_,.cls a,_⟩=>a.mro
 |_=>[]
abbrev vBm:List Value:=[.type "ValueError",.type "Exception",.type "BaseException",.type "object"]
def Tl(K:F0)(C:Addr):Bool:=PySem.W.excIn K C vBm "ValueError.__new__"
end L2
namespace PySem.W
open PySem PySem.Spec PySem.Calls PyProof.Rows
open Builtin Builtin.ObjectAttr Builtin.Getset_descriptor in
open Builtin Builtin.ObjectAttr Builtin.Getset_descriptor in
def Lh(K:Frag)(D:Addr):Bool:=findIn K (.ref D) "__getattribute__" == some (some (.builtin "BaseException.__getattribute__"))&&(findIn K (.ref D) "__getattr__" == some none&&(findIn K (.ref D) "__class__" == some (some (.builtin "object.__class__")) &&
 (specialIn K (.builtin "object.__class__") "__get__" == some (some (.builtin "getset_descriptor.__get__"))&&(takesIn K (.builtin "object.__class__")==some true&&(mroIn K D (.type "object")==some true&&(mroIn K D (.type "BaseException")==some true&&(clsIn K D).isSome))))))
end PySem.W
namespace Mi
open PySem L2
abbrev DI(X:Type):=List (List Int×X)
section
variable{X:Type}
def bp(f:X->D)(F:DI X):D:=.dT (F.map λp=>p.1.map Sum.inl) (F.map λp=>f p.2)
def DI.get(F:DI X)(k:List Int):Option X:=(F.find? λp=>decide (p.1=k)).map (·.2)
def DI.put(F:DI X)(k:List Int)(v:X):DI X:=if (F.get k).isSome=true then F.map λp=>if p.1=k then (p.1,v) else p else F++[(k,v)]
def DI.del(F:DI X)(k:List Int):DI X:=F.filter λp=>decide (p.1≠k)
theorem fJ{j k:List Int}:j.map (Sum.inl:Int->ay)=k.map Sum.inl↔j=k:=by
 constructor
 · intro h
   induction j generalizing k with
   |nil=>cases k with|nil=>rfl|cons _ _=>cases h
   |cons x j b=>
     cases k with
     |nil=>cases h
     |cons y k=>
       rw[VN,VN]at h;injection h with a c
       injection a with a
       rw[a,b c]
 ·intro h;rw[h]
theorem fH:∀k:List Int,bC (k.map D.int)=some (k.map Sum.inl)
 |[]=>rfl
 |x::k=>by rw[VN,bC,fH k];rfl
theorem jX{f:X->D}{k:List Int}:∀F:DI X,aZ (F.map λp=>p.1.map (Sum.inl:Int->ay)) (F.map λp=>f p.2) (k.map Sum.inl)=(DI.get F k).map f
 |[]=>rfl
 | p::F=>by
   rw[List.map_cons,List.map_cons,aZ,jX F];unfold DI.get;rw[List.find?_cons];by_cases h:p.1=k
   ·rw[VL (fJ.mpr h),Wv h];rfl
   ·rw[on (λz=>h (fJ.mp z)),Wi h]
theorem gc{f:X->D}{F:DI X}{k:List Int}:jc (bp f F) (.tup (k.map D.int))=some ((F.get k).map f):=by
 show(bC (k.map D.int)).map (λk=>aZ (F.map λp=>p.1.map (Sum.inl:Int->ay)) (F.map λp=>f p.2) k)=_;rw[fH,XB,jX]
theorem yN{k:List Int}:∀F:DI X,bV (F.map λp=>p.1.map (Sum.inl:Int->ay)) (k.map Sum.inl)=(DI.get F k).isSome
 |[]=>rfl
 | p::F=>by
   have a:=yN (k:=k) F;unfold bV DI.get at *;rw[List.map_cons,List.any_cons,List.find?_cons,a];by_cases h:p.1=k
   ·rw[Wv (fJ.mpr h),Wv h];rfl
   ·rw[Wi (λz=>h (fJ.mp z)),Wi h];rfl
theorem tP{f:X->D}{k:List Int}{v:X}:∀F:DI X,im (F.map λp=>p.1.map (Sum.inl:Int->ay)) (F.map λp=>f p.2) (k.map Sum.inl) (f v)=(F.map λp=>if p.1=k then (p.1,v) else p).map λp=>f p.2
 |[]=>rfl
 | p::F=>by
   rw[VN,VN,im,tP F,VN,VN];by_cases h:p.1=k
   ·rw[VL (fJ.mpr h),VL h]
   ·rw[on (λz=>h (fJ.mp z)),on h]
theorem Fv{f:X->D}{F:DI X}{k:List Int}{v:X}(h:F.length<af):qG (bp f F) (.tup (k.map D.int)) (f v)=some (bp f (F.put k v)):=by
 show((bC (k.map D.int)).bind λk=>if (F.map λp=>p.1.map (Sum.inl:Int->ay)).length<af then some (if bV (F.map λp=>p.1.map (Sum.inl:Int->ay)) k=true then D.dT (F.map λp=>p.1.map (Sum.inl:Int->ay)) (im (F.map λp=>p.1.map (Sum.inl:Int->ay)) (F.map λp=>f p.2) k (f v)) else D.dT ((F.map λp=>p.1.map (Sum.inl:Int->ay))++[k]) ((F.map λp=>f p.2)++[f v])) else none)=some (D.dT ((F.put k v).map λp=>p.1.map Sum.inl) ((F.put k v).map λp=>f p.2));rw[fH,Option.bind_some,if_pos (by rw[List.length_map];exact h),yN];unfold DI.put;by_cases q:(DI.get F k).isSome=true
 ·rw[VL q,VL q,tP,Ws,Ws];refine congrArg (λz=>some (D.dT z _)) ?_;refine WM λp _=>?_;show _=((if p.1=k then (p.1,v) else p).1).map Sum.inl;split<;>rfl
 ·rw[on q,on q,Wm,Wm];rfl
theorem nV{f:X->D}{k:List Int}:∀F:DI X,di (F.map λp=>p.1.map (Sum.inl:Int->ay)) (F.map λp=>f p.2) (k.map Sum.inl)=((F.del k).map (λp=>p.1.map Sum.inl),(F.del k).map λp=>f p.2)
 |[]=>rfl
 | p::F=>by
   rw[List.map_cons,List.map_cons,di,nV F];unfold DI.del;rw[List.filter_cons];by_cases h:p.1=k
   ·rw[VL (fJ.mpr h),on (by simpa using h)]
   ·rw[on (λz=>h (fJ.mp z)),VL (by simpa using h)];rfl
theorem Fw{f:X->D}{F:DI X}{k:List Int}{v:X}(h:F.get k=some v):yT (bp f F) (.tup (k.map D.int))=some (f v,bp f (F.del k)):=by
 show((bC (k.map D.int)).bind λk=>(aZ (F.map λp=>p.1.map (Sum.inl:Int->ay)) (F.map λp=>f p.2) k).map λx=>(x,D.dT (di (F.map λp=>p.1.map (Sum.inl:Int->ay)) (F.map λp=>f p.2) k).1 (di (F.map λp=>p.1.map (Sum.inl:Int->ay)) (F.map λp=>f p.2) k).2))=some (f v,D.dT ((F.del k).map λp=>p.1.map Sum.inl) ((F.del k).map λp=>f p.2));rw[fH,Option.bind_some,jX,h,XB,XB,nV]
theorem cL{F:DI X}{k j:List Int}{v:X}:(F.put k v).get j=if j=k then some v else F.get j:=by
 unfold DI.put;by_cases q:(DI.get F k).isSome=true
 · rw[VL q]
   have e:∀G:DI X,DI.get (G.map λp=>if p.1=k then (p.1,v) else p) j=if j=k then (DI.get G k).map λ_=>v else DI.get G j:=by
    intro G
    induction G with
    |nil=>unfold DI.get;split<;>rfl
    |cons p G f=>
      unfold DI.get at f ⊢;rw[List.map_cons,List.find?_cons,List.find?_cons,List.find?_cons];by_cases b:p.1=k
      · rw[VL b];by_cases a:j=k
        ·subst a;simp only[b,decide_true,VL,XB]
        ·have c:¬ p.1=j:=λz=>a (z.symm.trans b);simp only[c,YK];rw[f,on a,on a]
      · rw[on b];by_cases c:p.1=j
        ·have a:¬ j=k:=λz=>b (c.trans z);simp only[c,decide_true,on a]
        ·simp only[c,b,YK];exact f
   rw[e];by_cases h:j=k
   ·rw[VL h,VL h];obtain⟨x,i⟩:=Xm.mp q;rw[i];rfl
   ·rw[on h,on h]
 · rw[on q]
   have d:DI.get F k=none:=by
    cases z:DI.get F k with
    |none=>rfl
    |some x=>rw[z]at q;exact absurd rfl q
   unfold DI.get at d ⊢;rw[List.find?_append];by_cases h:j=k
   · subst h
     have g:F.find? (λp=>decide (p.1=j))=none:=by
      cases z:F.find? (λp=>decide (p.1=j)) with
      |none=>rfl
      |some x=>rw[z]at d;cases d
     rw[g,VL rfl];simp
   · rw[on h]
     have:¬ k=j:=λz=>h z.symm
     simp[this]
theorem iW{F:DI X}{k j:List Int}:(F.del k).get j=if j=k then none else F.get j:=by
 unfold DI.del DI.get
 induction F with
 |nil=>split<;>rfl
 |cons p F c=>
   rw[WQ];by_cases b:p.1=k
   · rw[on (by simpa using b),c,WT];by_cases h:j=k
     ·rw[VL h,VL h]
     ·have a:¬ p.1=j:=λz=>h (z.symm.trans b);rw[on h,on h];simp only[a,YK]
   · rw[VL (by simpa using b),WT,WT];by_cases a:p.1=j
     ·have d:¬ j=k:=λz=>b (a.trans z);simp only[a,decide_true,on d]
     ·simp only[a,YK];exact c
end
open PySem.Spec (countIn same sameAll)
theorem kP{W:Type}{f:W->D}{g:W->PyData}(h:∀a,toPy (f a)=some (g a)):∀l:List W,toPys (l.map f)=some (l.map g)
 |[]=>rfl
 |a::l=>by rw[VN,toPys,h a,kP h l];rfl
theorem kQ{W:Type}{f:W->D}{g:W->PyData}(h:∀a,toPy (f a)=some (g a))(l:List W):toPy (.lst (l.map f))=some (.list (l.map g)):=by
 rw[toPy,kP h];rfl
theorem v9{W:Type}{g:W->PyData}(h:∀a,(g a).canLay0=true)(f:∀a,(g a).depth<=60)(l:List W):SeqAt.shaped (.list (l.map g))=true:=by
 have c:∀l:List W,PyData.canLayAll0 (l.map g)=true:=by
  intro l
  induction l with
  |nil=>simp[PyData.canLayAll0]
  |cons a l b=>simp[PyData.canLayAll0,h a,b]
 have d:∀l:List W,PyData.depthAll (l.map g)<=60:=by
  intro l
  induction l with
  |nil=>simp[PyData.depthAll]
  |cons a l b=>
    rw[VN,PyData.depthAll]
    have:=f a
    omega
 have e:PyData.depth (.list (l.map g))<=64:=by rw[PyData.depth];have:=d l;omega
 unfold SeqAt.shaped;rw[Bool.and_eq_true];exact⟨by rw[PyData.canLay0];exact c l,decide_eq_true e⟩
theorem mh{W:Type}[DecidableEq W]{g:W->PyData}(h:∀a b,same (g a) (g b)=decide (a=b))(a:W):∀l:List W,(0<=countIn (g a) (l.map g))/\(countIn (g a) (l.map g)≠0↔a∈l)
 |[]=>by simp[countIn]
 | b::l=>by
   obtain⟨d,c⟩:=mh h a l;rw[VN,countIn,h b a,VY];by_cases e:b=a
   ·rw[VL (by simpa using e)];exact⟨by omega,λ_=>.inl e.symm,λ_=>by omega⟩
   · rw[on (by simpa using e)];refine⟨by omega,λz=>.inr (c.mp (by omega)),λz=>?_⟩;rcases z with z|z
     ·exact absurd z.symm e
     ·have:=c.mpr z;omega
section
variable{W:Type}[DecidableEq W]{f:W->D}{g:W->PyData}
theorem yL(h0:∀a,toPy (f a)=some (g a))(j:∀a,(g a).canLay0=true)(i:∀a,(g a).depth<=60)(m:∀a b,same (g a) (g b)=decide (a=b))(k:∀a b,SeqAt.noMix (g a) (g b)=true)(a:W)(l:List W):
 Ld (f a) (.lst (l.map f))=.ok (.bl (decide (a∈l)))/\wC (f a) (.lst (l.map f))=.ok (.bl (!decide (a∈l))):=by
 have h:SeqAt.shaped (g a)=true:=by
  unfold SeqAt.shaped;rw[j a,Bool.true_and];exact decide_eq_true (by have:=i a;omega)
 have e:=v9 j i l
 have d:((l.map g).all λz=>SeqAt.noMix z (g a))=true:=by
  rw[YL,WW];exact λb _=>k b a
 have c:decide (countIn (g a) (l.map g)≠0)=decide (a∈l):=by
  have:=(mh m a l).2
  by_cases z:a∈l
  ·rw[Wv z,Wv (this.mpr z)]
  ·rw[Wi z,Wi (λw=>z (this.mp w))]
 constructor
 ·unfold Ld;rw[h0 a,kQ h0 l];show(if _ then _ else _)=_;rw[if_pos ⟨h,e,d⟩,c]
 ·unfold wC;rw[h0 a,kQ h0 l];show(if _ then _ else _)=_;rw[if_pos ⟨h,e,d⟩,c]
end
end Mi
namespace Cl
open PySem L2 Mi
inductive OutC (Z W:Type) where
 |ok (a:W) (s:Z)|exc (c:Nat) (s:Z)|bad
inductive FlC (Z X:Type) where
 |nx (s:Z)|rt (b:X) (s:Z)|bk (s:Z)|ct (s:Z)|exc (c:Nat) (s:Z)|bad
def SimR{W L:Type}(e:W->L)(r:Res L)(q:Res W):Prop:=match q with
 |.ok a=>r=.ok (e a)
 |.exc x=>r=.exc x
 |.bad=>True
section
variable{Z W X L K:Type}{rep:Z->P1}
def SimO(rep:Z->P1)(e:W->L)(r:Out L)(q:OutC Z W):Prop:=match q with
 |.ok a s=>r=.ok (e a) (rep s)
 |.exc x s=>r=.exc x (rep s)
 |.bad=>True
def SimS(rep:Z->P1)(e:X->D)(r:SO)(q:FlC Z X):Prop:=match q with
 |.nx s=>r=.nx (rep s)
 |.rt b s=>r=.rt (e b) (rep s)
 |.bk s=>r=.bk (rep s)
 |.ct s=>r=.ct (rep s)
 |.exc x s=>r=.exc x (rep s)
 |.bad=>True
def EJ(rep:Z->P1)(e:W->L)(m:P1->Res L)(c:Z->Res W):Prop:=∀s,SimR e (m (rep s)) (c s)
def NJ(rep:Z->P1)(e:W->L)(m:P1->Out L)(c:Z->OutC Z W):Prop:=∀s,SimO rep e (m (rep s)) (c s)
def TJ(rep:Z->P1)(e:X->D)(m:P1->SO)(c:Z->FlC Z X):Prop:=∀s,SimS rep e (m (rep s)) (c s)
theorem SimR.bnd{e:W->L}{b:X->K}{r:Res L}{q:Res W}{k:L->Res K}{l:W->Res X}(h:SimR e r q)(c:∀a,SimR b (k (e a)) (l a)):SimR b (r.bind k) (q.bind l):=by
 cases q with
 |ok a=>rw[show r=_ from h];exact c a
 |exc x=>rw[show r=_ from h];exact rfl
 |bad=>trivial
@[elab_as_elim] theorem SimR.el{e:W->L}{r:Res L}{q:Res W}{P:Res L->Res W->Prop}(h:SimR e r q)(ok:∀a,P (.ok (e a)) (.ok a))(exc:∀x,P (.exc x) (.exc x))(bad:∀r,P r .bad):P r q:=by
 cases q with
 |ok a=>rw[show r=_ from h];exact ok a
 |exc x=>rw[show r=_ from h];exact exc x
 |bad=>exact bad r
theorem SimR.calm{e:W->L}{r:Res L}{q:Res W}(h:SimR e r q):SimR e r.calm q.calm:=by
 cases q with
 |ok a=>rw[show r=_ from h];exact rfl
 |exc x=>trivial
 |bad=>trivial
@[simp] def vC(g:Z->Option W):Z->Res W:=λs=>match g s with|some a=>.ok a|none=>.bad
@[simp] def pC(g:Z->W):Z->Res W:=λs=>.ok (g s)
@[simp] def kC(a:W):Z->Res W:=λ_=>.ok a
@[simp] def aJ(f:W->Res X)(c:Z->Res W):Z->Res X:=λs=>(c s).bind f
@[simp] def aI(f:W->X->Res L)(a:Z->Res W)(b:Z->Res X):Z->Res L:=λs=>(a s).bind λx=>(b s).bind λy=>f x y
theorem O6{e:W->D}{i:Nat}{g:Z->Option W}(h:∀s,rg (rep s) i=(g s).map e):EJ rep e (vr i) (vC g):=λs=>by
 unfold vC vr;rw[h s];cases g s with
 |none=>trivial
 |some a=>exact rfl
theorem O8{e:W->D}{i:Nat}{g:Z->W}(h:∀s,rg (rep s) i=some (e (g s))):EJ rep e (vr i) (pC g):=λs=>by
 unfold vr pC;rw[h s];exact rfl
theorem lB{e:W->D}{d:D}{a:W}(h:e a=d):EJ rep e (ax d) (kC a):=λs=>by subst h;exact rfl
theorem aD{e:W->D}{b:X->D}{F:D->Res D}{f:W->Res X}{m:P1->Res D}{c:Z->Res W}(h:∀a,SimR b (F (e a)) (f a))(d:EJ rep e m c):EJ rep b (un F m) (aJ f c):=λs=>(d s).bnd h
theorem ae{e:W->D}{e1:X->D}{d:L->D}{F:D->D->Res D}{f:W->X->Res L}{m n:P1->Res D}{c:Z->Res W}{g:Z->Res X}(h:∀a b,SimR d (F (e a) (e1 b)) (f a b))(j:EJ rep e m c)(i:EJ rep e1 n g):EJ rep d (bn F m n) (aI f c g):=λs=>(j s).bnd λa=>(i s).bnd λb=>h a b
theorem aY{e:W->D}{d:X->D}{m:P1->Res D}{c:Z->Res W}{f:W->Res X}(h:∀a,SimR d (.ok (e a)) (f a))(b:EJ rep e m c):EJ rep d m (aJ f c):=λs=>by
 have b:=b s;unfold aJ;cases q:c s with
 |ok a=>rw[q]at b;rw[show m (rep s)=_ from b];exact h a
 |exc x=>rw[q]at b;exact b
 |bad=>trivial
def eN:Unit->D:=λ_=>.non
def eL(e:W->D):List W->D:=λxs=>.lst (xs.map e)
def eS:List Int->D:=λxs=>.scr (xs.map D.int)
def kg(e:W->D):List W->D:=λxs=>.tup (xs.map e)
def pJ(e:W->D)(a:X->D):W×X->D:=λp=>.tup [e p.1,a p.2]
def wZ(e:W->D)(b:X->D)(a:L->D):W×X×L->D:=λp=>.tup [e p.1,b p.2.1,a p.2.2]
def eO(e:W->D):Option W->D:=λo=>match o with|none=>.non|some a=>e a
abbrev eK:Int×Int×List Int->D:=wZ D.int D.int (eL D.int)
@[simp] def fN(o:Option W):Res W:=match o with|some a=>.ok a|none=>.bad
@[simp] def lJ(a:W):Res (Option W):=.ok (some a)
@[simp] def OY(a:W):Res W:=.ok a
theorem bq{e:W->D}(o:Option W):SimR e (.ok (eO e o)) (fN o):=by cases o<;>trivial
theorem lF{e:W->D}(a:W):SimR (eO e) (.ok (e a)) (lJ a):=rfl
theorem Lj{e:W->D}{F:(P1->Res D)->P1->Res D}{m:P1->Res D}{c:Z->Res W}(hF:∀T a,m T=.ok (e a)->F m T=.ok (e a))(b:∀T x,m T=.exc x->F m T=.exc x)(h:EJ rep e m c):EJ rep e (F m) c:=λs=>by
 have h:=h s;cases q:c s with
 |ok a=>rw[q]at h;exact hF _ _ h
 |exc x=>rw[q]at h;exact b _ _ h
 |bad=>trivial
theorem bH{e:W->D}{m:P1->Res D}{c:Z->Res W}(b:∀a,aT (e a)=true)(h:EJ rep e m c):EJ rep e (kN m) c:=
 Lj (F:=kN) (λT a q=>by unfold kN;rw[q];show(if _ then _ else _)=_;rw[if_pos (b a)]) (λT x q=>by unfold kN;rw[q];rfl) h
theorem nT{e:W->D}{m:P1->Res D}{c:Z->Res W}(b:∀a,lN (e a)=true)(h:EJ rep e m c):EJ rep e (o8 m) c:=
 Lj (F:=o8) (λT a q=>by unfold o8;rw[q];show(if _ then _ else _)=_;rw[if_pos (b a)]) (λT x q=>by unfold o8;rw[q];rfl) h
theorem pA{e:W->D}(h:∀a,aT (e a)=true)(xs:List W):(xs.map e).all aT=true:=by
 rw[YL,WW];exact λa _=>h a
theorem we{e:W->D}(h:∀a,aT (e a)=true)(xs:List W):lN (eL e xs)=true:=pA h xs
theorem Hn{e:W->D}(h:∀a,aT (e a)=true)(xs:List W):lN (kg e xs)=true:=pA h xs
theorem L3(xs:List Int):lN (eS xs)=true:=pA (λ_=>rfl) xs
theorem L4{e:W->D}(h:∀a,lN (e a)=true)(o:Option W):lN (eO e o)=true:=by
 cases o with
 |none=>rfl
 |some a=>exact h a
theorem E8{e:W->D}(h:∀a,aT (e a)=true)(o:Option W):aT (eO e o)=true:=by
 cases o with
 |none=>rfl
 |some a=>exact h a
@[simp] def i7(a b:Int):Res Int:=.ok (a+b)
@[simp] def GY(a b:Int):Res Int:=.ok (a-b)
@[simp] def AQ(a b:Int):Res Int:=if (-(2 ^ 64)<a/\a<2 ^ 64)\/(-(2 ^ 64)<b/\b<2 ^ 64) then .ok (a*b) else .bad
@[simp] def j8(a b:Int):Res Int:=if 0<b/\b<1073741824 then .ok (a / b) else .bad
@[simp] def iw(a b:Int):Res Int:=if 0<b then .ok (a%b) else .bad
@[simp] def QP(a b:Int):Res Int:=if 0<=b then .ok (a / 2 ^ b.toNat) else .bad
@[simp] def wD(a b:Int):Res Int:=.ok (if b<a then b else a)
@[simp] def wE(a b:Int):Res Int:=.ok (if b>a then b else a)
@[simp] def La(a b:Int):Res Bool:=.ok (decide (a<b))
@[simp] def GO(a b:Int):Res Bool:=.ok (decide (b<a))
@[simp] def Vw(a b:Int):Res Bool:=.ok (decide (b<=a))
@[simp] def IB(a:Int):Res Int:=.ok (-a)
@[simp] def Ui(a:Int):Res Int:=.ok (if a<0 then -a else a)
@[simp] def tV(a:Bool):Res Bool:=.ok (!a)
@[simp] def mD[DecidableEq W](neg:Bool)(a b:W):Res Bool:=.ok (neg.xor (decide (a=b)))
theorem fB(a b:Int):SimR D.int (iO (.int a) (.int b)) (i7 a b):=rfl
theorem Dx(a b:Int):SimR D.int (Af (.int a) (.int b)) (GY a b):=rfl
theorem SimR.ite{e:W->L}{p:Prop}[Decidable p]{r a:Res L}{q b:Res W}(h:SimR e r q)(h':SimR e a b):SimR e (if p then r else a) (if p then q else b):=by
 by_cases z:p
 ·rw[VL z,VL z];exact h
 ·rw[on z,on z];exact h'
theorem tT(a b:Int):SimR D.int (rF (.int a) (.int b)) (AQ a b):=by rw[DL];exact SimR.ite rfl trivial
theorem ir(a b:Int):SimR D.int (hV (.int a) (.int b)) (j8 a b):=by rw[Be];exact SimR.ite rfl trivial
theorem d6(a b:Int):SimR D.int (f6 (.int a) (.int b)) (iw a b):=by rw[DO];exact SimR.ite rfl trivial
theorem Sj(a b:Int):SimR D.int (Cb (.int a) (.int b)) (QP a b):=by rw[Ca];exact SimR.ite rfl trivial
theorem qh(a b:Int):SimR D.int (pM (.int a) (.int b)) (wD a b):=rfl
theorem qi(a b:Int):SimR D.int (pO (.int a) (.int b)) (wE a b):=rfl
theorem Dz(a b:Int):SimR D.bl (GN (.int a) (.int b)) (La a b):=rfl
theorem AI(a b:Int):SimR D.bl (Ff (.int a) (.int b)) (GO a b):=rfl
theorem Sl(a b:Int):SimR D.bl (Tg (.int a) (.int b)) (Vw a b):=rfl
theorem Dy(a:Int):SimR D.int (DG (.int a)) (IB a):=rfl
theorem Sq(a:Int):SimR D.int (Jz (.int a)) (Ui a):=rfl
theorem Ks(a:Bool):SimR D.bl (IA (.bl a)) (tV a):=rfl
theorem dN(neg:Bool)(a b:Int):SimR D.bl (mQ neg (.int a) (.int b)) (mD neg a b):=rfl
theorem Ku(neg:Bool)(a b:Bool):SimR D.bl (mQ neg (.bl a) (.bl b)) (mD neg a b):=rfl
@[simp] def lm(neg:Bool)(f:W->Bool)(a:W):Res Bool:=.ok (neg.xor (f a))
theorem d5{e:W->D}{m:P1->Res D}{c:Z->Res W}{neg:Bool}{f:W->Bool}(h:∀a,lX (e a)=f a)(b:EJ rep e m c):EJ rep D.bl (bn (ib neg) m (ax .non)) (aJ (lm neg f) c):=λs=>(b s).bnd λa=>by
 show ib neg (e a) .non=.ok (.bl (neg.xor (f a)));rw[<-h a];rfl
@[simp] def kY(o:Option W):Bool:=o.isNone
theorem hC{e:W->D}(h:∀a,lX (e a)=false)(o:Option W):lX (eO e o)=kY o:=by
 cases o with
 |none=>rfl
 |some a=>exact h a
theorem ar{m:P1->Res D}{c:Z->Res Bool}(h:EJ rep D.bl m c):EJ rep (id:Bool->Bool) (cq m) c:=λs=>by
 have h:=h s;cases q:c s with
 |ok a=>rw[q]at h;have h:m (rep s)=.ok (.bl a):=h;show cq m (rep s)=.ok a;unfold cq;rw[h];rfl
 |exc x=>rw[q]at h;have h:m (rep s)=.exc x:=h;show cq m (rep s)=.exc x;unfold cq;rw[h];rfl
 |bad=>trivial
@[simp] def lG(a b:Z->Res Bool):Z->Res Bool:=λs=>(a s).bind λc=>if c=true then b s else .ok false
@[simp] def Dq(a b:Z->Res Bool):Z->Res Bool:=λs=>(a s).bind λc=>if c=true then .ok true else b s
theorem gE{a b:P1->Res Bool}{c d:Z->Res Bool}(f:EJ rep (id:Bool->Bool) a c)(e:EJ rep (id:Bool->Bool) b d):EJ rep (id:Bool->Bool) (pW a b) (lG c d):=λs=>(f s).bnd λt=>SimR.ite (e s) rfl
theorem fS{a b:P1->Res Bool}{c d:Z->Res Bool}(f:EJ rep (id:Bool->Bool) a c)(e:EJ rep (id:Bool->Bool) b d):EJ rep (id:Bool->Bool) (vL a b) (Dq c d):=λs=>(f s).bnd λt=>SimR.ite rfl (e s)
theorem mR{a:P1->Res Bool}{c:Z->Res Bool}(b:EJ rep (id:Bool->Bool) a c):EJ rep (id:Bool->Bool) (wz a) (aJ tV c):=λs=>(b s).bnd λt=>rfl
theorem Fp{a b:P1->Res D}{c d:Z->Res Bool}(g:EJ rep D.bl a c)(f:EJ rep D.bl b d):EJ rep D.bl (Bx a b) (lG c d):=λs=>by
 have:=ar g s
 exact SimR.bnd (e:=(id:Bool->Bool)) this λt=>SimR.ite (f s) rfl
structure Dat (e:W->D) [DecidableEq W] where
 py:W->PyData
 dep:Nat
 h0:∀a,toPy (e a)=some (py a)
 lay:∀a,(py a).canLay0=true
 depth:∀a,(py a).depth<=dep
 eqv:∀a b,PyData.eqv (py a) (py b)=decide (a=b)
 nomix:∀a b,SeqAt.noMix (py a) (py b)=true
theorem Dat.same{e:W->D}[DecidableEq W](A:Dat e)(a b:W):PySem.Spec.same (A.py a) (A.py b)=decide (a=b):=by rw[<-A.eqv,SeqAt.same_eq_eqv _ _ (A.nomix a b)]
theorem Dat.shp{e:W->D}[DecidableEq W](A:Dat e)(hd:A.dep<=64)(a:W):SeqAt.shaped (A.py a)=true:=by
 unfold SeqAt.shaped;rw[A.lay a,Bool.true_and];exact decide_eq_true (Nat.le_trans (A.depth a) hd)
theorem DC{e:W->D}[DecidableEq W](A:Dat e)(hd:A.dep<=64)(neg:Bool)(a b:W):SimR D.bl (Li neg (e a) (e b)) (mD neg a b):=by
 show Li neg (e a) (e b)=.ok (.bl (neg.xor (decide (a=b))));unfold Li;rw[A.h0,A.h0];show(if _ then _ else _)=_;rw[if_pos ⟨A.shp hd a,A.shp hd b⟩,A.eqv]
@[simp] def Tc[DecidableEq W](neg:Bool)(a:W)(l:List W):Res Bool:=.ok (neg.xor (decide (a∈l)))
theorem Kt{e:W->D}[DecidableEq W](A:Dat e)(hd:A.dep<=60)(a:W)(l:List W):SimR D.bl (Ld (e a) (eL e l)) (Tc false a l):=by
 have:=(yL A.h0 A.lay (λa=>Wl (A.depth a) hd) A.same A.nomix a l).1
 show Ld (e a) (.lst (l.map e))=.ok (.bl (false.xor (decide (a∈l))));rw[this,Bool.false_xor]
theorem NR{e:W->D}[DecidableEq W](A:Dat e)(hd:A.dep<=60)(a:W)(l:List W):SimR D.bl (wC (e a) (eL e l)) (Tc true a l):=by
 have:=(yL A.h0 A.lay (λa=>Wl (A.depth a) hd) A.same A.nomix a l).2
 show wC (e a) (.lst (l.map e))=.ok (.bl (true.xor (decide (a∈l))));rw[this,Bool.true_xor]
def jd:Dat D.int:=⟨PyData.int,1,λ_=>rfl,λa=>by simp[PyData.canLay0],λa=>by simp[PyData.depth],λa b=>by simp only[PyData.eqv];exact XY _ _,λa b=>by simp[SeqAt.noMix]⟩
theorem nQ{g:W->PyData}[DecidableEq W](h:∀a b,PyData.eqv (g a) (g b)=decide (a=b)):∀t u:List W,PyData.eqvAll (t.map g) (u.map g)=decide (t=u)
 |[],[]=>by simp[PyData.eqvAll]
 |[],_::_=>by simp[PyData.eqvAll]
 |_::_,[]=>by simp[PyData.eqvAll]
 | r::t,q::u=>by
   rw[VN,VN,PyData.eqvAll,h,nQ h t u];by_cases d:r=q<;>by_cases c:t=u<;>simp[d,c]
end
section
variable{Z W X L K:Type}{rep:Z->P1}
theorem jR{g:W->PyData}(h:∀a b,SeqAt.noMix (g a) (g b)=true):∀t u:List W,SeqAt.noMixAll (t.map g) (u.map g)=true
 |[],[]=>by simp[SeqAt.noMixAll]
 |[],_::_=>by simp[SeqAt.noMixAll]
 |_::_,[]=>by simp[SeqAt.noMixAll]
 |r::t,q::u=>by rw[VN,VN,SeqAt.noMixAll,h,jR h t u];rfl
theorem nB{g:W->PyData}(h:∀a,(g a).canLay0=true):∀l:List W,PyData.canLayAll0 (l.map g)=true
 |[]=>by simp[PyData.canLayAll0]
 |a::l=>by simp[PyData.canLayAll0,h a,nB h l]
theorem kj{g:W->PyData}{n:Nat}(h:∀a,(g a).depth<=n):∀l:List W,PyData.depthAll (l.map g)<=n
 |[]=>by simp[PyData.depthAll]
 |a::l=>by rw[VN,PyData.depthAll];have:=h a;have:=kj h l;omega
def yY{e:W->D}[DecidableEq W](A:Dat e):Dat (eL e):=⟨λl=>.list (l.map A.py),A.dep+1,λl=>kQ A.h0 l,λl=>by rw[PyData.canLay0];exact nB A.lay l,λl=>by rw[PyData.depth];have:=kj A.depth l;omega,λa b=>by rw[PyData.eqv];exact nQ A.eqv a b,λa b=>by rw[SeqAt.noMix];exact jR A.nomix a b⟩
def w6{e:W->D}{c:X->D}[DecidableEq W][DecidableEq X](A:Dat e)(B:Dat c):Dat (pJ e c):=⟨λp=>.tuple [A.py p.1,B.py p.2],A.dep+B.dep+1,λp=>by
 show(toPys [e p.1,c p.2]).map PyData.tuple=_;rw[toPys,toPys,toPys,A.h0,B.h0];rfl,λp=>by rw[PyData.canLay0];simp[PyData.canLayAll0,A.lay,B.lay],λp=>by
 rw[PyData.depth];simp only[PyData.depthAll];have:=A.depth p.1;have:=B.depth p.2;omega,λa b=>by
 rw[PyData.eqv];simp only[PyData.eqvAll,A.eqv,B.eqv];obtain⟨j,i⟩:=a;obtain⟨h,g⟩:=b
 by_cases f:j=h<;>by_cases d:i=g<;>simp[f,d],λa b=>by rw[SeqAt.noMix];simp[SeqAt.noMixAll,A.nomix,B.nomix]⟩
theorem ka{d:PyData}(h:d≠ .none):PyData.eqv .none d=false/\PyData.eqv d .none=false/\SeqAt.noMix .none d=true/\SeqAt.noMix d .none=true:=by
 cases d with
 |none=>exact absurd rfl h
 |_=>simp[PyData.eqv,SeqAt.noMix]
def FG{e:W->D}[DecidableEq W](A:Dat e)(F:∀a,A.py a≠ .none):Dat (eO e):=⟨λo=>match o with|none=>.none|some a=>A.py a,A.dep+1,λo=>by
 cases o with
 |none=>rfl
 |some a=>exact A.h0 a,λo=>by
 cases o with
 |none=>simp[PyData.canLay0]
 |some a=>exact A.lay a,λo=>by
 cases o with
 |none=>simp[PyData.depth]
 |some a=>exact Yr (A.depth a),λa b=>by
 cases a with
 |none=>
   cases b with
   |none=>simp[PyData.eqv]
   |some b=>exact(ka (F b)).1.trans (by simp)
 |some a=>
   cases b with
   |none=>exact(ka (F a)).2.1.trans (by simp)
   |some b=>exact(A.eqv a b).trans (by simp),λa b=>by
 cases a with
 |none=>
   cases b with
   |none=>simp[SeqAt.noMix]
   |some b=>exact(ka (F b)).2.2.1
 |some a=>
   cases b with
   |none=>exact(ka (F a)).2.2.2
   |some b=>exact A.nomix a b⟩
theorem n5{e:W->D}[DecidableEq W](A:Dat e)(a:List W):(yY A).py a≠ .none:=λh=>PyData.noConfusion (show PyData.list (a.map A.py)=.none from h)
@[simp] def DE(_:Unit):Res (Option W):=.ok none
theorem zS{e:W->D}(u:Unit):SimR (eO e) (.ok (eN u)) (DE u):=rfl
@[simp] def LC(xs:List Unit):Res (List (Option W)):=.ok (xs.map λ_=>none)
theorem Jw{e:W->D}(xs:List Unit):SimR (eL (eO e)) (.ok (eL eN xs)) (LC xs):=by
 show Res.ok (D.lst (xs.map eN))=Res.ok (D.lst ((xs.map λ_=>(none:Option W)).map (eO e)));rw[Ws];rfl
@[simp] def VA(b:Bool)(_:W):Res Bool:=.ok b
theorem Fn{e:W->D}{n:String}{b:Bool}{m:P1->Res D}{c:Z->Res W}(h:∀a,E7 (e a) (.ty n)=.ok (.bl b))(d:EJ rep e m c):EJ rep D.bl (bn E7 m (ax (.ty n))) (aJ (VA b) c):=λs=>(d s).bnd λa=>h a
@[simp] def Si(b a:Bool)(o:Option W):Res Bool:=.ok (match o with|none=>b|some _=>a)
theorem NP{e:W->D}{n:D}{c b:Bool}(h0:E7 .non n=.ok (.bl c))(d:∀a,E7 (e a) n=.ok (.bl b))(o:Option W):SimR D.bl (E7 (eO e o) n) (Si c b o):=by
 cases o with
 |none=>exact h0
 |some a=>exact d a
@[simp] def i3:Z->Res (List W):=λ_=>.ok []
@[simp] def d9(a:Z->Res W)(r:Z->Res (List W)):Z->Res (List W):=λs=>(a s).bind λx=>(r s).bind λxs=>.ok (x::xs)
theorem cN{e:W->D}:EJ rep (List.map e) aE (i3:Z->Res (List W)):=λs=>rfl
theorem bS{e:W->D}{m:P1->Res D}{n:P1->Res (List D)}{c:Z->Res W}{d:Z->Res (List W)}(g:EJ rep e m c)(f:EJ rep (List.map e) n d):EJ rep (List.map e) (am m n) (d9 c d):=λs=>(g s).bnd λa=>(f s).bnd λb=>rfl
@[simp] def vM(c:Z->Res (List W)):Z->Res (List W):=λs=>(c s).bind λxs=>if xs.length<=af then .ok xs else .bad
theorem cO{e:W->D}{m:P1->Res (List D)}{c:Z->Res (List W)}(h:EJ rep (List.map e) m c):EJ rep (eL e) (lQ m) (vM c):=λs=>(h s).bnd λxs=>by rw[VO];exact SimR.ite rfl trivial
@[simp] def g7(a:Z->Res W)(b:Z->Res X):Z->Res (W×X):=λs=>(a s).bind λx=>(b s).bind λy=>.ok (x,y)
@[simp] def i5(xs:List W):Res Int:=.ok xs.length
theorem dZ{e:W->D}(xs:List W):SimR D.int (iD (eL e xs)) (i5 xs):=by show Res.ok (D.int _)=Res.ok (D.int _);rw[VO]
theorem NW(xs:List Int):SimR D.int (iD (eS xs)) (i5 xs):=by show Res.ok (D.int _)=Res.ok (D.int _);rw[VO]
theorem Ju{e:W->L}(xs:List W)(i:Int):iZ (xs.map e) i=(iZ xs i).map e:=by
 unfold iZ;rw[List.length_map];cases nF xs.length i with
 |none=>rfl
 |some j=>simp only[Option.bind_some,V9]
@[simp] def ja(xs:List W)(i:Int):Res W:=match iZ xs i with|some a=>.ok a|none=>.bad
theorem xI{e:W->D}(xs:List W)(i:Int):SimR e (Jv (xs.map e) i) (ja xs i):=by
 unfold Jv ja;rw[Ju];cases iZ xs i<;>trivial
theorem dg{e:W->D}(xs:List W)(i:Int):SimR e (pH (eL e xs) (.int i)) (ja xs i):=xI xs i
theorem Sk(xs:List Int)(i:Int):SimR D.int (pH (eS xs) (.int i)) (ja xs i):=xI xs i
theorem kX{e:W->D}(xs:List W)(i:Int):SimR e (yI (kg e xs) (.int i)) (ja xs i):=xI xs i
@[simp] def Th(p:W×X):Res W:=.ok p.1
@[simp] def Kz(p:W×X×L):Res X:=.ok p.2.1
@[simp] def QL(p:W×X×L):Res L:=.ok p.2.2
theorem uw{e:W->D}{b:X->D}{F:D->D->Res D}{f:W->Res X}{k:D}{m:P1->Res D}{c:Z->Res W}(h:∀a,SimR b (F (e a) k) (f a))(d:EJ rep e m c):EJ rep b (bn F m (ax k)) (aJ f c):=λs=>(d s).bnd λa=>h a
theorem Vn{e:W->D}{b:X->D}{a:L->D}(p:W×X×L):SimR e (yI (wZ e b a p) (.int 0)) (Th p):=rfl
theorem Vm{e:W->D}{b:X->D}{a:L->D}(p:W×X×L):SimR b (yI (wZ e b a p) (.int 1)) (Kz p):=rfl
theorem Vl{e:W->D}{b:X->D}{a:L->D}(p:W×X×L):SimR a (yI (wZ e b a p) (.int 2)) (QL p):=rfl
@[simp] def P5(xs a:List W):Res (List W):=if xs.length+a.length<=af then .ok (xs++a) else .bad
theorem Sm{e:W->D}(xs a:List W):SimR (eL e) (Jo (eL e xs) (eL e a)) (P5 xs a):=by
 show SimR (eL e) (if (xs.map e).length+(a.map e).length<=af then .ok (.lst (xs.map e++a.map e)) else .bad) (P5 xs a);rw[VO,VO];exact SimR.ite (by show Res.ok (D.lst _)=Res.ok (D.lst _);rw[Wm]) trivial
theorem NU{e:W->D}(xs:List W):SimR (eL e) (lb (eL e xs)) (OY xs):=rfl
theorem Iv{e:W->D}(xs:List W):SimR (eL e) (lb (kg e xs)) (OY xs):=rfl
theorem Ko{e:W->D}(xs:List W):SimR (kg e) (GS (eL e xs)) (OY xs):=rfl
noncomputable def CK(xs:List W)(k:Int):Res (List W):=@ite _ ((0<=k/\k<=1000000)/\xs.length*k.toNat<=af) (Classical.propDecidable _) (.ok (List.replicate k.toNat xs).flatten) .bad
theorem wm{xs:List W}{k:Int}(h0:0<=k)(b:k<=1000000)(a:xs.length*k.toNat<=af):CK xs k=.ok (List.replicate k.toNat xs).flatten:=by unfold CK;rw[if_pos ⟨⟨h0,b⟩,a⟩]
theorem yx{e:W->L}(xs:List W):∀k:Nat,(List.replicate k (xs.map e)).flatten=((List.replicate k xs).flatten).map e
 |0=>rfl
 |k+1=>by rw[Wn,Wn,WF,WF,Wm,yx xs k]
theorem Kq{e:W->D}(xs:List W)(k:Int):SimR (eL e) (tN (eL e xs) (.int k)) (CK xs k):=by
 show SimR _ (if (0<=k/\k<=1000000)/\(xs.map e).length*k.toNat<=af then Res.ok (D.lst (List.replicate k.toNat (xs.map e)).flatten) else Res.bad) _;rw[VO,yx];by_cases h:(0<=k/\k<=1000000)/\xs.length*k.toNat<=af
 ·rw[VL h,wm h.1.1 h.1.2 h.2];rfl
 ·unfold CK;rw[if_neg h,if_neg h];trivial
@[simp] def b9(p:W×W):Res (List W):=.ok [p.1,p.2]
theorem br{e:W->D}(p:W×W):SimR (kg e) (.ok (pJ e e p)) (b9 p):=rfl
@[simp] def uA(neg:Bool)(k:List Int)(F:DI X):Res Bool:=.ok (neg.xor (F.get k).isSome)
@[simp] def QE(F:DI X)(k:List Int):Res X:=match F.get k with|some b=>.ok b|none=>.bad
@[simp] def Vy(F:DI X)(k:List Int)(x:X):Res X:=.ok ((F.get k).getD x)
@[simp] def Tn(F:DI X)(k:List Int):Res (Option X):=.ok (F.get k)
theorem tU{e:X->D}(neg:Bool)(k:List Int)(F:DI X):SimR D.bl (mE neg (kg D.int k) (bp e F)) (uA neg k F):=by
 show mE neg (.tup (k.map D.int)) (bp e F)=.ok (.bl (neg.xor (F.get k).isSome));unfold mE;rw[gc];simp
theorem wy{e:X->D}(F:DI X)(k:List Int):SimR e (l7 (bp e F) (kg D.int k)) (QE F k):=by
 show SimR e (l7 (bp e F) (.tup (k.map D.int))) _;unfold l7 QE;rw[gc];cases F.get k<;>trivial
@[simp] def Le(b:Z->Res (DI X))(ck:Z->Res (List Int))(a:Z->Res X):Z->Res X:=λs=>(b s).bind λF=>(ck s).bind λk=>(a s).bind λx=>Vy F k x
theorem Ji{e:X->D}{b mk a:P1->Res D}{d:Z->Res (DI X)}{ck:Z->Res (List Int)}{c:Z->Res X}(h:EJ rep (bp e) b d)(g:EJ rep (kg D.int) mk ck)(f:EJ rep e a c):
 EJ rep e (yQ b mk a) (Le d ck c):=λs=>(h s).bnd λF=>by
 show SimR e (if true=true then _ else _) _;rw[if_pos rfl];refine(g s).bnd λk=>(f s).bnd λx=>?_;show fT (bp e F) (.tup (k.map D.int)) (e x)=.ok (e ((F.get k).getD x));unfold fT;rw[gc];cases F.get k<;>rfl
theorem Jj{e:X->D}{a mk:P1->Res D}{b:Z->Res (DI X)}{ck:Z->Res (List Int)}(d:EJ rep (bp e) a b)(c:EJ rep (kg D.int) mk ck):EJ rep (eO e) (qB a mk) (aI Tn b ck):=λs=>(d s).bnd λF=>by
 show SimR (eO e) (if true=true then _ else _) _;rw[if_pos rfl];refine(c s).bnd λk=>?_;show fT (bp e F) (.tup (k.map D.int)) .non=.ok (eO e (F.get k));unfold fT;rw[gc];cases F.get k<;>rfl
@[simp] def qq(F:DI X):Res (List (List Int)):=.ok (F.map (·.1))
theorem DB{e:X->D}(F:DI X):SimR (eL (kg D.int)) (yG (bp e F)) (qq F):=by
 show Res.ok (D.lst ((F.map λp=>p.1.map (Sum.inl:Int->ay)).map λk=>.tup (k.map kD)))=Res.ok (D.lst ((F.map (·.1)).map (kg D.int)));rw[Ws,Ws];refine congrArg (λz=>Res.ok (D.lst z)) (WM λp _=>?_);show D.tup ((p.1.map (Sum.inl:Int->ay)).map kD)=D.tup (p.1.map D.int);rw[Ws];rfl
@[simp] def EG(xs:List Int)(d:Int):Res Int:=.ok (match xs with | []=>d|x::r=>cX r x)
@[simp] def Kw(xs:List Int)(d:Int):Res Int:=.ok (match xs with | []=>d|x::r=>fZ r x)
theorem dy:∀l:List Int,bQ (l.map D.int)=some l
 |[]=>rfl
 |x::l=>by rw[VN,bQ,dy l];rfl
theorem Iw(xs:List Int)(d:Int):SimR D.int (nP cX (eL D.int xs) (.int d)) (EG xs d):=by
 show nP cX (.lst (xs.map D.int)) (.int d)=_;unfold nP;dsimp only;rw[dy];cases xs<;>rfl
theorem NS(xs:List Int)(d:Int):SimR D.int (nP fZ (eL D.int xs) (.int d)) (Kw xs d):=by
 show nP fZ (.lst (xs.map D.int)) (.int d)=_;unfold nP;dsimp only;rw[dy];cases xs<;>rfl
@[simp] def rL(xs:List Int):Res Int:=if xs.length<4000 then .ok (dd xs).length else .bad
theorem DA(xs:List Int):SimR D.int (nA (eL D.int xs)) (rL xs):=by
 show SimR D.int (nA (.lst (xs.map D.int))) _;unfold nA rL;dsimp only;rw[dy];exact SimR.ite rfl trivial
theorem mo:∀l:List Bool,gX (l.map D.bl)=some l
 |[]=>rfl
 |x::l=>by rw[VN,gX,mo l];rfl
@[simp] def Ug(xs:List Bool):Res Bool:=.ok (xs.any id)
theorem Sn(xs:List Bool):SimR D.bl (pV (eL D.bl xs)) (Ug xs):=by
 show pV (.lst (xs.map D.bl))=_;unfold pV;dsimp only;rw[mo]
theorem E5(k:Int×Int×List Int):ui (eK k)=some k:=by
 show(bQ (k.2.2.map D.int)).map (λns=>(k.1,k.2.1,ns))=some k;rw[dy];rfl
theorem qp:∀l:List (Int×Int×List Int),ga (l.map eK)=some l
 |[]=>rfl
 |k::l=>by rw[VN,ga,E5,qp l]
def jV:List (Int×Int×List Int)->Option (Int×Int×List Int)
 |[]=>none
 |k::r=>some (r.foldl (λb x=>if bj x b=true then x else b) k)
theorem lE(a:Nat->Nat->Bool)(n:Nat):PySem.argBest a (n+1)=if a (n+1) (PySem.argBest a n)=true then n+1 else PySem.argBest a n:=rfl
theorem s8:∀(n:Nat) (k:Int×Int×List Int) (r:List (Int×Int×List Int)),r.length=n->
 (k::r)[PySem.argBest (λi j=>bj ((k::r).getD i (0,0,[])) ((k::r).getD j (0,0,[]))) n]?=jV (k::r):=by
 intro n
 induction n with
 |zero=>
   intro k r h
   have:r=[]:=Wx.mp h
   subst this;rfl
 |succ n l=>
   intro k r h
   obtain⟨q,x,rfl⟩:∃q x,r=q++[x]:=by
    rcases List.eq_nil_or_concat r with z|⟨q,x,z⟩
    ·subst z;cases h
    ·exact⟨q,x,by rw[z,List.concat_eq_append]⟩
   have e:q.length=n:=by simpa using h
   have a:=l k q e
   have g:∀i,i<=n->(k::(q++[x])).getD i (0,0,[])=(k::q).getD i (0,0,[]):=λi hi=>by
    rw[<-Xs,V5,V5,WB (by simp;omega)]
   have p:∀m,m<=n->PySem.argBest (λi j=>bj ((k::(q++[x])).getD i (0,0,[])) ((k::(q++[x])).getD j (0,0,[]))) m=PySem.argBest (λi j=>bj ((k::q).getD i (0,0,[])) ((k::q).getD j (0,0,[]))) m:=by
    intro m
    induction m with
    |zero=>intro _;rfl
    |succ m d=>
      intro o;rw[lE,lE,d (by omega)];have f:=jF (λi j=>bj ((k::q).getD i (0,0,[])) ((k::q).getD j (0,0,[]))) m;rw[g (m+1) o,g _ (by omega)]
   rw[lE,p n (V2 _)];have f:=jF (λi j=>bj ((k::q).getD i (0,0,[])) ((k::q).getD j (0,0,[]))) n;generalize PySem.argBest (λi j=>bj ((k::q).getD i (0,0,[])) ((k::q).getD j (0,0,[]))) n=b at a f
   have e1:(k::(q++[x])).getD (n+1) (0,0,[])=x:=by
    rw[W8,V5,Ww (by omega),e,X9];rfl
   rw[e1,g b f]
   have c:jV (k::q)=some ((k::q).getD b (0,0,[])):=by
    rw[<-a,V5,V4 (by simp;omega)];rfl
   unfold jV at c ⊢;dsimp only at c ⊢;injection c with c
   rw[List.foldl_append,XA,List.foldl_nil,c];by_cases z:bj x ((k::q).getD b (0,0,[]))=true
   ·rw[VL z,VL z,Xu,Ww (by omega),e,X9];rfl
   ·rw[on z,on z,<-Xs,WB (by simp;omega),V4 (by simp;omega),V5,V4 (by simp;omega)];rfl
@[simp] def Ky(xs:List (Int×Int×List Int)):Res (Option (Int×Int×List Int)):=.ok (jV xs)
theorem NT(xs:List (Int×Int×List Int)):SimR (eO eK) (t8 (eL eK xs) .non) (Ky xs):=by
 cases xs with
 |nil=>rfl
 |cons k r=>
   have a:ga (eK k::r.map eK)=some (k::r):=qp (k::r);show t8 (.lst (eK k::r.map eK)) .non=.ok (eO eK (jV (k::r)));simp only[t8,a];rw[VO,show eK k::r.map eK=(k::r).map eK from rfl,V9,s8 _ k r rfl];rfl
end
section
variable{Z σ' W X L K:Type}{rep:Z->P1}{Y:σ'->P1}
def Rf(rep:Z->P1)(e:W->D)(a:List Nat):W×Z->P1:=λp=>some (e p.1)::dG (rep p.2) a
def gR(b:W->Res Bool)(te:W->Res X):List W->Res (List X)
 |[]=>.ok []
 |a::r=>(b a).calm.bind λc=>if c=true then (te a).calm.bind λx=>(gR b te r).bind λxs=>.ok (x::xs) else gR b te r
def kE(src:Z->Res (List W))(b:W×Z->Res Bool)(te:W×Z->Res X):Z->Res (List X):=λs=>(src s).bind λxs=>if xs.length<af then gR (λa=>b (a,s)) (λa=>te (a,s)) xs else .bad
theorem rZ{e:W->D}{i:X->D}{f:List Nat}{src:P1->Res (List D)}{g:P1->Res Bool}{te:P1->Res D}{b:Z->Res (List W)}{c:W×Z->Res Bool}{d:W×Z->Res X}
 (m:EJ rep (List.map e) src b) (k:EJ (Rf rep e f) (id:Bool->Bool) g c) (n:EJ (Rf rep e f) i te d):EJ rep (eL i) (i6 src f g te) (kE b c d):=λs=>(m s).bnd λxs=>by
 rw[VO];refine SimR.ite ?_ trivial
 have h:∀l:List W,SimR (List.map i) (a7 g te (dG (rep s) f) (l.map e)) (gR (λa=>c (a,s)) (λa=>d (a,s)) l):=by
  intro l
  induction l with
  |nil=>rfl
  |cons a l j=>
    rw[List.map_cons];unfold a7 gR;refine SimR.bnd (k (a,s)).calm λt=>SimR.ite (SimR.bnd (n (a,s)).calm λx=>SimR.bnd j λxs=>?_) j;rfl
 have:=h xs
 exact SimR.el this (λ_=>rfl) (λ_=>rfl) λ_=>trivial
theorem Fl:EJ rep (id:Bool->Bool) (λ_=>.ok true) (λ_=>.ok true):=λs=>rfl
theorem eC{e:W->D}{m:P1->Res D}{c:Z->Res (List W)}(h:EJ rep (eL e) m c):EJ rep (List.map e) (i0 m) c:=λs=>by
 have h:=h s;unfold i0;exact SimR.el h (λ_=>rfl) (λ_=>rfl) λ_=>trivial
def c9(lo hi:Int):List Int:=(List.range (hi-lo).toNat).map λi:Nat=>lo+i
noncomputable def kT(lo hi:Int):Res (List Int):=@ite _ (-(2 ^ 62)<=lo/\lo<2 ^ 62/\-(2 ^ 62)<=hi/\hi<2 ^ 62) (Classical.propDecidable _) (.ok (c9 lo hi)) .bad
theorem Ht(lo hi:Int):(c9 lo hi).map D.int=rng lo hi:=by unfold c9 rng;rw[List.map_map];rfl
theorem fy{lo hi:Int}(d:-(2 ^ 62)<=lo)(c:lo<2 ^ 62)(b:-(2 ^ 62)<=hi)(a:hi<2 ^ 62):kT lo hi=.ok (c9 lo hi):=by unfold kT;rw[if_pos ⟨d,c,b,a⟩]
theorem wX{a b:P1->Res D}{d c:Z->Res Int}(f:EJ rep D.int a d)(e:EJ rep D.int b c):EJ rep (List.map D.int) (v7 a b) (aI kT d c):=λs=>(f s).bnd λi=>(e s).bnd λj=>by
 show SimR _ (if -(2 ^ 62)<=i/\i<2 ^ 62/\-(2 ^ 62)<=j/\j<2 ^ 62 then _ else _) _;by_cases h:-(2 ^ 62)<=i/\i<2 ^ 62/\-(2 ^ 62)<=j/\j<2 ^ 62
 ·rw[VL h,fy h.1 h.2.1 h.2.2.1 h.2.2.2];exact congrArg Res.ok (Ht i j).symm
 ·unfold kT;rw[if_neg h,if_neg h];trivial
theorem ke{b:P1->Res D}{c:Z->Res Int}(d:EJ rep D.int b c):EJ rep (List.map D.int) (fq b) (aJ (kT 0) c):=λs=>wX (lB (a:=(0:Int)) rfl) d s
def OutC.res:OutC Z W->Res W
 |.ok a _=>.ok a
 |.exc x _=>.exc x
 |.bad=>.bad
@[simp] theorem Mm(a:W)(s:Z):(OutC.ok a s).res=.ok a:=rfl
@[simp] theorem Uz(x:Nat)(s:Z):(OutC.exc x s:OutC Z W).res=.exc x:=rfl
@[simp] theorem UA:(OutC.bad:OutC Z W).res=.bad:=rfl
@[simp] def bndO(r:Res W)(s:Z)(k:W->OutC Z X):OutC Z X:=match r with
 |.ok a=>k a
 |.exc x=>.exc x s
 |.bad=>.bad
theorem SimO.res{e:W->D}{b:List D->Out D}{ds:List D}{q:OutC Z W}(h:SimO rep e (b ds) q):SimR e (fk b ds) q.res:=by
 unfold fk;cases q with
 |ok a s=>rw[show b ds=_ from h];rfl
 |exc x s=>rw[show b ds=_ from h];rfl
 |bad=>trivial
theorem SimO.bndO{e:W->L}{b:X->K}{s:Z}{r:Res L}{q:Res W}{k:L->P1->Out K}{l:W->OutC Z X}(h:SimR e r q)(c:∀a,SimO rep b (k (e a) (rep s)) (l a)):SimO rep b ((r.up (rep s)).bind k) (Cl.bndO q s l):=by
 cases q with
 |ok a=>rw[show r=_ from h];exact c a
 |exc x=>rw[show r=_ from h];exact rfl
 |bad=>trivial
@[simp] def QJ(w:σ'->Z->Z)(s:Z):OutC σ' W->OutC Z W
 |.ok a b=>.ok a (w b s)
 |.exc x b=>.exc x (w b s)
 |.bad=>.bad
theorem SimO.wb{b:List Ap}{d:List D->Out D}{ds:List D}{e:W->D}{q:OutC σ' W}{w:σ'->Z->Z}(f:∀c s,bZ b 0 (Y c) (rep s)=rep (w c s))(h:SimO Y e (d ds) q)(s:Z):SimO rep e (bN b d ds (rep s)) (QJ w s q):=by
 unfold bN;cases q with
 |ok a c=>rw[show d ds=_ from h];show Out.ok _ _=Out.ok _ _;rw[f]
 |exc x c=>rw[show d ds=_ from h];show Out.exc _ _=Out.exc _ _;rw[f]
 |bad=>trivial
theorem pG{e:W->D}{eR:L->K}{m:P1->Res D}{r:P1->Res (List D)}{k:List D->Res K}{c:Z->Res W}{l:W->Res L}{s:Z}(h:EJ rep e m c)(g:∀x,SimR eR ((r (rep s)).bind λds=>k (e x::ds)) (l x)):SimR eR ((am m r (rep s)).bind k) ((c s).bind l):=by
 have h:=h s;unfold am;refine SimR.el h (λx=>?_) (λ_=>rfl) λ_=>trivial;have g:=g x;simp only[Res.bind];cases z:r (rep s)<;>rw[z]at g<;>exact g
theorem GL{e:W->D}{eR:L->K}{m:P1->Res D}{r:P1->Res (List D)}{k:List D->P1->Out K}{c:Z->Res W}{l:W->OutC Z L}{s:Z}(h:EJ rep e m c)(g:∀x,SimO rep eR (((r (rep s)).up (rep s)).bind λds T=>k (e x::ds) T) (l x)):SimO rep eR (((am m r (rep s)).up (rep s)).bind k) (bndO (c s) s l):=by
 have h:=h s;unfold am;refine SimR.el h (λx=>?_) (λ_=>rfl) λ_=>trivial;have g:=g x;simp only[Res.bind];cases z:r (rep s)<;>rw[z]at g<;>exact g
theorem Uf{r:Res W}{f:W->Res X}{g:X->Res L}:(r.bind f).bind g=r.bind λx=>(f x).bind g:=by cases r<;>rfl
theorem aQ{e:W->D}{f:X->D}{m n:P1->Res D}{c:Z->Res W}{d:Z->Res X}(h:EJ rep e m c)(g:EJ rep f n d):EJ rep (pJ e f) (i4 (am m (am n aE))) (g7 c d):=λs=>pG h λa=>pG g λb=>by simp only[aE,Res.bind];rw[VL (by show 2<=af;decide)];rfl
theorem yS{e:W->D}{h:X->D}{g:L->D}{m n o:P1->Res D}{c:Z->Res W}{d:Z->Res X}{f:Z->Res L}(k:EJ rep e m c)(j:EJ rep h n d)(i:EJ rep g o f):EJ rep (wZ e h g) (i4 (am m (am n (am o aE)))) (g7 c (g7 d f)):=λs=>pG k λa=>by
 show SimR _ _ (((d s).bind λy=>(f s).bind λz=>.ok (y,z)).bind λy=>.ok (a,y));rw[Uf];exact pG j λb=>by rw[Uf];exact pG i λz=>by simp only[aE,Res.bind];rw[VL (by show 3<=af;decide)];rfl
theorem C1{e:W->D}{eR:L->D}{c:Nat}{b:Str}{d:List D->Out D}{m:P1->Res D}{r:P1->Res (List D)}{q:Z->Res W}{l:W->Res L}{s:Z}(f:∀a,a8 c b (e a)=true)(h:EJ rep e m q)(g:∀x,SimR eR ((r (rep s)).bind λds=>fk d (e x::ds)) (l x)):SimR eR (pm c b d m r (rep s)) ((q s).bind l):=(h s).bnd λx=>by rw[VL (f x)];exact g x
theorem yw{e:W->D}{eR:L->D}{c:Nat}{d:Str}{b:List Ap}{f:List D->Out D}{m:P1->Res D}{r:P1->Res (List D)}{q:Z->Res W}{l:W->OutC Z L}{s:Z}(i:∀a,a8 c d (e a)=true)(h:EJ rep e m q)(g:∀x,SimO rep eR (((r (rep s)).up (rep s)).bind λds T=>bN b f (e x::ds) T) (l x)):SimO rep eR (mm c d b f m r (rep s)) (bndO (q s) s l):=SimO.bndO (h s) λx=>by rw[VL (i x)];exact g x
variable{α0 α1 α2 α3 α4 α5:Type}{e0:α0->D}{e1:α1->D}{e2:α2->D}{e3:α3->D}{e4:α4->D}{e5:α5->D}{m0 m1 m2 m3 m4 m5:P1->Res D}{c0:Z->Res α0}{c1:Z->Res α1}{c2:Z->Res α2}{c3:Z->Res α3}{c4:Z->Res α4}{c5:Z->Res α5}{eR:L->D}{fm:List D->Out D}{w:σ'->Z->Z}{plan:List Ap}{c:Nat}{mn:Str}
@[simp] def mw(f:α0->OutC σ' L)(c0:Z->Res α0):Z->Res L:=λs=>(c0 s).bind λa=>(f a).res
@[simp] def S3(f:α0->OutC σ' L)(w:σ'->Z->Z)(c0:Z->Res α0):Z->OutC Z L:=λs=>bndO (c0 s) s λa=>QJ w s (f a)
@[simp] def HP(f:α0->Res L)(c0:Z->Res α0):Z->Res L:=λs=>(c0 s).bind λa=>f a
theorem nR{f:α0->OutC σ' L}(b:∀a,SimO Y eR (fm [e0 a]) (f a))(h0:EJ rep e0 m0 c0):EJ rep eR (pc fm (am m0 aE)) (mw f c0):=λs=>pG h0 λa=>(b a).res
theorem wY{f:α0->Res L}(b:∀a,SimR eR (f8 c fm [e0 a]) (f a))(h0:EJ rep e0 m0 c0):EJ rep eR (pk c fm (am m0 aE)) (HP f c0):=λs=>pG h0 λa=>b a
theorem rX{f:α0->OutC σ' L}(d:∀a,a8 c mn (e0 a)=true)(e:∀b,SimO Y eR (fm [e0 b]) (f b))(h0:EJ rep e0 m0 c0):EJ rep eR (pm c mn fm m0 aE) (mw f c0):=λs=>C1 d h0 λb=>(e b).res
theorem NY{f:α0->OutC σ' L}(g:∀a,a8 c mn (e0 a)=true)(e:∀d s,bZ plan 0 (Y d) (rep s)=rep (w d s))(h:∀b,SimO Y eR (fm [e0 b]) (f b))(h0:EJ rep e0 m0 c0):NJ rep eR (mm c mn plan fm m0 aE) (S3 f w c0):=λs=>yw g h0 λb=>SimO.wb e (h b) s
@[simp] def da(f:α0->α1->OutC σ' L)(c0:Z->Res α0)(c1:Z->Res α1):Z->Res L:=λs=>(c0 s).bind λb=>(c1 s).bind λa=>(f b a).res
@[simp] def AV(f:α0->α1->OutC σ' L)(w:σ'->Z->Z)(c0:Z->Res α0)(c1:Z->Res α1):Z->OutC Z L:=λs=>bndO (c0 s) s λb=>bndO (c1 s) s λa=>QJ w s (f b a)
@[simp] def ML(f:α0->α1->Res L)(c0:Z->Res α0)(c1:Z->Res α1):Z->Res L:=λs=>(c0 s).bind λb=>(c1 s).bind λa=>f b a
theorem Ra{eR:L->K}{k:List D->Res K}{f:α0->α1->Res L}(c:∀b a,SimR eR (k [e0 b,e1 a]) (f b a))(h0:EJ rep e0 m0 c0)(d:EJ rep e1 m1 c1):EJ rep eR (λT=>(((am m0 (am m1 aE))) T).bind k) (ML f c0 c1):=λs=>pG h0 λb=>pG d λa=>c b a
theorem fQ{f:α0->α1->OutC σ' L}(c:∀b a,SimO Y eR (fm [e0 b,e1 a]) (f b a))(h0:EJ rep e0 m0 c0)(d:EJ rep e1 m1 c1):EJ rep eR (pc fm (am m0 (am m1 aE))) (da f c0 c1):=λs=>pG h0 λb=>pG d λa=>(c b a).res
theorem cC{f:α0->α1->OutC σ' L}(e:∀a,a8 c mn (e0 a)=true)(g:∀d b,SimO Y eR (fm [e0 d,e1 b]) (f d b))(h0:EJ rep e0 m0 c0)(h:EJ rep e1 m1 c1):EJ rep eR (pm c mn fm m0 (am m1 aE)) (da f c0 c1):=λs=>C1 e h0 λd=>pG h λb=>(g d b).res
theorem nj{f:α0->α1->OutC σ' L}(h:∀a,a8 c mn (e0 a)=true)(g:∀e s,bZ plan 0 (Y e) (rep s)=rep (w e s))(i:∀d b,SimO Y eR (fm [e0 d,e1 b]) (f d b))(h0:EJ rep e0 m0 c0)(j:EJ rep e1 m1 c1):NJ rep eR (mm c mn plan fm m0 (am m1 aE)) (AV f w c0 c1):=λs=>yw h h0 λd=>GL j λb=>SimO.wb g (i d b) s
@[simp] def kW(f:α0->α1->α2->OutC σ' L)(c0:Z->Res α0)(c1:Z->Res α1)(c2:Z->Res α2):Z->Res L:=λs=>(c0 s).bind λc=>(c1 s).bind λb=>(c2 s).bind λa=>(f c b a).res
@[simp] def k9(f:α0->α1->α2->OutC σ' L)(w:σ'->Z->Z)(c0:Z->Res α0)(c1:Z->Res α1)(c2:Z->Res α2):Z->OutC Z L:=λs=>bndO (c0 s) s λc=>bndO (c1 s) s λb=>bndO (c2 s) s λa=>QJ w s (f c b a)
theorem rY{f:α0->α1->α2->OutC σ' L}(d:∀c b a,SimO Y eR (fm [e0 c,e1 b,e2 a]) (f c b a))(h0:EJ rep e0 m0 c0)(g:EJ rep e1 m1 c1)(e:EJ rep e2 m2 c2):EJ rep eR (pc fm (am m0 (am m1 (am m2 aE)))) (kW f c0 c1 c2):=λs=>pG h0 λc=>pG g λb=>pG e λa=>(d c b a).res
theorem lA{f:α0->α1->α2->OutC σ' L}(g:∀a,a8 c mn (e0 a)=true)(h:∀e d b,SimO Y eR (fm [e0 e,e1 d,e2 b]) (f e d b))(h0:EJ rep e0 m0 c0)(j:EJ rep e1 m1 c1)(i:EJ rep e2 m2 c2):EJ rep eR (pm c mn fm m0 (am m1 (am m2 aE))) (kW f c0 c1 c2):=λs=>C1 g h0 λe=>pG j λd=>pG i λb=>(h e d b).res
theorem d4{f:α0->α1->α2->OutC σ' L}(i:∀a,a8 c mn (e0 a)=true)(h:∀g s,bZ plan 0 (Y g) (rep s)=rep (w g s))(j:∀e d b,SimO Y eR (fm [e0 e,e1 d,e2 b]) (f e d b))(h0:EJ rep e0 m0 c0)(l:EJ rep e1 m1 c1)(k:EJ rep e2 m2 c2):NJ rep eR (mm c mn plan fm m0 (am m1 (am m2 aE))) (k9 f w c0 c1 c2):=λs=>yw i h0 λe=>GL l λd=>GL k λb=>SimO.wb h (j e d b) s
@[simp] def IK(f:α0->α1->α2->α3->OutC σ' L)(w:σ'->Z->Z)(c0:Z->Res α0)(c1:Z->Res α1)(c2:Z->Res α2)(c3:Z->Res α3):Z->OutC Z L:=λs=>bndO (c0 s) s λd=>bndO (c1 s) s λc=>bndO (c2 s) s λb=>bndO (c3 s) s λa=>QJ w s (f d c b a)
theorem NZ{f:α0->α1->α2->α3->OutC σ' L}(g:∀e s,bZ plan 0 (Y e) (rep s)=rep (w e s))(h:∀d c b a,SimO Y eR (fm [e0 d,e1 c,e2 b,e3 a]) (f d c b a))(h0:EJ rep e0 m0 c0)(k:EJ rep e1 m1 c1)(j:EJ rep e2 m2 c2)(i:EJ rep e3 m3 c3):NJ rep eR (mc plan fm (am m0 (am m1 (am m2 (am m3 aE))))) (IK f w c0 c1 c2 c3):=λs=>GL h0 λd=>GL k λc=>GL j λb=>GL i λa=>SimO.wb g (h d c b a) s
theorem NX{f:α0->α1->α2->α3->OutC σ' L}(j:∀a,a8 c mn (e0 a)=true)(i:∀h s,bZ plan 0 (Y h) (rep s)=rep (w h s))(k:∀g e d b,SimO Y eR (fm [e0 g,e1 e,e2 d,e3 b]) (f g e d b))(h0:EJ rep e0 m0 c0)(n:EJ rep e1 m1 c1)(m:EJ rep e2 m2 c2)(l:EJ rep e3 m3 c3):NJ rep eR (mm c mn plan fm m0 (am m1 (am m2 (am m3 aE)))) (IK f w c0 c1 c2 c3):=λs=>yw j h0 λg=>GL n λe=>GL m λd=>GL l λb=>SimO.wb i (k g e d b) s
@[simp] def M4(f:α0->α1->α2->α3->α4->OutC σ' L)(c0:Z->Res α0)(c1:Z->Res α1)(c2:Z->Res α2)(c3:Z->Res α3)(c4:Z->Res α4):Z->Res L:=λs=>(c0 s).bind λe=>(c1 s).bind λd=>(c2 s).bind λc=>(c3 s).bind λb=>(c4 s).bind λa=>(f e d c b a).res
theorem Fm{f:α0->α1->α2->α3->α4->OutC σ' L}(g:∀e d c b a,SimO Y eR (fm [e0 e,e1 d,e2 c,e3 b,e4 a]) (f e d c b a))(h0:EJ rep e0 m0 c0)(k:EJ rep e1 m1 c1)(j:EJ rep e2 m2 c2)(i:EJ rep e3 m3 c3)(h:EJ rep e4 m4 c4):EJ rep eR (pc fm (am m0 (am m1 (am m2 (am m3 (am m4 aE)))))) (M4 f c0 c1 c2 c3 c4):=λs=>pG h0 λe=>pG k λd=>pG j λc=>pG i λb=>pG h λa=>(g e d c b a).res
end
section
variable{Z σ' W X L K:Type}{rep:Z->P1}{eR:X->D}
@[simp] def aN(c:Z->Res W):Z->OutC Z W:=λs=>match c s with
 |.ok a=>.ok a s
 |.exc x=>.exc x s
 |.bad=>.bad
theorem ac{e:W->L}{m:P1->Res L}{c:Z->Res W}(h:EJ rep e m c):NJ rep e (av m) (aN c):=λs=>by
 have h:=h s;unfold aN av;refine SimR.el h (λa=>?_) (λ_=>rfl) λ_=>trivial;rfl
@[simp] def Bw(o:OutC Z W)(k:W->Z->OutC Z X):OutC Z X:=match o with
 |.ok a s=>k a s
 |.exc x s=>.exc x s
 |.bad=>.bad
theorem SimO.bd{e:W->L}{b:X->K}{r:Out L}{q:OutC Z W}{k:L->P1->Out K}{l:W->Z->OutC Z X}(h:SimO rep e r q)(c:∀a s,SimO rep b (k (e a) (rep s)) (l a s)):SimO rep b (r.bind k) (Bw q l):=by
 cases q with
 |ok a s=>rw[show r=_ from h];exact c a s
 |exc x s=>rw[show r=_ from h];exact rfl
 |bad=>trivial
theorem jT{e:W->D}{i:X->D}{m:P1->Out D}{c:Z->OutC Z W}{f:W->Res X}(h:∀a,SimR i (.ok (e a)) (f a))(d:NJ rep e m c):NJ rep i m (λs=>Bw (c s) λa s=>bndO (f a) s λb=>.ok b s):=λs=>by
 have d:=d s;dsimp only;cases q:c s with
 |ok a g=>
   rw[q]at d;rw[show m (rep s)=_ from d]
   have:=h a
   show SimO rep i (.ok (e a) (rep g)) (bndO (f a) g λb=>.ok b g);cases j:f a with
   |ok b=>rw[j]at this;have this:Res.ok (e a)=.ok (i b):=this;injection this with this;rw[this];rfl
   |exc x=>rw[j]at this;cases this
   |bad=>trivial
 |exc x g=>rw[q]at d;exact d
 |bad=>trivial
@[simp] def N5(g:Z->Option W)(b:Z->Z):Z->OutC Z W:=λs=>match g s with|some a=>.ok a (b s)|none=>.bad
theorem tZ{e:W->D}{i:Nat}{g:Z->Option W}{b:Z->Z}(h:∀s,rg (rep s) i=(g s).map e)(c:∀s,(rep s).set i none=rep (b s)):NJ rep e (GM i) (N5 g b):=λs=>by
 unfold GM N5;rw[h s];cases g s with
 |none=>trivial
 |some a=>show Out.ok _ _=Out.ok _ _;rw[c]
@[simp] def E3(g:Z->Option (List W))(p:Z->List W->Z)(f:List W->K->Option (L×List W))(c:Z->Res K):Z->OutC Z L:=λs=>match g s with
 |none=>.bad
 | some xs=>bndO (c s) s λx=>match f xs x with
   |some (r,a)=>.ok r (p s a)
   |none=>.bad
def pq(xs:List W)(x:W):Option (Unit×List W):=if xs.length<af then some ((),xs++[x]) else none
def Ax(xs:List W)(i:Int):Option (W×List W):=if 0<=i/\i<xs.length/\xs.length<=af then xs[i.toNat]?.map λd=>(d,xs.eraseIdx i.toNat) else none
def wq[DecidableEq W](xs:List W)(x:W):Option (Unit×List W):=(xs.findIdx? λy=>decide (y=x)).map λj=>((),xs.eraseIdx j)
def JB{δ':Type}(e:W->D)(e1:K->D)(b:L->D)(F:List D->D->Option (D×List D))(f:List W->K->Option (L×List W)):Prop:=∀xs x,match f xs x with
 |some (r,a)=>F (xs.map e) (e1 x)=some (b r,a.map e)
 |none=>True
theorem lw{e:W->L}:∀(xs:List W) (i:Nat),(xs.map e).eraseIdx i=(xs.eraseIdx i).map e
 |[],i=>by simp
 |x::xs,0=>by simp
 |x::xs,i+1=>by rw[VN,WH,WH,VN,lw xs i]
theorem nO{e:W->D}:JB (δ':=Unit) e e eN mF pq:=λxs x=>by
 unfold pq mF;rw[List.length_map];by_cases h:xs.length<af
 ·rw[VL h,VL h];show some (D.non,xs.map e++[e x])=some (eN (),(xs++[x]).map e);rw[Wm];rfl
 ·rw[on h];trivial
theorem Tk{e:W->D}:JB (δ':=Unit) e D.int e CZ Ax:=λxs i=>by
 unfold Ax CZ;dsimp only;rw[List.length_map];by_cases h:0<=i/\i<xs.length/\xs.length<=af
 · rw[VL h,VL h,V9];cases xs[i.toNat]? with
   |none=>trivial
   |some a=>
     show some (e a,(xs.map e).eraseIdx i.toNat)=some (e a,(xs.eraseIdx i.toNat).map e);rw[lw]
 ·rw[on h];trivial
theorem lY{e:W->PyData}{p:PyData->Bool}:∀xs:List W,(xs.map e).findIdx? p=xs.findIdx? λx=>p (e x)
 |[]=>rfl
 |x::xs=>by rw[VN,List.findIdx?_cons,List.findIdx?_cons,lY xs]
theorem Tj{e:W->D}[DecidableEq W](A:Dat e)(hd:A.dep<=64):JB (δ':=Unit) e e eN Ar wq:=λxs x=>by
 have b:((xs.map A.py).all SeqAt.shaped)=true:=by
  rw[YL,WW];exact λa _=>A.shp hd a
 unfold wq Ar;rw[A.h0,kP A.h0];dsimp only;rw[if_pos ⟨A.shp hd x,b⟩,lY];have c:(λy=>PyData.eqv (A.py y) (A.py x))=λy=>decide (y=x):=funext λy=>A.eqv y x;rw[c];cases xs.findIdx? λy=>decide (y=x) with
 |none=>trivial
 |some j=>
   show some (D.non,(xs.map e).eraseIdx j)=some (eN (),(xs.eraseIdx j).map e);rw[lw];rfl
theorem jS{e:W->D}{e1:K->D}{a:L->D}{get:P1->Option D}{set:P1->D->P1}{g:Z->Option (List W)}{p:Z->List W->Z}{F:List D->D->Option (D×List D)}{f:List W->K->Option (L×List W)}{m:P1->Res D}{c:Z->Res K}
 (j:∀s,get (rep s)=(g s).map (eL e)) (i:∀s xs,set (rep s) (eL e xs)=rep (p s xs)) (hF:JB (δ':=Unit) e e1 a F f) (d:EJ rep e1 m c):NJ rep a (iz get set F m) (E3 g p f c):=λs=>by
 have d:=d s;unfold iz E3;rw[j];cases g s with
 |none=>trivial
 |some xs=>
   show SimO rep a (ON set F (rep s) (xs.map e) (m (rep s))) (bndO (c s) s _);refine SimR.el d (λx=>?_) (λ_=>rfl) λ_=>trivial
   have:=hF xs x
   show SimO rep a (OO set (rep s) (F (xs.map e) (e1 x))) (match f xs x with|some (r,b)=>OutC.ok r (p s b)|none=>.bad);cases h:f xs x with
   |none=>trivial
   |some r=>
     rw[h]at this;obtain⟨r,b⟩:=r;have this:F (xs.map e) (e1 x)=some (a r,b.map e):=this;rw[this];show Out.ok _ _=Out.ok _ _;rw[<-i];rfl
@[simp] def uz(g:Z->Option (DI W))(p:Z->DI W->Z)(ck:Z->Res (List Int)):Z->OutC Z W:=λs=>match g s with
 |none=>.bad
 | some F=>bndO (ck s) s λk=>match F.get k with
   |some x=>.ok x (p s (F.del k))
   |none=>.bad
theorem rE{e:W->D}{get:P1->Option D}{set:P1->D->P1}{g:Z->Option (DI W)}{p:Z->DI W->Z}{mk:P1->Res D}{ck:Z->Res (List Int)}(d:∀s,get (rep s)=(g s).map (bp e))(c:∀s F,set (rep s) (bp e F)=rep (p s F))(a:EJ rep (kg D.int) mk ck):NJ rep e (l5 get set mk) (uz g p ck):=λs=>by
 have a:=a s;unfold l5 uz;rw[d];cases g s with
 |none=>trivial
 |some F=>
   show SimO rep e (uy set (bp e F) (rep s) (mk (rep s))) (bndO (ck s) s _);refine SimR.el a (λk=>?_) (λ_=>rfl) λ_=>trivial;show SimO rep e (uy set (bp e F) (rep s) (.ok (.tup (k.map D.int)))) (match F.get k with|some x=>OutC.ok x (p s (F.del k))|none=>.bad);cases b:F.get k with
   |none=>trivial
   |some x=>
     unfold uy;dsimp only;rw[Fw b];show Out.ok _ _=Out.ok _ _;rw[c]
end
section
variable{Z σ' W X L K:Type}{rep:Z->P1}{eR:X->D}
@[simp] def Js(o:OutC Z W)(k:W->Z->FlC Z X):FlC Z X:=match o with
 |.ok a s=>k a s
 |.exc x s=>.exc x s
 |.bad=>.bad
theorem SimS.bd{e:W->L}{r:Out L}{q:OutC Z W}{k:L->P1->SO}{l:W->Z->FlC Z X}(h:SimO rep e r q)(b:∀a s,SimS rep eR (k (e a) (rep s)) (l a s)):SimS rep eR (fW r k) (Js q l):=by
 cases q with
 |ok a s=>rw[show r=_ from h];exact b a s
 |exc x s=>rw[show r=_ from h];exact rfl
 |bad=>trivial
theorem SimS.ite{p:Prop}[Decidable p]{r a:SO}{q b:FlC Z X}(h:SimS rep eR r q)(h':SimS rep eR a b):SimS rep eR (if p then r else a) (if p then q else b):=by
 by_cases z:p
 ·rw[VL z,VL z];exact h
 ·rw[on z,on z];exact h'
@[simp] def ak(a b:Z->FlC Z X):Z->FlC Z X:=λs=>match a s with
 |.nx c=>b c
 |o=>o
theorem aa{a b:P1->SO}{c d:Z->FlC Z X}(e:TJ rep eR a c)(g:TJ rep eR b d):TJ rep eR (ah a b) (ak c d):=λs=>by
 have e:=e s;unfold ah ak;cases q:c s with
 |nx f=>rw[q]at e;rw[show a (rep s)=_ from e];exact g f
 |rt b f=>rw[q]at e;rw[show a (rep s)=_ from e];rfl
 |bk f=>rw[q]at e;rw[show a (rep s)=_ from e];rfl
 |ct f=>rw[q]at e;rw[show a (rep s)=_ from e];rfl
 |exc x f=>rw[q]at e;rw[show a (rep s)=_ from e];rfl
 |bad=>trivial
@[simp] def bz:Z->FlC Z X:=λs=>.nx s
@[simp] def pU:Z->FlC Z X:=λ_=>.bad
theorem aG:TJ rep eR ba bz:=λs=>rfl
theorem gv{m:P1->SO}:TJ rep eR m pU:=λs=>trivial
@[simp] def bB(c:Z->OutC Z X):Z->FlC Z X:=λs=>Js (c s) λb s=>.rt b s
theorem aC{m:P1->Out D}{c:Z->OutC Z X}(h:NJ rep eR m c):TJ rep eR (bD m) (bB c):=λs=>SimS.bd (h s) λb s=>rfl
@[simp] def J0(b:X):Z->FlC Z X:=λs=>.rt b s
theorem GU{b:X}(h:eR b=.non):TJ rep eR Hu (J0 b):=λs=>by show SO.rt .non _=SO.rt (eR b) _;rw[h]
@[simp] def aA(c:Z->OutC Z W):Z->FlC Z X:=λs=>Js (c s) λ_ s=>.nx s
theorem aj{e:W->D}{m:P1->Out D}{c:Z->OutC Z W}(h:NJ rep e m c):TJ rep eR (aB m) (aA c):=λs=>SimS.bd (h s) λb s=>rfl
@[simp] def bK(u:W->Z->Z)(c:Z->OutC Z W):Z->FlC Z X:=λs=>Js (c s) λa s=>.nx (u a s)
theorem LJ{e:W->D}{i:Nat}{m:P1->Out D}{c:Z->OutC Z W}{u:W->Z->Z}(b:∀a s,(rep s).set i (some (e a))=rep (u a s))(h:NJ rep e m c):TJ rep eR (bE i m) (bK u c):=λs=>SimS.bd (h s) λa s=>by show SO.nx _=SO.nx _;rw[b]
@[simp] def ic(t:Z->OutC Z Bool)(a b:Z->FlC Z X):Z->FlC Z X:=λs=>Js (t s) λc s=>if c=true then a s else b s
theorem bf{t:P1->Out Bool}{a b:P1->SO}{ct:Z->OutC Z Bool}{c d:Z->FlC Z X}(e:NJ rep (id:Bool->Bool) t ct)(g:TJ rep eR a c)(f:TJ rep eR b d):TJ rep eR (gb t a b) (ic ct c d):=λs=>SimS.bd (e s) λt s=>SimS.ite (g s) (f s)
def mC(u:W->Z->Z)(b:Z->FlC Z X):List W->Z->FlC Z X
 |[],s=>.nx s
 | a::r,s=>match b (u a s) with
   |.nx c=>mC u b r c
   |.ct c=>mC u b r c
   |.bk c=>.nx c
   |o=>o
theorem re{e:W->D}{i:D->P1->Option P1}{d:P1->SO}{u:W->Z->Z}{c:Z->FlC Z X}(j:∀a s,i (e a) (rep s)=some (rep (u a s)))(h:TJ rep eR d c):∀(xs:List W) (s:Z),SimS rep eR (rV i d (xs.map e) (rep s)) (mC u c xs s)
 |[],s=>rfl
 | a::r,s=>by
   have f:=h (u a s);rw[List.map_cons];unfold rV mC;rw[j];dsimp only;cases q:c (u a s) with
   |nx g=>rw[q]at f;rw[show d (rep (u a s))=_ from f];exact re j h r g
   |ct g=>rw[q]at f;rw[show d (rep (u a s))=_ from f];exact re j h r g
   |bk g=>rw[q]at f;rw[show d (rep (u a s))=_ from f];rfl
   |rt b g=>rw[q]at f;rw[show d (rep (u a s))=_ from f];rfl
   |exc x g=>rw[q]at f;rw[show d (rep (u a s))=_ from f];rfl
   |bad=>trivial
@[simp] def dP(src:Z->Res (List W))(u:W->Z->Z)(a:Z->FlC Z X):Z->FlC Z X:=λs=>match src s with
 |.ok xs=>mC u a xs s
 |.exc x=>.exc x s
 |.bad=>.bad
theorem bY{e:W->D}{src:P1->Res (List D)}{b:Z->Res (List W)}{f:D->P1->Option P1}{d:P1->SO}{u:W->Z->Z}{c:Z->FlC Z X}(g:EJ rep (List.map e) src b)(i:∀a s,f (e a) (rep s)=some (rep (u a s)))(h:TJ rep eR d c):TJ rep eR (dh (av src) f d) (dP b u c):=λs=>by
 have g:=g s;unfold dh av dP;refine SimR.el g (λxs=>?_) (λ_=>rfl) λ_=>trivial;exact re i h xs s
def BH(t:Z->OutC Z Bool)(a:Z->FlC Z X):Nat->Z->FlC Z X
 |0,_=>.bad
 | n+1,s=>match t s with
   | .ok true b=>(match a b with
     |.nx c=>BH t a n c
     |.ct c=>BH t a n c
     |.bk c=>.nx c
     |o=>o)
   |.ok false b=>.nx b
   |.exc x b=>.exc x b
   |.bad=>.bad
theorem xS{t:P1->Out Bool}{a:P1->SO}{ct:Z->OutC Z Bool}{c:Z->FlC Z X}(i:NJ rep (id:Bool->Bool) t ct)(h:TJ rep eR a c):∀n,TJ rep eR (vP t a n) (BH ct c n)
 |0=>λs=>trivial
 | n+1=>λs=>by
   have g:=i s;unfold vP BH;cases q:ct s with
   |ok b e=>
     rw[q]at g;rw[show t (rep s)=_ from g];cases b with
     |false=>rfl
     |true=>
       have d:=h e;show SimS rep eR (match a (rep e) with | .nx G=>vP t a n G | .ct G=>vP t a n G | .bk G=>.nx G | o=>o) _;dsimp only;cases q:c e with
       |nx f=>rw[q]at d;rw[show a (rep e)=_ from d];exact xS i h n f
       |ct f=>rw[q]at d;rw[show a (rep e)=_ from d];exact xS i h n f
       |bk f=>rw[q]at d;rw[show a (rep e)=_ from d];rfl
       |rt b f=>rw[q]at d;rw[show a (rep e)=_ from d];rfl
       |exc x f=>rw[q]at d;rw[show a (rep e)=_ from d];rfl
       |bad=>trivial
   |exc x e=>rw[q]at g;rw[show t (rep s)=_ from g];rfl
   |bad=>trivial
@[simp] def kh(g:Z->Option (DI W))(p:Z->DI W->Z)(ck:Z->Res (List Int))(a:Z->OutC Z W):Z->FlC Z X:=λs=>Js (a s) λx s=>match g s with
 |none=>.bad
 | some F=>(match ck s with
   |.ok k=>if F.length<af then .nx (p s (F.put k x)) else .bad
   |.exc y=>.exc y s
   |.bad=>.bad)
theorem fo{e:W->D}{get:P1->Option D}{set:P1->D->P1}{g:Z->Option (DI W)}{p:Z->DI W->Z}{mk:P1->Res D}{ck:Z->Res (List Int)}{b:P1->Out D}{c:Z->OutC Z W}(i:∀s,get (rep s)=(g s).map (bp e))(f:∀s F,set (rep s) (bp e F)=rep (p s F))
 (a:EJ rep (kg D.int) mk ck) (d:NJ rep e b c):TJ rep eR (ge get set mk b) (kh g p ck c):=λs=>SimS.bd (d s) λx s=>by
 have a:=a s;rw[i];cases g s with
 |none=>trivial
 |some F=>
   show SimS rep eR (l4 set (e x) (bp e F) (rep s) (mk (rep s))) _;dsimp only;refine SimR.el a (λk=>?_) (λ_=>rfl) λ_=>trivial;show SimS rep eR (l4 set (e x) (bp e F) (rep s) (.ok (.tup (k.map D.int)))) (if F.length<af then FlC.nx (p s (F.put k x)) else .bad);by_cases h:F.length<af
   ·rw[if_pos h];unfold l4;dsimp only;rw[Fv h];show SO.nx _=SO.nx _;rw[f]
   ·rw[on h];trivial
@[simp] def yE(g:Z->Option (List W))(p:Z->List W->Z)(ck:Z->Res Int)(a:Z->OutC Z W):Z->FlC Z X:=λs=>Js (a s) λx s=>match g s with
 |none=>.bad
 | some xs=>(match ck s with
   |.ok i=>(match nF xs.length i with|some j=>.nx (p s (xs.set j x))|none=>.bad)
   |.exc y=>.exc y s
   |.bad=>.bad)
theorem qW{e:W->D}{get:P1->Option D}{set:P1->D->P1}{g:Z->Option (List W)}{p:Z->List W->Z}{mk:P1->Res D}{ck:Z->Res Int}{b:P1->Out D}{c:Z->OutC Z W}(h:∀s,get (rep s)=(g s).map (eL e))(f:∀s F,set (rep s) (eL e F)=rep (p s F))
 (a:EJ rep D.int mk ck) (d:NJ rep e b c):TJ rep eR (i9 get set mk b) (yE g p ck c):=λs=>SimS.bd (d s) λx s=>by
 have a:=a s;rw[h];cases g s with
 |none=>trivial
 |some xs=>
   show SimS rep eR (yD set (e x) (xs.map e) (rep s) (mk (rep s))) _;dsimp only;refine SimR.el a (λi=>?_) (λ_=>rfl) λ_=>trivial;show SimS rep eR (match nF (xs.map e).length i with|some j=>.nx (set (rep s) (.lst ((xs.map e).set j (e x))))|none=>.bad) _;rw[List.length_map];dsimp only;cases nF xs.length i with
   |none=>trivial
   |some j=>
     show SO.nx _=SO.nx _;rw[<-ZA];exact congrArg _ (f s _)
@[simp] def bx(d:Option X):FlC Z X->OutC Z X
 |.nx s=>(match d with|some b=>.ok b s|none=>.bad)
 |.rt b s=>.ok b s
 |.exc x s=>.exc x s
 |_=>.bad
theorem cY{k:Nat}{ds:List D}{a:P1->SO}{c:Z->FlC Z X}{s:Z}{d:X}(hd:eR d=.non)(h:TJ rep eR a c)(f:ds.map some++List.replicate (k-ds.length) none=rep s):SimO rep eR (Mi.run k a ds) (bx (some d) (c s)):=by
 have h:=h s;unfold Mi.run;rw[f];cases q:c s with
 |nx e=>rw[q]at h;rw[show a (rep s)=_ from h];show Out.ok .non _=Out.ok (eR d) _;rw[hd]
 |rt b e=>rw[q]at h;rw[show a (rep s)=_ from h];rfl
 |exc x e=>rw[q]at h;rw[show a (rep s)=_ from h];rfl
 |_=>trivial
theorem ci{k:Nat}{ds:List D}{a:P1->SO}{c:Z->FlC Z X}{s:Z}(h:TJ rep eR a c)(e:ds.map some++List.replicate (k-ds.length) none=rep s):SimO rep eR (Mi.run k a ds) (bx none (c s)):=by
 have h:=h s;unfold Mi.run;rw[e];cases q:c s with
 |rt b d=>rw[q]at h;rw[show a (rep s)=_ from h];rfl
 |exc x d=>rw[q]at h;rw[show a (rep s)=_ from h];rfl
 |_=>trivial
theorem iH{k:Nat}{ds:List D}{a:P1->SO}{c:Z->FlC Z X}{s:Z}(h:TJ rep eR a c)(e:ds.map some++List.replicate (k-ds.length) none=rep s):SimO rep eR (kS k a ds) (bx none (c s)):=by
 have h:=h s;unfold kS;rw[e];cases q:c s with
 |rt b d=>rw[q]at h;rw[show a (rep s)=_ from h];rfl
 |exc x d=>rw[q]at h;rw[show a (rep s)=_ from h];rfl
 |_=>trivial
end
section
variable{Z W X:Type}{rep:Z->P1}{eR:X->D}
theorem xp{e:W->D}{i:Nat}{g:Z->W}(h:∀s,rg (rep s) i=some (e (g s)):=by exact λ_=>rfl):EJ rep e (vr i) (pC g):=O8 h
theorem xv{e:W->D}{i:Nat}{g:Z->Option W}(h:∀s,rg (rep s) i=(g s).map e:=by exact λ_=>rfl):EJ rep e (vr i) (vC g):=O6 h
theorem xk{e:W->D}{d:D}{a:W}(h:e a=d:=by rfl):EJ rep e (ax d) (kC a):=lB h
theorem xs{e:W->D}{i:Nat}{m:P1->Out D}{c:Z->OutC Z W}{u:W->Z->Z}(h:NJ rep e m c)(b:∀a s,(rep s).set i (some (e a))=rep (u a s):=by exact λ_ _=>rfl):TJ rep eR (bE i m) (bK u c):=LJ b h
end
section
variable{Z σ' W X L K τ:Type}
theorem lu{u:W->Z->Z}{c:Z->FlC Z X}(R:τ->Z->Prop)(step:τ->W->τ):∀(l:List W) (b:τ) (s:Z),R b s->
 (∀b a s,a∈l->R b s->∃d,(c (u a s)=.nx d\/c (u a s)=.ct d)/\R (step b a) d)->∃d,mC u c l s=.nx d/\R (l.foldl step b) d
 |[],b,s,h,_=>⟨s,rfl,h⟩
 | a::l,b,s,h,st=>by
   obtain⟨g,f,j⟩:=st b a s List.mem_cons_self h;obtain⟨d,e,h'⟩:=lu R step l (step b a) g j λb c s i=>st b c s (List.mem_cons_of_mem _ i);refine⟨d,?_,h'⟩;unfold mC;rcases f with f|f<;>(rw[f];exact e)
theorem j6{u:W->Z->Z}{c:Z->FlC Z X}(R:Z->Prop)(l:List W)(s:Z)(h:R s)(st:∀a s,a∈l->R s->∃b,(c (u a s)=.nx b\/c (u a s)=.ct b)/\R b):∃b,mC u c l s=.nx b/\R b:=by
 obtain⟨b,e,h'⟩:=lu (τ:=Unit) (λ_ s=>R s) (λ_ _=>()) l () s h λ_ a s f d=>st a s f d;exact⟨b,e,h'⟩
theorem cJ{u:W->Z->Z}{c:Z->FlC Z X}(R:List W->Z->Prop)(l:List W)(s:Z)(h:R [] s)(st:∀p a r s,l=p++a::r->R p s->∃b,(c (u a s)=.nx b\/c (u a s)=.ct b)/\R (p++[a]) b):∃b,mC u c l s=.nx b/\R l b:=by
 have f:∀(r p:List W) (s:Z),l=p++r->R p s->∃b,mC u c r s=.nx b/\R l b:=by
  intro r
  induction r with
  |nil=>intro p s e h;rw[Wh]at e;exact⟨s,rfl,by rw[e];exact h⟩
  |cons a r i=>
    intro p s e h;obtain⟨g,d,j⟩:=st p a r s e h;obtain⟨b,k,h'⟩:=i (p++[a]) g (by rw[e];simp) j;refine⟨b,?_,h'⟩;unfold mC;rcases d with d|d<;>(rw[d];exact k)
 exact f l [] s rfl h
theorem xN{t:Z->OutC Z Bool}{c:Z->FlC Z X}(R:Nat->Z->Prop)(S:Z->Prop)(st:∀n s,R n s->(t s=.ok false s/\S s)\/(t s=.ok true s/\∃m a,m<n/\(c s=.nx a\/c s=.ct a)/\R m a)):
 ∀(fuel n:Nat) (s:Z),R n s->n<fuel->∃b,BH t c fuel s=.nx b/\S b
 |0,n,s,h,g=>absurd g (YO _)
 | fuel+1,n,s,h,g=>by
   unfold BH;rcases st n s h with ⟨e,f⟩|⟨e,m,a,k,d,i⟩
   ·rw[e];exact⟨s,rfl,f⟩
   ·rw[e];obtain⟨b,j,f⟩:=xN R S st fuel m a i (by omega);refine⟨b,?_,f⟩;dsimp only;rcases d with d|d<;>(rw[d];exact j)
theorem qJ{d:W->Res Bool}{te:W->Res X}(p:W->Bool)(g:W->X):∀l:List W,(∀a∈l,d a=.ok (p a))->(∀a∈l,p a=true->te a=.ok (g a))->gR d te l=.ok ((l.filter p).map g)
 |[],_,_=>rfl
 | a::l,h,f=>by
   have e:=qJ p g l (λb c=>h b (List.mem_cons_of_mem _ c)) λb c=>f b (List.mem_cons_of_mem _ c);unfold gR;rw[h a List.mem_cons_self];show(if p a=true then _ else _)=_;cases hp:p a with
   |true=>
     rw[VL rfl,f a VP hp,e,WQ,VL hp];rfl
   |false=>rw[on V1,e,WQ,on (by rw[hp];exact V1)]
theorem zL{src:Z->Res (List W)}{b:W×Z->Res Bool}{te:W×Z->Res X}{s:Z}{l:List W}(p:W->Bool)(g:W->X)(c:src s=.ok l)(d:l.length<af)(f:∀a∈l,b (a,s)=.ok (p a))(e:∀a∈l,p a=true->te (a,s)=.ok (g a)):
 kE src b te s=.ok ((l.filter p).map g):=by
 unfold kE;rw[c];show(if l.length<af then _ else _)=_;rw[if_pos d];exact qJ p g l f e
theorem vk{src:Z->Res (List W)}{te:W×Z->Res X}{s:Z}{l:List W}(g:W->X)(b:src s=.ok l)(c:l.length<af)(e:∀a∈l,te (a,s)=.ok (g a)):
 kE src (λ_=>.ok true) te s=.ok (l.map g):=by
 rw[zL (λ_=>true) g b c (λ_ _=>rfl) λa d _=>e a d,List.filter_eq_self.mpr λ_ _=>rfl]
theorem fU(xs:List W){i:Int}(h:0<=i):iZ xs i=xs[i.toNat]?:=by
 unfold iZ nF;rw[if_pos h];by_cases z:i<xs.length
 ·rw[VL z];rfl
 ·rw[on z,Wb (by omega)];rfl
theorem pp(xs:List W):iZ xs (-1)=xs.getLast?:=by
 unfold iZ nF;rw[if_neg (by omega),List.getLast?_eq_getElem?];cases xs with
 |nil=>rfl
 |cons x r=>
   rw[VL (by simp only[VV];omega)];show(x::r)[(-1+((x::r).length:Int)).toNat]?=_;rw[show(-1+((x::r).length:Int)).toNat=(x::r).length-1 by omega]
theorem wQ{n:Nat}{i:Int}(h:0<=i)(a:i<n):nF n i=some i.toNat:=by unfold nF;rw[if_pos h,if_pos a]
theorem dQ(lo hi:Int):(c9 lo hi).length=(hi-lo).toNat:=by unfold c9;simp
theorem ce{lo hi x:Int}:x∈c9 lo hi↔lo<=x/\x<hi:=by
 unfold c9;rw[List.mem_map];constructor
 · rintro⟨i,a,rfl⟩
   have:=YZ.mp a
   omega
 ·rintro⟨c,b⟩;exact⟨(x-lo).toNat,YZ.mpr (by omega),by omega⟩
theorem mJ{lo hi x:Int}{p r:List Int}(h:c9 lo hi=p++x::r):x=lo+p.length/\lo<=x/\x<hi:=by
 have b:x∈c9 lo hi:=by rw[h];simp
 have a:=ce.mp b;have e:(c9 lo hi)[p.length]?=some x:=by rw[h,Ww (V2 _),X9];rfl
 unfold c9 at e;rw[List.getElem?_map]at e
 have c:p.length<(hi-lo).toNat:=by
  have:=dQ lo hi
  rw[h,VQ,VV]at this;omega
 rw[XM c]at e;injection e with e
 exact⟨e.symm,a⟩
theorem wA(lo hi:Int):(c9 lo hi).Nodup:=by
 unfold c9;unfold List.Nodup;rw[List.pairwise_map];refine List.Pairwise.imp ?_ (List.nodup_range (n:=(hi-lo).toNat));intro a b h z;exact h (by omega)
theorem nJ{F:DI X}{k:List Int}{v:X}(h:F.get k=some v):(k,v)∈F:=by
 unfold DI.get at h;obtain⟨p,hp,rfl⟩:=Option.map_eq_some_iff.mp h
 have:=List.find?_some hp
 have e:p.1=k:=by simpa using this
 subst e;exact List.mem_of_find?_eq_some hp
theorem fA{P:List Int->Prop}{F:DI X}{k:List Int}{v:X}(h:∀p∈F,P p.1)(b:P k):∀p∈F.put k v,P p.1:=by
 intro p hp;unfold DI.put at hp;split at hp
 ·obtain⟨q,a,rfl⟩:=We.mp hp;split<;>exact h q a
 · rcases VW.mp hp with z|z
   ·exact h p z
   ·rw[VU.mp z];exact b
theorem iS{F:DI X}{k:List Int}{v:X}:(F.put k v).length<=F.length+1:=by
 unfold DI.put;split
 ·rw[VO];omega
 ·rw[VQ];simp
def DI.nd(F:DI X):Prop:=(F.map (·.1)).Nodup
theorem iu{F:DI X}{k:List Int}{v:X}(h:DI.nd F):DI.nd (F.put k v):=by
 unfold DI.nd DI.put at *;by_cases q:(F.get k).isSome=true
 · rw[VL q,Ws]
   have:(F.map ((·.1)∘λp=>if p.1=k then (p.1,v) else p))=F.map (·.1):=WM λp _=>by
    show(if p.1=k then (p.1,v) else p).1=p.1;split<;>rfl
   rw[this];exact h
 · rw[on q,Wm];refine Wq.mpr ⟨h,by simp,λa d b c=>?_⟩;have e:b=k:=by simpa using c
   subst e;rintro rfl;obtain⟨p,hp,e⟩:=List.mem_map.mp d;apply q;unfold DI.get;rw[Option.isSome_map,List.find?_isSome];exact⟨p,hp,by simpa using e⟩
theorem dC{F:DI X}(h:DI.nd F){k:List Int}{v:X}(a:(k,v)∈F):F.get k=some v:=by
 unfold DI.nd at h
 induction F with
 |nil=>cases a
 |cons p F b=>
   rw[List.map_cons,List.nodup_cons]at h;unfold DI.get;rw[List.find?_cons];by_cases e:p.1=k
   · rw[Wv e];rcases VY.mp a with z|z
     ·rw[<-z];rfl
     ·exact absurd (We.mpr ⟨(k,v),z,e.symm⟩) h.1
   · rw[Wi e];rcases VY.mp a with z|z
     ·exact absurd (by rw[<-z]) e
     ·exact b h.2 z
end
end Cl
namespace L2
open PySem PySem.Spec PyProof.Rows
theorem B9{X:Cx}(K:F0)(h:X.K=K):UP X (Mn K):=by subst h;exact Hk
end L2
namespace Mi
open PySem L2
def Fu:D->D->Res D
 |.lst xs,.int k=>if 0<=k then .ok (.lst (xs.drop k.toNat)) else .bad
 |.scr xs,.int k=>if 0<=k then .ok (.lst (xs.drop k.toNat)) else .bad
 |_,_=>.bad
theorem uH{k:Int}(h:0<=k)(xs:List V):Bj xs (some k) none=xs.drop k.toNat:=by
 unfold Bj;have e:HT.tL xs.length 0 (some k)=min k.toNat xs.length:=by show(if k<0 then _ else _)=_;rw[if_neg (by omega)]
 rw[e,HT.Cd];by_cases z:k.toNat<=xs.length
 ·rw[Nat.min_eq_left z,List.take_of_length_le (by rw[List.length_drop];omega)]
 ·rw[Nat.min_eq_right (by omega),X9,List.take_zero,YJ (by omega)]
section
variable{Y:Cm}{E:XK}{M:List Md}{Kr:KT D V}{pr:Nat->Bool}
theorem Nj{ta tb:TE}{m l:P1->Res D}(r:PJ Y (KC Y .F) E M ta m)(q:PJ Y (KR Y .X) E M tb l):PJ Y (KO Y (.ct .fz)) E M (UV (Mn Y.K) ta (JT tb) xT) (bn Fu m l):=by
 intro B U As Z H T Q R P;refine r.bnd R P λx v I U1 H1 L _ s e1 w f W=>q.bnd s W λy u o n j A _ R2 d t e c=>?_;have f:Cn Y I H1 x v:=f;have e:Dn Y j y u:=e;cases y with
 |int k=>
   rw[Dn]at e;subst e;refine⟨k,rfl,?_⟩;cases x with
   |lst ds=>
     obtain⟨a,xs,rfl,i,g⟩:=f;replace c:Po Y (KO Y (.ct .fz)) E M o n As Z j T (if 0<=k then .ok (.lst (ds.drop k.toNat)) else .bad) Q:=c;by_cases z:0<=k
     ·rw[VL z]at c;refine⟨a,xs,rfl,SqL.of (d.h _ _ i),λp hp=>?_⟩;rw[uH z];exact dO R2 c ((g.mono d.b).drop _) hp
     ·rw[on z]at c;exact c.elim
   |scr ds=>
     obtain⟨a,xs,rfl,i,g⟩:=f;replace c:Po Y (KO Y (.ct .fz)) E M o n As Z j T (if 0<=k then .ok (.lst (ds.drop k.toNat)) else .bad) Q:=c;by_cases z:0<=k
     ·rw[VL z]at c;refine⟨a,xs,rfl,(i.mono d.h).sq,λp hp=>?_⟩;rw[uH z];exact dO R2 c ((g.mono d.b).drop _) hp
     ·rw[on z]at c;exact c.elim
   |_=>exact c.elim
 |_=>cases x<;>exact c.elim
open Classical in
end
end Mi
namespace Cl
open PySem L2 Mi
section
variable{Z W X L K:Type}{rep:Z->P1}{eR:X->D}
@[simp] def Lk(xs:List W)(k:Int):Res (List W):=if 0<=k then .ok (xs.drop k.toNat) else .bad
theorem Iy(xs:List Int)(k:Int):SimR (eL D.int) (Fu (eS xs) (.int k)) (Lk xs k):=by
 show SimR (eL D.int) (if 0<=k then .ok (.lst ((xs.map D.int).drop k.toNat)) else .bad) (if 0<=k then .ok (xs.drop k.toNat) else .bad);rw[<-List.map_drop];exact SimR.ite rfl trivial
open Classical in
end
end Cl
namespace Mi
open PySem L2
section
variable{Y:Cm}{E:XK}{M:List Md}{K:F0}
structure Prt (Y:Cm) (M:List Md) (t:TE) (get:P1->Option D) (set:P1->D->P1) (i:Nat) (s:Sh):Prop where
 rd:∀{B U:Hp} {As:Nat->List Addr} {Z:St} {H:Hp} {T:P1} {d:D},Rel Y M B U As Z H T->get T=some d->∃sh v0 d0 v L A R,M.getD i .F= .O sh/\rg Z i=some v0/\rg T i=some d0/\As i=L++(A++R)/\(∀Q:VK,Q v H->t Z H Q)/\Ow Y B H d s v A/\
  ∀I H1 d' A1,Same B I->(∀a,a∈L\/a∈R->H1 a=H a)->Ow Y I H1 d' s v A1->∃D',Ow Y I H1 D' sh v0 (L++(A1++R))/\set T d'=T.set i (some D')
theorem Vi{i:Nat}{sh:Sh}(b:M.getD i .F= .O sh):Prt Y M (cF i) (bI i) (cU i) i sh where
 rd:=λ{B U As Z H T d} R e=>by
  replace e:rg T i=some d:=e;have l:=R.lo i;rw[e,b]at l;obtain⟨v,a,w⟩:=l;exact⟨sh,v,d,v,[],As i,[],b,a,e,by simp,λQ q=>⟨v,bP a,q⟩,w,λI H1 d' A1 _ _ c=>⟨d',by simpa using c,rfl⟩⟩
theorem Owf.lens{sh:List (Str×Sh)}{f:Str}{B H:Hp}:∀{fs:List (Str×V)} {ds:List D} {A:List Addr} {d:D},Owf Y B H ds (fs.map (·.1)) sh (fs.map (·.2)) A->aZ (fs.map (·.1)) ds f=some d->
 ∃v L A1 R,fs.lookup f=some v/\A=L++(A1++R)/\Ow Y B H d ((sh.lookup f).getD .fz) v A1/\∀I H1 d' g,Same B I->(∀a,a∈L\/a∈R->H1 a=H a)->Ow Y I H1 d' ((sh.lookup f).getD .fz) v g->Owf Y I H1 (cW (fs.map (·.1)) ds f d') (fs.map (·.1)) sh (fs.map (·.2)) (L++(g++R))
 |[],ds,A,d,h,e=>by cases ds<;>cases e
 | p::fs,ds,A,d,h,e=>by
   cases ds with
   |nil=>cases e
   |cons d0 ds=>
     rw[List.map_cons,List.map_cons,Owf]at h;obtain⟨n,t,x,r,l,o,y,h0,E,j,m⟩:=h;cases y;cases h0;subst E;rw[List.map_cons]at e;unfold aZ at e;by_cases q:p.1=f
     ·rw[VL q]at e;cases e;rw[q]at j;refine⟨p.2,[],l,o,by rw[Wp,<-q,Xb],rfl,j,λI H1 d' g i k w=>?_⟩;rw[VN,VN,cW,VL q,Owf];exact⟨p.1,_,p.2,_,g,o,rfl,rfl,rfl,by rw[q];exact w,Owf.mono i (λb c=>k b (.inr c)) m⟩
     ·rw[on q]at e;obtain⟨v,L,A1,R,u,C,s,F⟩:=Owf.lens m e;have c:(f==p.1)=false:=Wt.mpr λz=>q z.symm;refine⟨v,l++L,A1,R,by rw[Wp,c];exact u,by rw[C,Wy],s,λI H1 d' g i k w=>?_⟩;rw[VN,VN,cW,on q,Owf];exact⟨p.1,_,p.2,_,l,L++(g++R),rfl,rfl,by rw[Wy],Ow.mono i (λb c=>k b (.inl (V0 _ c))) j,F I H1 d' g i (λb c=>k b (c.imp (λz=>VS _ z) id)) w⟩
theorem Ows.lens{s:Sh}{B H:Hp}:∀{ds:List D} {xs:List V} {A:List Addr} {n:Nat} {d:D},Ows Y B H ds s xs A->ds[n]?=some d->
 ∃v L A1 R,xs[n]?=some v/\A=L++(A1++R)/\Ow Y B H d s v A1/\∀I H1 d' c,Same B I->(∀a,a∈L\/a∈R->H1 a=H a)->Ow Y I H1 d' s v c->Ows Y I H1 (ds.set n d') s xs (L++(c++R))
 |[],xs,A,n,d,h,e=>by cases e
 | d0::ds,xs,A,n,d,h,e=>by
   rw[Ows]at h;obtain⟨x,r,i,m,rfl,t,l,j⟩:=h;subst t;cases n with
   |zero=>
     cases e;refine⟨x,[],i,m,rfl,rfl,l,λI H1 d' c g k w=>?_⟩;rw[Yi,Ows];exact⟨x,r,c,m,rfl,rfl,w,Ows.mono g (λb f=>k b (.inr f)) j⟩
   |succ n=>
     obtain⟨v,L,A1,R,p,q,o,u⟩:=Ows.lens (n:=n) j (by simpa using e);refine⟨v,i++L,A1,R,by simpa using p,by rw[q,Wy],o,λI H1 d' c g k w=>?_⟩;rw[Yj,Ows];exact⟨x,r,i,L++(c++R),rfl,by rw[Wy],Ow.mono g (λb f=>k b (.inl (V0 _ f))) l,u I H1 d' c g (λb f=>k b (f.imp (λz=>VS _ z) id)) w⟩
def hE(get:P1->Option D)(c:Nat)(f:Str):P1->Option D:=λT=>match get T with
 |some (.obj a ns vs)=>if a=c then aZ ns vs f else none
 |_=>none
def lM(get:P1->Option D)(set:P1->D->P1)(f:Str):P1->D->P1:=λT d=>match get T with
 |some (.obj c ns vs)=>set T (.obj c ns (cW ns vs f d))
 |_=>T
theorem Ow.ob{B H:Hp}{c:Nat}{ns:List Str}{ds:List D}{fs:List (Str×Sh)}{v:V}{A:List Addr}(w:Ow Y B H (.obj c ns ds) (.ob fs) v A):∃(a dx:Addr) (xs:List (Str×V)) (b:List Addr),v=.ref a/\H a=some (.ins (Y c) dx xs)/\xs.map (·.1)=ns/\A=a::b/\Owf Y B H ds ns fs (xs.map (·.2)) b:=by rw[Ow]at w;exact w
theorem Ow.ob'{B H:Hp}{c:Nat}{ds:List D}{fs:List (Str×Sh)}{a dx:Addr}{xs:List (Str×V)}{b:List Addr}(h:H a=some (.ins (Y c) dx xs))(k:Owf Y B H ds (xs.map (·.1)) fs (xs.map (·.2)) b):Ow Y B H (.obj c (xs.map (·.1)) ds) (.ob fs) (.ref a) (a::b):=by rw[Ow];exact⟨a,dx,xs,b,rfl,h,rfl,rfl,k⟩
theorem Ow.ls{B H:Hp}{ds:List D}{s:Sh}{v:V}{A:List Addr}(w:Ow Y B H (.lst ds) (.ct s) v A):∃(a:Addr) (xs:List V) (b:List Addr),v=.ref a/\H a=some (.lst xs)/\A=a::b/\Ows Y B H ds s xs b:=by rw[Ow]at w;exact w
theorem Ow.ls'{B H:Hp}{ds:List D}{s:Sh}{a:Addr}{xs:List V}{b:List Addr}(h:H a=some (.lst xs))(k:Ows Y B H ds s xs b):Ow Y B H (.lst ds) (.ct s) (.ref a) (a::b):=by rw[Ow];exact⟨a,xs,b,rfl,h,rfl,k⟩
theorem Vk{t:TE}{get:P1->Option D}{set:P1->D->P1}{i c:Nat}{f:Str}{fs:List (Str×Sh)}{s:Sh}(p:Prt Y M t get set i (.ob fs))(V:Cls K (Y c))(O:NoAttr K (Y c) f)(S:(fs.lookup f).getD .fz=s):
 Prt Y M (mV K t f) (hE get c f) (lM get set f) i s where
 rd:=λ{B U As Z H T d} R e=>by
  unfold hE at e;cases e0:get T with
  |none=>rw[e0]at e;cases e
  |some d1=>
    cases d1 with
    |obj n ns vs=>
      rw[e0]at e;replace e:(if n=c then aZ ns vs f else none)=some d:=e;by_cases q:n=c
      ·subst q;rw[if_pos rfl]at e;obtain⟨sh,y,d0,v,L,A,o,P,G,hd,W,N,C,cl⟩:=p.rd R e0;obtain⟨a,dx,xs,A',rfl,m,rfl,rfl,X⟩:=C.ob;obtain⟨u,L2,A1,R2,J,rfl,g,h⟩:=Owf.lens X e;rw[S]at g h;refine⟨sh,y,d0,u,L++(a::L2),A1,R2++o,P,G,hd,by rw[W];simp[List.append_assoc],λQ q=>N _ ⟨a,_,dx,xs,u,rfl,m,V,O,J,q⟩,g,λI H1 d' A2 l k w=>?_⟩;have F:∀b,b∈L\/b∈o->H1 b=H b:=λb j=>k b (j.imp (λz=>List.mem_append_left _ z) λz=>List.mem_append_right _ z);have E:H1 a=H a:=k a (.inl (List.mem_append_right _ List.mem_cons_self));have x:=h I H1 d' A2 l (λb j=>k b (j.imp (λz=>List.mem_append_right _ (List.mem_cons_of_mem _ z)) λz=>List.mem_append_left _ z)) w;obtain⟨D',r,e3⟩:=cl I H1 _ _ l F (Ow.ob' (by rw[E];exact m) x);refine⟨D',by simpa [List.append_assoc] using r,?_⟩;unfold lM;rw[e0];exact e3
      ·rw[on q]at e;cases e
    |_=>rw[e0]at e;cases e
def VH(Y:Cm)(M:List Md)(a:TE)(mk:P1->Option Int):Prop:=∀{B U:Hp} {As:Nat->List Addr} {Z:St} {H:Hp} {T:P1} {k:Int},Rel Y M B U As Z H T->mk T=some k->∀Q:VK,Q (.int k) H->a Z H Q
def BG(j:Nat):P1->Option Int:=λT=>match rg T j with
 |some (.int k)=>some k
 |_=>none
theorem OW{j:Nat}:VH Y M (cF j) (BG j):=λ{B U As Z H T k} R e Q q=>by
 unfold BG at e;have l:=R.lo j;cases e0:rg T j with
 |none=>rw[e0]at e;cases e
 |some d=>
   cases d with
   |int n=>
     rw[e0]at e l;cases e;obtain⟨v,b,w⟩:=l
     have:v=.int k:=by
      cases a:M.getD j .F with
      |F=>rw[a]at w;have w:=w.1;rw[Dn]at w;exact w
      |R=>rw[a]at w;have w:=w.1;rw[Dn]at w;exact w
      |O s=>
        rw[a]at w;cases s with
        |fz=>have w:Ow Y B H (.int k) .fz v (As j):=w;rw[Ow]at w;have w:=w.1;rw[Dn]at w;exact w
        |ct s=>have w:Ow Y B H (.int k) (.ct s) v (As j):=w;simp[Ow]at w
        |ob s=>have w:Ow Y B H (.int k) (.ob s) v (As j):=w;simp[Ow]at w
     subst this;exact⟨_,bP b,q⟩
   |_=>rw[e0]at e;cases e
def j1(get:P1->Option D)(mk:P1->Option Int):P1->Option D:=λT=>match get T,mk T with
 |some (.lst xs),some k=>if 0<=k then xs[k.toNat]? else none
 |_,_=>none
def lL(get:P1->Option D)(set:P1->D->P1)(mk:P1->Option Int):P1->D->P1:=λT d=>match get T,mk T with
 |some (.lst xs),some k=>set T (.lst (xs.set k.toNat d))
 |_,_=>T
theorem Vj{t j:TE}{get:P1->Option D}{set:P1->D->P1}{mk:P1->Option Int}{i:Nat}{s:Sh}(p:Prt Y M t get set i (.ct s))(P:VH Y M j mk):Prt Y M (BF (Hw K) t j) (j1 get mk) (lL get set mk) i s where
 rd:=λ{B U As Z H T d} R e=>by
  unfold j1 at e;cases e0:get T with
  |none=>rw[e0]at e;cases e
  |some X=>
    cases X with
    |lst ds=>
      cases e1:mk T with
      |none=>rw[e0,e1]at e;cases e
      |some k=>
        rw[e0,e1]at e;replace e:(if 0<=k then ds[k.toNat]? else none)=some d:=e;by_cases q:0<=k
        ·rw[if_pos q]at e;obtain⟨sh,x,d0,v,L,A,n,O,G,hd,S,N,C,cl⟩:=p.rd R e0;obtain⟨a,xs,A',rfl,m,rfl,V⟩:=C.ls;obtain⟨u,L2,A1,R2,J,rfl,c,h⟩:=Ows.lens V e;refine⟨sh,x,d0,u,L++(a::L2),A1,R2++n,O,G,hd,by rw[S];simp[List.append_assoc],λQ y=>N _ (P R e1 _ ⟨a,xs,k,u,rfl,rfl,SqL.of m,by rw[Cl.fU xs q];exact J,y⟩),c,λI H1 d' A2 l f w=>?_⟩;have F:∀b,b∈L\/b∈n->H1 b=H b:=λb g=>f b (g.imp (λz=>List.mem_append_left _ z) λz=>List.mem_append_right _ z);have E:H1 a=H a:=f a (.inl (List.mem_append_right _ List.mem_cons_self));have r:=h I H1 d' A2 l (λb g=>f b (g.imp (λz=>List.mem_append_right _ (List.mem_cons_of_mem _ z)) λz=>List.mem_append_left _ z)) w;obtain⟨D',o,W⟩:=cl I H1 _ _ l F (Ow.ls' (by rw[E];exact m) r);refine⟨D',by simpa [List.append_assoc] using o,?_⟩;unfold lL;rw[e0,e1];exact W
        ·rw[on q]at e;cases e
    |_=>rw[e0]at e;cases e
theorem Ve{t:TE}{get:P1->Option D}{set:P1->D->P1}{i:Nat}(p:Prt Y M t get set i (.ct .fz)):Pth Y M t get set where
 rd:=λ{B U As Z H T d} R e=>by
  obtain⟨sh,O,d0,v,L,A,N,F,C,hd,g,E,y,J⟩:=p.rd R e;have nd:=R.nd i;rw[g]at nd;obtain⟨_,k,j⟩:=Wq.mp nd;obtain⟨_,_,h⟩:=Wq.mp k;refine⟨v,A,E,y,λa f=>⟨i,by rw[g];exact VS _ (V0 _ f)⟩,λI U1 H1 K w x a f o' d' u=>?_⟩;have q:a∈As i:=by rw[g];exact VS _ (V0 _ f)
  have l:∀b,b∈L\/b∈N->upd H1 a o' b=H b:=λb c=>by
   have n:b∈As i:=by
    rw[g];rcases c with c|c
    ·exact V0 _ c
    ·exact VS _ (VS _ c)
   have m:b≠a:=λz=>by
    subst z;rcases c with c|c
    ·exact j b c b (V0 _ f) rfl
    ·exact h b f b c rfl
   rw[ao m];obtain⟨o,r⟩:=R.at n;rw[r,x _ _ r]
  obtain⟨P,s,G⟩:=J I (upd H1 a o') d' A w l u;rw[G];exact K.mut F C hd q (by rw[g];exact s)
end
section
variable{Y:Cm}{E:XK}{M:List Md}{K:F0}{B U H:Hp}{As:Nat->List Addr}{Z:St}{T:P1}
def Av(M:List Md)(n:Nat)(s:Sh):List Md:=(List.range (max M.length (n+1))).map λj=>if j=n then .O s else M.getD j .F
theorem jO{n:Nat}{s:Sh}(j:Nat):(Av M n s).getD j .F=if j=n then .O s else M.getD j .F:=by
 unfold Av;rw[List.getD_eq_getElem?_getD,List.getElem?_map];by_cases h:j<max M.length (n+1)
 ·rw[XM h];rfl
 · rw[Wb (by rw[XW];omega)];have a:¬ j=n:=by omega
   rw[on a,V5,Wb (by omega)];rfl
def gu(set:P1->D->P1)(b:List D->Out D)(d:D)(ds:List D)(T:P1):Out D:=match b (d::ds) with
 |.ok x a=>(match rg a 0 with|some d'=>.ok x (set T d')|none=>.bad)
 |.exc c a=>(match rg a 0 with|some d'=>.exc c (set T d')|none=>.bad)
 |.bad=>.bad
theorem iR:∀{ps:List Ap} {j:Nat} {a T:P1},cg ps=[]->bZ ps j a T=T
 |[],_,_,_,_=>rfl
 | p::r,j,a,T,h=>by
   cases p with
   |O i=>cases h
   |F=>rw[bZ];exact iR h;all_goals simp
   |U=>rw[bZ];exact iR h;all_goals simp
   |X=>rw[bZ];exact iR h;all_goals simp
   |Bo i=>rw[bZ];exact iR h;all_goals simp
theorem fitM.any{b:List Md}:∀{ps:List Ap} {mc:List Md},cg ps=[]->fitM M ps mc->fitM b ps mc
 |[],[],_,_=>trivial
 |[],_::_,_,h=>h.elim
 |_::_,[],_,h=>h.elim
 | p::ps,m::r,a,h=>by
   cases p with
   |O i=>cases a
   |F=>exact⟨by cases m <;> first | trivial | exact h.1.elim,fitM.any a h.2⟩
   |U=>exact⟨by cases m <;> first | trivial | exact h.1.elim,fitM.any a h.2⟩
   |X=>exact⟨by cases m<;>exact h.1.elim,fitM.any a h.2⟩
   |Bo i=>exact⟨by cases m <;> first | trivial | exact h.1.elim,fitM.any a h.2⟩
theorem Ag.plus{U1:Hp}{c:St}{e:P1}{i:Nat}(f:Same U U1)(a:∀j v,rg Z j=some v->rg c j=some v)(b:∀j d,j≠i->rg T j=some d->rg e j=some d):
 ∀{ps:List Ap} {ds:List D} {vs:List V},cg ps=[]->i∉ii ps->Ag Y B U H Z T ps ds vs->Ag Y B U1 H c e ps ds vs
 |[],_,_,_,_,h=>h
 | p::ps,ds,vs,g,l,h=>by
   obtain⟨d,o,v,vr,rfl,rfl,m,n⟩:=h;cases p with
   |O k=>cases g
   |F=>exact⟨d,o,v,vr,rfl,rfl,m,Ag.plus f a b g l n⟩
   |U=>exact⟨d,o,v,vr,rfl,rfl,Dn.mono f m,Ag.plus f a b g l n⟩
   |X=>exact⟨d,o,v,vr,rfl,rfl,m,Ag.plus f a b g l n⟩
   |Bo k=>exact⟨d,o,v,vr,rfl,rfl,⟨a k v m.1,b k d (λz=>l (by rw[z];exact VP)) m.2⟩,Ag.plus f a b g (λz=>l (VR _ z)) n⟩
theorem eh{W:Type}{l:List (Option W)}{x:Option W}{j:Nat}:rg (l++[x]) j=if j=l.length then x else rg l j:=by
 unfold rg;by_cases h:j<l.length
 ·rw[WB h,on (by omega)]
 · rw[Ww (by omega)];by_cases e:j=l.length
   ·rw[VL e,e,X9];rfl
   ·rw[on e,Wb (by simp;omega),Wb (by omega)]
open Classical in
theorem Ie{i:Nat}{s sh:Sh}{v0 v:V}{d0 d:D}{L A l:List Addr}{set:P1->D->P1}{msR:List Md}{Kr:KT D V}{fm:List D->Out D}{ps:List Ap}{ds:List D}{vs:List V}{Q:VK}(R:Rel Y M B U As Z H T)
 (hm:M.getD i .F= .O sh) (hv:rg Z i=some v0) (hd:rg T i=some d0) (hA:As i=L++(A++l)) (ow:Ow Y B H d s v A)
 (cl:∀I H1 d' A1,Same B I->(∀a,a∈L\/a∈l->H1 a=H a)->Ow Y I H1 d' s v A1->∃D',Ow Y I H1 D' sh v0 (L++(A1++l))/\set T d'=T.set i (some D'))
 (G:Ag Y B U H Z T ps ds vs) (hf:fitM M ps msR) (hl:cg ps=[]) (hb:i∉ii ps) (hU:∀d v B U J H N,Kr d v B U H N->Kr d v B J H N) (P:Mo Y Kr E M B U Z (gu set fm d ds T) Q):vK Y (.O s::msR) Kr fm (v::vs) H Q E:=by
 have hi:i<T.length:=(V6.mp (bP hd)).1;have K:=R.len;have nd:=R.nd i;rw[hA]at nd;obtain⟨ndL,nd2,nd3⟩:=Wq.mp nd;obtain⟨ndA,ndR,nd4⟩:=Wq.mp nd2
 have inI:∀{a},a∈L\/a∈l->a∈As i:=λ{a} h=>by
  rw[hA];rcases h with h|h
  ·exact V0 _ h
  ·exact VS _ (VS _ h)
 have inA:∀{a},a∈A->a∈As i:=λ{a} h=>by rw[hA];exact VS _ (V0 _ h)
 have offA:∀{a},a∈A->¬ (a∈L\/a∈l):=λ{a} h z=>by
  rcases z with z|z
  ·exact nd3 a z a (V0 _ h) rfl
  ·exact nd4 a h a z rfl
 obtain⟨Up,up1,up2⟩:∃Up:Hp,(∀a,a∈L\/a∈l->Up a=H a)/\∀a,¬ (a∈L\/a∈l)->Up a=U a:=⟨λa=>if a∈L\/a∈l then H a else U a,λa h=>VL h,λa h=>on h⟩
 have sUp:Same U Up:=λa o q=>by
  by_cases z:a∈L\/a∈l
  ·rw[up1 a z];exact R.uh a o q
  ·rw[up2 a z];exact q
 have upH:Same Up H:=λa o q=>by
  by_cases z:a∈L\/a∈l
  ·rw[up1 a z]at q;exact q
  ·rw[up2 a z]at q;exact R.uh a o q
 have Rp:Rel Y (Av M T.length s) B Up (λj=>if j=T.length then A else if j=i then [] else As j) (Z++[some v]) H (T.set i none++[some d]):=by
  have lr:(T.set i (none:Option D)).length=T.length:=Wd ..;refine⟨R.bu.trans sUp,upH,λj=>?_,λj k a X f g=>?_,λj a f=>?_,λj=>?_,by rw[VQ,VQ,lr,K];rfl,R.tb⟩
  · try dsimp only
    split
    ·exact ndA
    · split
      ·exact WE
      ·exact R.nd j
  · try dsimp only at f g
    split at f
    · split at g
      ·exact X (by omega)
      · split at g
        ·cases g
        ·rename_i m r h3;exact R.dj i k a (λz=>h3 z.symm) (inA f) g
    · split at f
      ·cases f
      · split at g
        ·rename_i m r h3;exact R.dj j i a r f (inA g)
        · split at g
          ·cases g
          ·exact R.dj j k a X f g
  · try dsimp only at f
    split at f
    ·rw[up2 a (offA f)];exact R.un i a (inA f)
    · split at f
      ·cases f
      ·rename_i m r;rw[up2 a (λz=>R.dj i j a (λy=>r y.symm) (inI z) f)];exact R.un j a f
  · try dsimp only
    rw[jO,eh,eh,lr,K];by_cases m:j=Z.length
    ·rw[VL m,VL m,VL m,VL m];exact⟨v,rfl,ow⟩
    · rw[on m,on m,on m,on m,cV];by_cases r:j=i
      ·rw[VL r,VL ⟨r.symm,hi⟩];rfl
      ·rw[on r,on λz=>r z.1.symm];exact(R.lo j).mono (Same.refl _) sUp λ_ _=>rfl
 have Gp:Ag Y B Up H (Z++[some v]) (T.set i none++[some d]) (.O T.length::ps) (d::ds) (v::vs):=by
  refine⟨d,ds,v,vs,rfl,rfl,⟨by rw[eh,VL K],by rw[eh,Wd,VL rfl]⟩,Ag.plus sUp (λj x q=>?_) (λj x X q=>?_) hl hb G⟩
  · have:j<Z.length:=(V6.mp (bP q)).1
    rw[eh,on (by omega)];exact q
  · have:j<T.length:=(V6.mp (bP q)).1
    rw[eh,Wd,on (by omega),cV,on λz=>X z.1.symm];exact q
 have back:∀{S J H':Hp} {C:Nat->List Addr} {d':D},Rel Y (Av M T.length s) S J C (Z++[some v]) H' ((T.set i none++[some d]).set T.length (some d'))->Ex B Up S J->
  ∃U2 As2,Rel Y M S U2 As2 Z H' (set T d')/\Ex B U S U2/\∀N,NewM N J C->NewM N U2 As2:=λ{S J H' C d'} t e1=>by
  have lr:(T.set i (none:Option D)++[some d]).length=T.length+1:=by rw[VQ,Wd];rfl
  have there:∀{a},a∈L\/a∈l->∃o,H a=some o/\J a=some o/\H' a=some o:=λ{a} h=>by
   obtain⟨o,q⟩:=R.at (inI h)
   have:=e1.u a o (by rw[up1 a h];exact q)
   exact⟨o,q,this,t.uh a o this⟩
  have keepH:∀a,a∈L\/a∈l->H' a=H a:=λa h=>by obtain⟨o,q1,_,q3⟩:=there h;rw[q1,q3]
  have noB:∀{a},a∈L\/a∈l->S a=none:=λ{a} h=>by
   cases z:S a with
   |none=>rfl
   |some o'=>
     obtain⟨o,q1,q2,q3⟩:=there h;rcases e1.nb a o' z with w|w|w
     ·have:=R.bu a o' w;rw[R.un i a (inI h)]at this;cases this
     ·rw[up1 a h,q1]at w;cases w
     ·rw[t.bh a o' z]at q3;cases q3;exact(R.nt (inI h) q1 w).elim
  obtain⟨U2,u1,u2⟩:∃U2:Hp,(∀a,a∈L\/a∈l->U2 a=none)/\∀a,¬ (a∈L\/a∈l)->U2 a=J a:=⟨λa=>if a∈L\/a∈l then none else J a,λa h=>VL h,λa h=>on h⟩
  have W:∀{a},J a=none->U2 a=none:=λ{a} h=>by
   by_cases z:a∈L\/a∈l
   ·exact u1 a z
   ·rw[u2 a z];exact h
  have sU2:Same U U2:=λa o q=>by
   have z:¬ (a∈L\/a∈l):=λz=>by rw[R.un i a (inI z)]at q;cases q
   rw[u2 a z];exact e1.u a o (sUp a o q)
  have l1:=t.lo T.length;rw[cV,VL ⟨rfl,by rw[lr];omega⟩,eh,VL K,jO,VL rfl]at l1;obtain⟨v',hv',ow1⟩:=l1;cases hv';have ow1:Ow Y S H' d' s v (C T.length):=ow1;obtain⟨D',ow2,e2⟩:=cl S H' d' (C T.length) e1.b keepH ow1;have offN:∀{a j},a∈C j->¬ (a∈L\/a∈l):=λ{a j} h z=>by obtain⟨o,_,q,_⟩:=there z;rw[t.un j a h]at q;cases q
  refine⟨U2,λj=>if j=i then L++(C T.length++l) else if j=T.length then [] else C j,⟨λa o q=>?_,λa o q=>?_,λj=>?_,λj k a X f g=>?_,λj a f=>?_,λj=>?_,by rw[e2,Wd];exact K,t.tb⟩,⟨e1.b,sU2,λa o q=>?_⟩,λN n=>⟨n.nd,λa f=>W (n.un a f),λa f j hj=>?_⟩⟩
  · have z:¬ (a∈L\/a∈l):=λz=>by rw[noB z]at q;cases q
    rw[u2 a z];exact t.bu a o q
  · by_cases z:a∈L\/a∈l
    ·rw[u1 a z]at q;cases q
    ·rw[u2 a z]at q;exact t.uh a o q
  · try dsimp only
    split
    · refine Wq.mpr ⟨ndL,Wq.mpr ⟨t.nd _,ndR,λx hx y hy e=>offN hx (.inr (e▸hy))⟩,λx hx y hy e=>?_⟩;rcases VW.mp hy with hy|hy
      ·exact offN hy (.inl (e▸hx))
      ·exact nd3 x hx y (VS _ hy) e
    · split
      ·exact WE
      ·exact t.nd j
  · have main:∀{k:Nat},k≠i->a∈L++(C T.length++l)->a∈(if k=i then L++(C T.length++l) else if k=T.length then [] else C k)->False:=λ{k} g f hk2=>by
     rw[on g]at hk2;split at hk2
     ·cases hk2
     · rename_i h3;rcases VW.mp f with h|h
       ·exact offN hk2 (.inl h)
       · rcases VW.mp h with h|h
         ·exact t.dj T.length k a (λz=>h3 z.symm) h hk2
         ·exact offN hk2 (.inr h)
    try dsimp only at f g
    by_cases m:j=i
    ·rw[VL m]at f;exact main (λz=>X (by omega)) f g
    · by_cases r:k=i
      ·rw[VL r]at g;exact main m g f
      · rw[on m]at f;rw[on r]at g;split at f
        ·cases f
        · split at g
          ·cases g
          ·exact t.dj j k a X f g
  · try dsimp only at f
    split at f
    · rcases VW.mp f with h|h
      ·exact u1 a (.inl h)
      · rcases VW.mp h with h|h
        ·exact W (t.un _ a h)
        ·exact u1 a (.inr h)
    · split at f
      ·cases f
      ·exact W (t.un j a f)
  · try dsimp only
    rw[e2,cV];by_cases m:j=i
    ·subst m;rw[VL ⟨rfl,hi⟩,VL rfl,hm];exact⟨v0,hv,ow2⟩
    · rw[on λz=>m z.1.symm,on m];by_cases r:j=T.length
      · subst r;rw[VL rfl]
        have:rg T T.length=none:=by unfold rg;rw[List.getElem?_eq_none (Nat.le_refl _)];rfl
        rw[this];rfl
      · rw[on r];have l2:=t.lo j;rw[cV,on λz=>r z.1.symm,eh,Wd,on r,cV,on λz=>m z.1.symm,eh,on (by omega),jO,on r]at l2;have l0:=R.lo j;cases ed:rg T j with
        |none=>rw[ed]at l2;exact l2
        |some x=>
          rw[ed]at l2 l0;obtain⟨y,hy,w⟩:=l2;refine⟨y,hy,?_⟩;cases em:M.getD j .F with
          |F=>rw[em]at w;exact w
          |O s'=>rw[em]at w;exact w
          |R=>
            rw[em]at w l0;obtain⟨y',hy',w'⟩:=l0;rw[hy]at hy';cases hy';exact⟨Dn.mono sU2 w'.1,w.2⟩
  · rcases e1.nb a o q with w|w|w
    ·exact .inl w
    ·exact .inr (.inl (sUp.free w))
    ·exact .inr (.inr w)
  · try dsimp only at hj
    split at hj
    · rcases VW.mp hj with h|h
      ·obtain⟨o,_,q,_⟩:=there (.inl h);rw[n.un a f]at q;cases q
      · rcases VW.mp h with h|h
        ·exact n.ap a f _ h
        ·obtain⟨o,_,q,_⟩:=there (.inr h);rw[n.un a f]at q;cases q
    · split at hj
      ·cases hj
      ·exact n.ap a f j hj
 have hbo:∀k∈ii ps,k<T.length:=by
  have key:∀{ps:List Ap} {ds:List D} {vs:List V},Ag Y B U H Z T ps ds vs->∀k∈ii ps,k<T.length:=by
   intro ps
   induction ps with
   |nil=>intro ds vs _ k g;cases g
   |cons p ps ih=>
     intro ds vs G k g;obtain⟨d,dr,v,vr,rfl,rfl,m,r⟩:=G;cases p with
     |Bo q=>
       rcases VY.mp g with z|z
       ·subst z;exact(V6.mp (bP m.2)).1
       ·exact ih r k z
     |_=>exact ih r k g
  exact key G
 refine kJ (M:=Av M T.length s) (ps:= .O T.length::ps) (ds:=d::ds) Rp Gp ⟨show(Av M T.length s).getD T.length .F= .O s by rw[jO,VL rfl],fitM.any hl hf⟩ (by show(T.length::cg ps).Nodup;rw[hl];simp)
  (λk g z=>by
    have z:k∈T.length::cg ps:=z;rw[hl]at z
    have:=hbo k g
    have:=VU.mp z
    omega) hU ?_
 unfold bN;unfold gu at P;cases ef:fm (d::ds) with
 |bad=>rw[ef]at P;exact P
 |ok x ρc=>
   rw[ef]at P
   try dsimp only at P ⊢
   rw[bZ,iR hl];intro u I U1 As1 H1 N t e1 n1 k1;cases er:rg ρc 0 with
   |none=>rw[er]at P;exact P.elim
   |some d'=>
     rw[er]at P t;obtain⟨U2,As2,R2,e2,n2⟩:=back t e1;exact P u I U2 As2 H1 N R2 e2 (n2 N n1) (hU _ _ _ _ _ _ _ k1)
 |exc c ρc=>
   rw[ef]at P
   try dsimp only at P ⊢
   rw[bZ,iR hl];intro I U1 As1 H1 t e1;cases er:rg ρc 0 with
   |none=>rw[er]at P;exact P.elim
   |some d'=>
     rw[er]at P t;obtain⟨U2,As2,R2,e2,n2⟩:=back t e1;exact P I U2 As2 H1 R2 e2
end
end Mi
namespace L2
open PySem PySem.Spec PyProof.Rows PySem.W
section
variable{n:Nat}(hn:0<n)
include hn
end
def pick{W:Type}(l:List W)(p:List Nat):List W:=p.filterMap λi=>l[i]?
end L2
namespace Mi
open PySem L2
def iF:List D->Option (List (List Int))
 |[]=>some []
 |.tup ds::r=>(match bQ ds,iF r with|some k,some a=>some (k::a)|_,_=>none)
 |_::_=>none
section
variable{Y:Cm}{E:XK}{M:List Md}{K:F0}
theorem E4{b:List (List ay)}{a:List (List Int)}(e:iF (b.map λk=>.tup (k.map kD))=some a):b=a.map λk=>k.map Sum.inl:=by
 have c:∀{k:List ay} {ns:List Int},bQ (k.map kD)=some ns->k=ns.map Sum.inl:=by
  intro k
  induction k with
  |nil=>intro ns e;cases e;rfl
  |cons x k d=>
    intro ns e;cases x with
    |inl i=>
      rw[VN]at e;have e:(bQ (k.map kD)).map (i::·)=some ns:=e;obtain⟨M,e1,rfl⟩:=V7.mp e;rw[d e1];rfl
    |inr i=>cases e
 induction b generalizing a with
 |nil=>cases e;rfl
 |cons k b d=>
   rw[VN,iF]at e;cases e1:bQ (k.map kD) with
   |none=>rw[e1]at e;cases e
   |some n=>
     cases f:iF (b.map λk=>.tup (k.map kD)) with
     |none=>rw[e1,f]at e;cases e
     |some ns=>
       rw[e1,f]at e;cases e;rw[c e1,d f];rfl
def IH(c:Nat)(b:Str)(get:P1->Option D)(set:P1->D->P1)(d:List D->Out D)(a:P1->Res (List D)):P1->Out D:=λT=>match get T with
 |none=>.bad
 |some o=>if a8 c b o=true then ((a T).up T).bind λds T=>gu set d o ds T else .bad
theorem IQ{c:Nat}{n:Str}{g:List Md}{l:KT D V}{C:List D->Out D}{ps:List Ap}{ta:TE}{get:P1->Option D}{set:P1->D->P1}{i:Nat}{s:Sh}{t:TA}{m:P1->Res (List D)}(p:Prt Y M ta get set i s)(h:AJ Y E M ps t m)(hf:fitM M ps g)
 (hl:cg ps=[]) (hb:i∉ii ps) (hU:∀d v B U J H N,l d v B U H N->l d v B J H N):MJ Y l E M (cT (Y c) n (vK Y (.O s::g) l C) [] E ta t) (IH c n get set C m):=by
 intro B U As Z H T Q R P;unfold IH at P;cases e:get T with
 |none=>rw[e]at P;exact P.elim
 |some o=>
   rw[e]at P;dsimp only at P;by_cases z:a8 c n o=true
   · rw[VL z]at P;obtain⟨sh,v0,d0,v,L,A,R',hm,hv,hd,y,ht,S,cl⟩:=p.rd R e;refine ht _ ?_;have x:Dn Y H o v:=Ow.dn R.bh (λ_ _ _ h=>h) S;obtain⟨a,dx,fs,rfl,h1,h2⟩:=iU z x;refine⟨a,dx,fs,rfl,h1,h2,h B U As Z H T _ R ?_⟩;cases F:m T with
     |ok ds=>
       rw[F]at P;intro vs X W K N2 R2 f n2 G;rw[Wh]
       have u:∀{a},a∈L\/a∈R'->a∈As i:=λ{a} h=>by
        rw[y];rcases h with h|h
        ·exact V0 _ h
        ·exact VS _ (VS _ h)
       have same:∀{a},a∈As i->K a=H a:=λ{a} h=>by
        obtain⟨o',q⟩:=R.at h;rw[q,f.h _ _ q]
       exact Ie R2 hm hv hd y (Ow.mono f.b (λa j=>same (by rw[y];exact VS _ (V0 _ j))) S)
        (λI H1 d' A1 sb k w=>cl I H1 d' A1 (f.b.trans sb) (λa j=>by rw[k a j,same (u j)]) w) G hf hl hb hU (Mo.at (r:=gu set C o ds T) P f.toEx)
     |exc c=>rw[F]at P;exact λX W K R2 f=>P X W As K R2 f.toEx
     |bad=>rw[F]at P;exact P
   ·rw[on z]at P;exact P.elim
theorem IE{c:Nat}{b:Str}{a:List Md}{d:List D->Out D}{ps:List Ap}{ta:TE}{get:P1->Option D}{set:P1->D->P1}{i:Nat}{s:Sh}{t:TA}{m:P1->Res (List D)}(p:Prt Y M ta get set i s)(h:AJ Y E0 M ps t m)(f:fitM M ps a)
 (e:cg ps=[]) (g:i∉ii ps):MJ Y (KR Y .F) E0 M (cT (Y c) b (gZ Y (.O s::a) (KR Y .F) d) [] E0 ta t) (IH c b get set d m):=IQ p h f e g λ_ _ _ _ _ _ _ h=>h
end
end Mi
namespace Cl
open PySem L2 Mi
section
variable{Z σ' W X L K:Type}{rep:Z->P1}{Y:σ'->P1}
theorem qv:∀l:List (List Int),iF (l.map (kg D.int))=some l
 |[]=>rfl
 | k::l=>by
   rw[VN];show(match bQ (k.map D.int),iF (l.map (kg D.int)) with|some k,some a=>some (k::a)|_,_=>none)=_;rw[dy,qv l]
@[simp] def gI(g:Z->Option (List W))(k:Z->Option Int):Z->Option W:=λs=>match g s,k s with
 |some l,some k=>if 0<=k then l[k.toNat]? else none
 |_,_=>none
@[simp] def pI(g:Z->Option (List W))(p:Z->List W->Z)(k:Z->Option Int):Z->W->Z:=λs y=>match g s,k s with
 |some l,some k=>p s (l.set k.toNat y)
 |_,_=>s
theorem nE{j:Nat}{k:Z->Option Int}(h:∀s,rg (rep s) j=(k s).map D.int):∀s,BG j (rep s)=k s:=λs=>by
 unfold BG;rw[h];cases k s<;>rfl
theorem UI{e:W->D}{get:P1->Option D}{mk:P1->Option Int}{g:Z->Option (List W)}{k:Z->Option Int}(b:∀s,get (rep s)=(g s).map (eL e))(a:∀s,mk (rep s)=k s)(s:Z):j1 get mk (rep s)=(gI g k s).map e:=by
 unfold j1 gI;rw[b,a];cases g s with
 |none=>rfl
 |some l=>
   cases k s with
   |none=>rfl
   |some k=>
     show(if 0<=k then (l.map e)[k.toNat]? else none)=(if 0<=k then l[k.toNat]? else none).map e;by_cases z:0<=k
     ·rw[VL z,VL z,V9]
     ·rw[on z,on z];rfl
theorem Vv{e:W->D}{get:P1->Option D}{set:P1->D->P1}{mk:P1->Option Int}{g:Z->Option (List W)}{p:Z->List W->Z}{k:Z->Option Int}(c:∀s,get (rep s)=(g s).map (eL e))(a:∀s l,set (rep s) (eL e l)=rep (p s l))(b:∀s,mk (rep s)=k s)(s:Z)(y:W):
 lL get set mk (rep s) (e y)=rep (pI g p k s y):=by
 unfold lL pI;rw[c,b];cases g s with
 |none=>rfl
 |some l=>
   cases k s with
   |none=>rfl
   |some k=>
     show set (rep s) (.lst ((l.map e).set k.toNat (e y)))=rep (p s (l.set k.toNat y));rw[<-a,<-ZA];rfl
@[simp] def UF(g:Z->Option W)(p:Z->W->Z)(a:σ'->W)(d:Z->Res K)(f:W->K->OutC σ' L):Z->OutC Z L:=λs=>match g s with
 |none=>.bad
 | some o=>match d s with
   |.ok r=>(match f o r with | .ok x b=>.ok x (p s (a b)) | .exc c b=>.exc c (p s (a b)) | .bad=>.bad)
   |.exc c=>.exc c s
   |.bad=>.bad
theorem Kv{e0:W->D}{e:K->List D}{eR:L->D}{c:Nat}{n:Str}{get:P1->Option D}{set:P1->D->P1}{l:List D->Out D}{b:P1->Res (List D)}{g:Z->Option W}{p:Z->W->Z}{j:σ'->W}{m:Z->Res K}{f:W->K->OutC σ' L}
 (A:∀s,get (rep s)=(g s).map e0) (t:∀s y,set (rep s) (e0 y)=rep (p s y)) (v:∀a,a8 c n (e0 a)=true) (u:EJ rep e (λT=>(b T).bind .ok) m) (B:∀a r,SimO Y eR (l (e0 a::e r)) (f a r)) (d:∀i,rg (Y i) 0=some (e0 (j i))):
 NJ rep eR (IH c n get set l b) (UF g p j m f):=λs=>by
 unfold IH UF;rw[A];cases g s with
 |none=>trivial
 |some o=>
   dsimp only[Option.map];rw[if_pos (v o)];have h:=u s;cases q:m s with
   |bad=>trivial
   |exc x=>
     rw[q]at h;have h:(b (rep s)).bind .ok=.exc x:=h;cases z:b (rep s) with
     |ok y=>rw[z]at h;cases h
     |exc y=>rw[z]at h;cases h;rfl
     |bad=>rw[z]at h;cases h
   |ok r=>
     rw[q]at h;have h:(b (rep s)).bind .ok=.ok (e r):=h
     have z:b (rep s)=.ok (e r):=by
      cases z:b (rep s) with
      |ok y=>rw[z]at h;exact h
      |exc y=>rw[z]at h;cases h
      |bad=>rw[z]at h;cases h
     rw[z];show SimO rep eR (gu set l (e0 o) (e r) (rep s)) _;unfold gu;have k:=B o r;dsimp only;cases w:f o r with
     |bad=>trivial
     |ok x i=>
       rw[w]at k;have k:l (e0 o::e r)=.ok (eR x) (Y i):=k;rw[k];dsimp only;rw[d];dsimp only;rw[t];rfl
     |exc x i=>
       rw[w]at k;have k:l (e0 o::e r)=.exc x (Y i):=k;rw[k];dsimp only;rw[d];dsimp only;rw[t];rfl
end
end Cl
namespace L2
open PySem PySem.Spec PyProof.Rows
section
variable{X:Cx}{G:L9}{Z:St}{H:Hp}{s:Shared}{a:Addr}{kvs:List (List ay×V)}
theorem Fq{h:Heap}{u:HO}(f:∀b xs,H b=some (.tup xs)->b≠a)(x:ObjOk X.prog X.w H h a (.dT kvs)):ObjOk X.prog X.w (upd H a u) h a (.dT kvs):=by
 obtain⟨z,y,xs,r,eM⟩:=x;refine⟨z,y,xs,?_,eM⟩
 have d:∀{c:List (List ay×V)} {l2:List (List ay×Addr×Value)},Paired (λ(p:List ay×V) (q:List ay×Addr×Value)=>p.1=q.1/\H q.2.1=some (.tup (p.1.map kV))/\RelV p.2 q.2.2) c l2->
  Paired (λ(p:List ay×V) (q:List ay×Addr×Value)=>p.1=q.1/\upd H a u q.2.1=some (.tup (p.1.map kV))/\RelV p.2 q.2.2) c l2:=by
  intro c l2 h
  induction h with
  |nil=>exact .nil
  |cons h _ e=>exact .cons ⟨h.1,by rw[ao (f _ _ h.2.1)];exact h.2.1,h.2.2⟩ e
 exact d r
theorem Inv.freeze(I:Inv X G Z H s)(d:H a=some (.dT kvs)):∃o,s.heap.get? a=some o/\Inv X G Z (upd H a (.frz o (.dT kvs))) s:=by
 have x:=I.hok a _ d;obtain⟨_,_,_,_,o,f,ep,c,_⟩:=(show ObjOk X.prog X.w H s.heap a (.dT kvs) from x);refine⟨o,c,?_⟩
 have:=I.write (x:=a) (e:=a) (o:=.frz o (.dT kvs)) (h':=s.heap) (t':=s.toks) (by rw[d];trivial) (.inl rfl) (λb u _ e=>e) ⟨o,c⟩ ⟨c,Fq (X:=X) (λb xs e z=>by rw[z,d]at e;cases e) x⟩
 exact this
theorem Inv.thaw{o:Obj}(I:Inv X G Z H s)(D:H a=some (.frz o (.dT kvs)))(h0:∀o u,X.H₀ a≠some (.frz o u)):Inv X G Z (upd H a (.dT kvs)) s:=by
 have x:ObjOk X.prog X.w H s.heap a (.frz o (.dT kvs)):=I.hok a _ D;have ne:∀{b:Addr} {u:HO},H b=some u->(∀o v,u≠ .frz o v)->b≠a:=λ{b u} e h z=>by rw[z,D]at e;cases e;exact h _ _ rfl
 have d:∀{b:Addr},H b=none->b≠a:=λ{b} e z=>by rw[z,D]at e;cases e
 refine⟨I.ok,I.os,I.bare,⟨I.base.keep,I.base.slot,λb ob q n B=>?_,I.base.there,λb xs e=>?_,λb ob u e=>?_,λb l e=>?_⟩,I.loc,I.cell,?_,λy c e=>?_,λp hp=>?_,λb u e=>?_,I.len⟩
 · have:=I.base.free b ob q n B
   rw[ao (d this)];exact this
 · have:=I.base.tups b xs e
   rw[ao (ne this λ_ _ z=>by cases z)];exact this
 ·have F:b≠a:=λz=>h0 ob u (z▸e);rw[ao F];exact I.base.frzs b ob u e
 ·obtain⟨f,g⟩:=I.base.tbls b l e;refine⟨by rw[ao (ne f λ_ _ z=>by cases z)];exact f,λc ob e1 m=>?_⟩;obtain⟨j,k⟩:=g c ob e1 m;exact⟨by rw[ao (ne j λ_ _ z=>by cases z)];exact j,k⟩
 ·rw[ao (d I.free)];exact I.free
 ·rw[ao (d (I.freeC y c e))];exact I.freeC y c e
 ·obtain⟨f,g,j,k⟩:=I.pin p hp;exact⟨f,by rw[ao (d g)];exact g,j,k⟩
 · have tn:∀b xs,H b=some (.tup xs)->b≠a:=λb xs e=>ne e λ_ _ z=>by cases z
   by_cases z:b=a
   ·subst z;rw[az]at e;cases e;exact Fq (X:=X) tn x.2
   · rw[ao z]at e;have y:=I.hok b u e
     have i:∀(u:HO) (b:Addr),ObjOk X.prog X.w H s.heap b u->ObjOk X.prog X.w (upd H a (.dT kvs)) s.heap b u:=by
      intro u
      induction u with
      |dT E=>
        intro b y;obtain⟨z,w,xs,r,eM⟩:=(show ObjOk X.prog X.w H s.heap b (.dT E) from y);refine⟨z,w,xs,?_,eM⟩
        have i:∀{t:List (List ay×V)} {l2:List (List ay×Addr×Value)},Paired (λ(p:List ay×V) (q:List ay×Addr×Value)=>p.1=q.1/\H q.2.1=some (.tup (p.1.map kV))/\RelV p.2 q.2.2) t l2->
         Paired (λ(p:List ay×V) (q:List ay×Addr×Value)=>p.1=q.1/\upd H a (.dT kvs) q.2.1=some (.tup (p.1.map kV))/\RelV p.2 q.2.2) t l2:=by
         intro t l2 h
         induction h with
         |nil=>exact .nil
         |cons h _ A=>exact .cons ⟨h.1,by rw[ao (tn _ _ h.2.1)];exact h.2.1,h.2.2⟩ A
        exact i r
      |ins C dx fs=>
        intro b y;obtain⟨f,g⟩:=(show ObjOk X.prog X.w H s.heap b (.ins C dx fs) from y);exact⟨by rw[ao (ne f λ_ _ z=>by cases z)];exact f,g⟩
      |frz o u A=>intro b y;exact⟨y.1,A b y.2⟩
      |tbl l=>
        intro b y;obtain⟨f,ps,g,j,k⟩:=(show ObjOk X.prog X.w H s.heap b (.tbl l) from y);exact⟨f,ps,g,j,λx B=>(k x B).imp id λ⟨c,e1,m,J⟩=>⟨c,e1,by rw[ao (ne m λ_ _ z=>by cases z)];exact m,J⟩⟩
      |_=>intro b y;exact y
     exact i u b y
def Itd(a:Addr)(o:Obj)(bs:List Addr):It:=
 ⟨λi H=>(∃kvs:List (List ay×V),H a=some (.frz o (.dT kvs)))/\i<bs.length,λi H x H'=>H'=H/\∃b,bs[i]?=some b/\x=.ref b,λi H=>(∃kvs:List (List ay×V),H a=some (.frz o (.dT kvs)))/\bs.length<=i⟩
theorem Ad{P:Program}{w:World}{K:F0}{M:Expr}{o:Obj}{f:Array DictEntry}{ep:Nat}{bs:List Addr}(a g:Addr)(J:o.ExactDict)(hd:o.data=.dict f ep)(U:bs.length=f.size)(O:∀(i:Nat) (h:i<f.size) b,bs[i]?=some b->f[i].key=.ref b):
 Turn P w K M (Itd a o bs) [g] g (λi h=>i<=f.size/\h.IsKeyIter g a i f.size ep) where
 mem:=by simp
 obj:=λi h st b l=>by
  have e:b=g:=by simpa using l
  subst e;obtain⟨_,o,e,c,d⟩:=st;exact⟨o,e,λv z=>by rw[d]at z;cases z⟩
 keep:=λi h h' st k=>⟨st.1,st.2.at λo e=>k g (by simp) o e⟩
 item:=by
  intro X u q x L i G s Z H E I n st r;subst u q x;obtain⟨⟨kvs,t⟩,hi⟩:=r;have y:ObjOk X.prog X.w H s.heap a (.frz o (.dT kvs)):=I.hok a _ t;obtain⟨F,D,Q,C,B,A⟩:=n g (by simp);have j:i<f.size:=by omega
  refine m6 st.2 ⟨o,y.1,J,hd⟩ j λh' m N=>?_;have S:Inv X G Z H {s with heap:=h'}:=I.turned (t':=s.toks) (λb o l e=>(N.2 b l).trans e) F D C B A;obtain⟨T,e,c,d⟩:=id m;have p:bs[i]?=some (bs[i]):=V4 hi;refine⟨_,rfl,yO (s:={s with heap:=h'}) e c d (by decide) ⟨.ref bs[i],H,S,O i j _ p,⟨rfl,_,p,rfl⟩,⟨j,m⟩,λb l=>(n b l).1⟩⟩
 done:=by
  intro X u q x L i G s Z H E I n st r;subst u q x;obtain⟨⟨kvs,t⟩,hi⟩:=r;have y:ObjOk X.prog X.w H s.heap a (.frz o (.dT kvs)):=I.hok a _ t;obtain⟨F,D,Q,C,B,A⟩:=n g (by simp);have R:i=f.size:=Nat.le_antisymm st.1 (by omega);subst R;exact rA (I.ok.hd L) st.2 ⟨o,y.1,J,hd⟩ λh' p=>⟨rfl,I.turned (t':=s.toks) (λb o l e=>p b o l e) F D C B A⟩
 self:=λ_ _ _ _ _ st h=>wpAny_pyIter_keyiter st.2 h
def Ja(c:TE):TI:=λZ H R=>c Z H λx H1=>∃a o kvs,x=.ref a/\H1 a=some (.frz o (.dT kvs))/\
 ∀bs:List Addr,bs.length=kvs.length->(∀(i:Nat) k v b,kvs[i]?=some (k,v)->bs[i]?=some b->H1 b=some (.tup (k.map kV)))->R (Itd a o bs) H1
theorem MM{K l:Expr}{E:TE}(Q:PE X l E):PI X K l (Ja E):=by
 intro G s Z H R I h;refine bb (Q G s Z H _ I h) λv c ⟨x,H1,B,L,M⟩=>?_;obtain⟨a,o,kvs,rfl,U,q⟩:=M;cases L;have y:ObjOk X.prog X.w H1 c.heap a (.frz o (.dT kvs)):=B.hok a _ U;obtain⟨z,hd,m,n,o',j,ep,J,F,d,u,P⟩:=(show ObjOk X.prog X.w H1 c.heap a (.dT kvs) from y.2);have Y:o'=o:=by have:=y.1;rw[J]at this;exact Wa this
 subst Y;have t:kvs.length=m.length:=WX n
 have r:j.size=m.length:=by
  have e:=congrArg List.length u
  rwa [VO,Wu]at e
 have S:∀(i:Nat) (h:i<j.size) b,(m.map λy=>y.2.1)[i]?=some b->j[i].key=.ref b:=λi h b e=>by
  rw[V9]at e;cases g:m[i]? with
  |none=>rw[g]at e;cases e
  |some y=>
    rw[g]at e;have D:y.2.1=b:=Wa e;have A:j.toList[i]?=some j[i]:=by rw[Xg];exact WL h
    rw[u,V9,g]at A;have ee:entryOfKey (tupleKind (aq X.prog X.w)) y=j[i]:=Wa A;rw[<-ee,li,D]
 refine mZ hd ⟨o',J,F,d⟩ ?_;have I2:Inv X G Z H1 {c with heap:=c.heap.push {cls:=.type "dict_keyiterator",data:=.fields #[.ref a,.int 0 0,.int j.size 0,.int ep 0]}}:=B.kept (t':=c.toks) λb o e=>VT _ e;refine⟨c.heap.objs.size,[c.heap.objs.size],_,_,H1,rfl,I2,Ad (bs:=m.map λy=>y.2.1) a _ F d (by rw[VO,r]) S,⟨WP _,⟨_,V8 _ rfl,rfl,rfl⟩⟩,λb T=>?_,q _ (by rw[VO,t]) λi k v b e1 f=>?_⟩
 · have e:b=c.heap.objs.size:=by simpa using T
   subst e;exact B.fpOk (V2 _) (B.hok.fresh (V2 _))
 · rw[V9]at f;cases g:m[i]? with
   |none=>rw[g]at f;cases f
   |some y=>
     rw[g]at f;have D:y.2.1=b:=Wa f
     have N:∀{C:List (List ay×V)} {l2:List (List ay×Addr×Value)},Paired (λ(p:List ay×V) (q:List ay×Addr×Value)=>p.1=q.1/\H1 q.2.1=some (.tup (p.1.map kV))/\RelV p.2 q.2.2) C l2->
      ∀{i:Nat} {p q},C[i]?=some p->l2[i]?=some q->H1 q.2.1=some (.tup (p.1.map kV)):=by
      intro C l2 hp
      induction hp with
      |nil=>intro i p q e;cases e
      |cons W _ O=>
        intro i p q e1 f;cases i with
        |zero=>cases e1;cases f;exact W.2.1
        |succ i=>exact O e1 f
     rw[<-D];exact N n e1 g
def BP(t:TE):TE:=λZ H Q=>t Z H Q\/∃a kvs,H a=some (.dT kvs)/\∀o,t Z (upd H a (.frz o (.dT kvs))) λv H1=>H1 a=some (.frz o (.dT kvs))/\Q v (upd H1 a (.dT kvs))
theorem HV{e:Expr}{t:TE}(h:PE X e t):PE X e (BP t):=by
 intro G s Z H Q I q;rcases q with q|⟨a,kvs,b,q⟩
 ·exact h G s Z H Q I q
 · obtain⟨o,j,g⟩:=I.freeze b;refine bb (h G s Z _ _ g (q o)) λu i ⟨v,H1,f,r,e1,d⟩=>⟨v,_,f.thaw e1 λo' c z=>?_,r,d⟩
   have:=I.base.frzs a o' c z
   rw[b]at this;cases this
end
end L2
namespace Mi
open PySem L2
structure Fz (a:Addr) (kvs:List (List ay×V)) (G G':Hp):Prop where
 ne:∀b,b≠a->G' b=G b
 fr:∀x,G a=some x->x=.dT kvs\/∃o,x=.frz o (.dT kvs)
 to:∀x,G a=some x->Rd G' a (.dT kvs)
 no:G a=none->G' a=none
section
variable{Y:Cm}{a:Addr}{kvs:List (List ay×V)}{E:XK}{M:List Md}{K:F0}
theorem Fz.at{G d:Hp}(F:Fz a kvs G d){b:Addr}{x:HO}(e:G b=some x)(n:nd x):b≠a/\d b=some x:=by
 have c:b≠a:=λz=>by
  subst z;rcases F.fr x e with q|⟨o,q⟩<;>rw[q]at n<;>exact n
 exact⟨c,by rw[F.ne b c];exact e⟩
theorem yU{G e:Hp}(F:Fz a kvs G e){d:D}{v:V}:Dn Y G d v->Dn Y e d v:=Dn.imp ⟨λb x q n=>(F.at q n).2,λb k c=>by
 by_cases z:b=a
 ·subst z;rcases c with c|⟨o,c⟩<;>rcases F.fr _ c with q|⟨o,q⟩<;>cases q<;>exact F.to _ c
 · show e b=_\/∃o,e b=_;rw[F.ne b z]
   exact c⟩
theorem Rel.fz{B U H S J H':Hp}{As:Nat->List Addr}{Z:St}{T:P1}(R:Rel Y M B U As Z H T)(FB:Fz a kvs B S)(g:Fz a kvs U J)(o:Fz a kvs H H')(k:∀i,a∉As i)(bu:Same S J)(uh:Same J H'):Rel Y M S J As Z H' T:=by
 have c:∀{i b},b∈As i->b≠a:=λ{i b} h z=>k i (z▸h);refine⟨bu,uh,R.nd,R.dj,λi b e=>by rw[g.ne b (c e)];exact R.un i b e,λi=>?_,R.len,λp hp=>?_⟩
 · have l:=R.lo i;unfold Lo at l ⊢;cases q:rg T i with
   |none=>rw[q]at l;exact l
   |some d=>
     rw[q]at l;obtain⟨v,j,w⟩:=l;refine⟨v,j,?_⟩;cases f:M.getD i .F with
     |F=>rw[f]at w;exact⟨yU FB w.1,w.2⟩
     |R=>rw[f]at w;exact⟨yU g w.1,w.2⟩
     |O s=>rw[f]at w;exact Ow.imp (yU FB) (λb e=>o.ne b (c e)) w
 ·obtain⟨l,n,m⟩:=R.tb p hp;exact⟨l,(FB.at n trivial).2,m⟩
def mN(G:Hp)(a:Addr)(u:HO):Hp:=λb=>if b=a then (G a).map λ_=>u else G b
theorem bR{G:Hp}{u:HO}{b:Addr}(h:b≠a):mN G a u b=G b:=on h
theorem cB{G:Hp}{u x:HO}(h:G a=some x):mN G a u a=some u:=by unfold mN;rw[if_pos rfl,h];rfl
theorem nL{G:Hp}{u:HO}(h:G a=none):mN G a u a=none:=by unfold mN;rw[if_pos rfl,h];rfl
theorem jp{G:Hp}{u:HO}(fr:∀x,G a=some x->x=.dT kvs\/∃o,x=.frz o (.dT kvs))(c:u=.dT kvs\/∃o,u=.frz o (.dT kvs)):Fz a kvs G (mN G a u):=
 ⟨λb h=>bR h,fr,λx e=>by
  rcases c with q|⟨o,q⟩
  ·exact .inl (by rw[cB e,q])
  ·exact .inr ⟨o,by rw[cB e,q]⟩,λe=>nL e⟩
theorem j4{G c:Hp}{u:HO}(s:Same G c):Same (mN G a u) (mN c a u):=λb x e=>by
 by_cases z:b=a
 · subst z;cases q:G b with
   |none=>rw[nL q]at e;cases e
   |some y=>rw[cB q]at e;rw[cB (s _ _ q)];exact e
 ·rw[bR z]at e ⊢;exact s _ _ e
theorem mj{mi:P1->Res Bool}{me:P1->Res D}{W:P1}:∀(ds:List D) (c:Nat),a7 mi me W ds≠ .exc c
 |[],c,h=>by cases h
 | d::ds,c,h=>by
   rw[a7]at h;have f:=mj (mi:=mi) (me:=me) (W:=W) ds;cases e1:mi (some d::W) with
   |bad=>rw[e1]at h;cases h
   |exc x=>rw[e1]at h;cases h
   |ok b=>
     rw[e1]at h;cases b with
     |false=>exact f c h
     |true=>
       cases e:me (some d::W) with
       |bad=>rw[e]at h;cases h
       |exc x=>rw[e]at h;cases h
       |ok x=>
         rw[e]at h;cases a:a7 mi me W ds with
         |ok y=>rw[a]at h;cases h
         |exc y=>exact f y a
         |bad=>rw[a]at h;cases h
def Ai(m:P1->Res D):P1->Res (List D):=λT=>(m T).bind λd=>match d with
 |.dT a _=>.ok (a.map λk=>.tup (k.map kD))
 |_=>.bad
theorem Il{i c:Nat}{f:Str}{C:List Nat}{ti:TT}{te:TE}{mi:P1->Res Bool}{me:P1->Res D}(hc:Cls K (Y c))(hn:NoAttr K (Y c) f)(hm:M.getD i .F= .R)(hix:C.Nodup)
 (hti:PJ Y KB E0 (k7 .F M C) ti mi) (hte:PJ Y (KR Y .F) E0 (k7 .F M C) te me):PJ Y (KO Y (.ct .fz)) E M (BP (lH (Ja (mV K (cF i) f)) C ti te)) (i6 (Ai (un (bv c f) (vr i))) C mi me):=by
 intro B U As Z H T Q R P;have l:=R.lo i;rw[hm]at l;unfold i6 Ai un vr at P;cases e:rg T i with
 |none=>rw[e]at P;exact P.elim
 |some d0=>
   rw[e]at P l;obtain⟨v0,hv0,w0⟩:=l;have w0:Dn Y U d0 v0:=w0.1;replace P:Po Y (KO Y (.ct .fz)) E M B U As Z H T (((bv c f d0).bind λd=>match d with | .dT J _=>Res.ok (J.map λk=>D.tup (k.map kD))|_=>.bad).bind λxs=>if xs.length<af then (a7 mi me (dG T C) xs).bind λys=>.ok (.lst ys) else .bad) Q:=P;cases ef:bv c f d0 with
   |bad=>rw[ef]at P;exact P.elim
   |exc x=>exact(j7 ef).elim
   |ok d=>
     rw[ef]at P;obtain⟨ns,vs,rfl,lk⟩:=mP ef;rw[Dn]at w0;obtain⟨b,dx,fs,rfl,hb,hns,hvs⟩:=w0;subst hns;obtain⟨x,hx,dx'⟩:=jW hvs lk;cases d with
     |dT J ds=>
       replace P:Po Y (KO Y (.ct .fz)) E M B U As Z H T (if (J.map λk=>D.tup (k.map kD)).length<af then (a7 mi me (dG T C) (J.map λk=>D.tup (k.map kD))).bind λys=>.ok (.lst ys) else .bad) Q:=P;rw[Dn]at dx';obtain⟨a,kvs,rfl,hrd,hks,_⟩:=dx'
       -- the QK over a frozen dict
       have core:∀{I U1 H1:Hp} {o:Obj} {Q1:VK},Rel Y M I U1 As Z H1 T->H1 a=some (.frz o (.dT kvs))->H1 b=some (.ins (Y c) dx fs)->
        (∀bs:List Addr,(∀y∈bs,∃q,H1 y=some q/\d7 q)->Po Y (KO Y (.ct .fz)) E M (Mi.frz I H1 bs) (Mi.frz U1 H1 bs) As Z H1 T (if (J.map λk=>D.tup (k.map kD)).length<af then (a7 mi me (dG T C) (J.map λk=>D.tup (k.map kD))).bind λys=>.ok (.lst ys) else .bad) Q1)->
        lH (Ja (mV K (cF i) f)) C ti te Z H1 Q1:=λ{I U1 H1 o Q1} r ha1 X W=>by
        refine⟨.ref b,bP hv0,b,_,dx,fs,.ref a,rfl,X,hc,hn,hx,a,o,kvs,rfl,ha1,λbs hl hk p hp=>?_⟩
        have g:∀y∈bs,∃q,H1 y=some q/\d7 q:=λy m=>by
         obtain⟨j,hj,ej⟩:=X6 m;have h4:bs[j]?=some y:=by rw[<-ej];exact V4 hj
         have h5:kvs[j]?=some (kvs[j]'(by omega)):=V4 (by omega);exact⟨_,hk j _ _ y (by rw[h5]) h4,_,rfl⟩
        have R2:Rel Y M (Mi.frz I H1 bs) (Mi.frz U1 H1 bs) As Z H1 T:=r.grow (bo r.bh) (bo r.uh) (Same.refl _) (j5 r.bu) (mO r.uh) λi a n=>by
         unfold Mi.frz;split
         ·rename_i z;obtain⟨o,e,t⟩:=g a z;exact(r.nt n e t).elim
         ·exact r.un i a n
        refine zN (k:= .F) hix (λ_ _ _ _ _=>Tb) hti hte (λ_ _ _ _ _ _ _ _ _ _ _ _ _=>O4) (.inl rfl) R2 (vs:=bs.map V.ref) (λH2 s2=>?_) ?_ (W bs g) p hp
        ·have h1:=s2 _ _ ha1;refine⟨λj hj=>⟨⟨kvs,h1⟩,by simpa using hj⟩,λj hj=>⟨⟨kvs,h1⟩,by simpa using hj⟩,λj y H' hj m=>⟨m.1,?_⟩⟩;obtain⟨q,e1,e2⟩:=m.2;rw[V9,e1,e2];rfl
        · refine Dns.of_get (by rw[VO,VO,hl,<-hks,VO]) λj d y ed ey=>?_;rw[V9]at ed ey;obtain⟨kk,ek,rfl⟩:=V7.mp ed;obtain⟨q,eq,rfl⟩:=V7.mp ey;rw[<-hks,V9]at ek;obtain⟨kv,ekv,rfl⟩:=V7.mp ek
          have:=hk j kv.1 kv.2 q (by rw[ekv]) eq
          show Dn Y (Mi.frz I H1 bs) (.tup (kv.1.map kD)) (.ref q);rw[Dn];refine⟨q,_,rfl,?_,r8 kv.1⟩;unfold Mi.frz;rw[if_pos (List.mem_of_getElem? eq)];exact this
       have O:∀{I U1 H1:Hp} {bs:List Addr},Rel Y M I U1 As Z H1 T->(∀y∈bs,∃q,H1 y=some q/\d7 q)->Gw I U1 H1 (Mi.frz I H1 bs) (Mi.frz U1 H1 bs) H1:=λ{I U1 H1 bs} r g=>by
        refine⟨⟨bo r.bh,bo r.uh,λa o q=>?_⟩,Same.refl _,λa o q=>?_⟩
        · unfold Mi.frz at q;split at q
          ·rename_i z;obtain⟨o',e,t⟩:=g a z;rw[e]at q;cases q;exact .inr (.inr t)
          ·exact .inl q
        · unfold Mi.frz at q;split at q
          ·rename_i z;obtain⟨o',e,t⟩:=g a z;rw[e]at q;cases q;exact .inr (.inr t)
          ·exact .inl q
       rcases hrd with n|⟨o,n⟩
       · refine .inr ⟨a,kvs,R.uh _ _ n,λo=>?_⟩;have hU:∀x,U a=some x->x=.dT kvs:=λx q=>by rw[n]at q;cases q;rfl
         have hB:∀x,B a=some x->x=.dT kvs:=λx q=>hU x (R.bu _ _ q);have L:H a=some (.dT kvs):=R.uh _ _ n;have hA:∀i,a∉As i:=λi z=>by rw[R.un i a z]at n;cases n
         have eH:upd H a (.frz o (.dT kvs))=mN H a (.frz o (.dT kvs)):=by
          funext y;by_cases z:y=a
          ·subst z;rw[az,cB L]
          ·rw[ao z,bR z]
         rw[eH];have u0:(HO.frz o (.dT kvs))=.dT kvs\/∃o',(HO.frz o (.dT kvs))=.frz o' (.dT kvs):=.inr ⟨o,rfl⟩
         have r:Rel Y M (mN B a (.frz o (.dT kvs))) (mN U a (.frz o (.dT kvs))) As Z (mN H a (.frz o (.dT kvs))) T:=
          R.fz (jp (λx q=>.inl (hB x q)) u0) (jp (λx q=>.inl (hU x q)) u0) (jp (λx q=>by rw[L]at q;cases q;exact .inl rfl) u0) hA (j4 R.bu) (j4 R.uh)
         have X:mN H a (.frz o (.dT kvs)) b=some (.ins (Y c) dx fs):=by
          have hba:b≠a:=λz=>by rw[z,n]at hb;cases hb
          rw[bR hba];exact R.uh _ _ hb
         refine core r (cB L) X λbs g=>?_;have g1:=O r g
         have abs:a∉bs:=λz=>by
          obtain⟨q,e1,t⟩:=g a z;rw[cB L]at e1;cases e1;obtain⟨_,t⟩:=t;cases t
         by_cases zl:(J.map λk=>D.tup (k.map kD)).length<af
         · rw[VL zl]at P ⊢;cases ec:a7 mi me (dG T C) (J.map λk=>D.tup (k.map kD)) with
           |bad=>rw[ec]at P;exact P.elim
           |exc q=>exact(mj _ _ ec).elim
           |ok zs=>
             rw[ec]at P;intro v B3 U3 H3 N R3 g3 n3 w3;have w3:Ow Y B3 H3 (.lst zs) (.ct .fz) v N:=w3;have A:H3 a=some (.frz o (.dT kvs)):=g3.h _ _ (cB L);refine⟨A,?_⟩
             have eH3:upd H3 a (.dT kvs)=mN H3 a (.dT kvs):=by
              funext y;by_cases z:y=a
              ·subst z;rw[az,cB A]
              ·rw[ao z,bR z]
             rw[eH3];have t0:(HO.dT kvs)=.dT kvs\/∃o',(HO.dT kvs)=.frz o' (.dT kvs):=.inl rfl
             have f3:∀{G:Hp},Same G H3->∀x,G a=some x->x=.dT kvs\/∃o',x=.frz o' (.dT kvs):=λs x q=>by
              have:=s _ _ q
              rw[A]at this;cases this;exact .inr ⟨o,rfl⟩
             have hA3:a∉N:=λz=>by have:=n3.fr a z;rw[cB L]at this;cases this
             have U2a:Mi.frz (mN U a (.frz o (.dT kvs))) (mN H a (.frz o (.dT kvs))) bs a=some (.frz o (.dT kvs)):=by unfold Mi.frz;rw[if_neg abs];exact cB n
             have w:∀{G G3:Hp},Same G H->Same (Mi.frz (mN G a (.frz o (.dT kvs))) (mN H a (.frz o (.dT kvs))) bs) G3->Same G (mN G3 a (.dT kvs)):=λ{G G3} sg s3 y x q=>by
              by_cases z:y=a
              · subst z;have hx:x=.dT kvs:=by have:=sg _ _ q;rw[L]at this;cases this;rfl
                have:Mi.frz (mN G y (.frz o (.dT kvs))) (mN H y (.frz o (.dT kvs))) bs y=some (.frz o (.dT kvs)):=by unfold Mi.frz;rw[if_neg abs];exact cB q
                rw[cB (s3 _ _ this),hx]
              · rw[bR z];refine s3 _ _ ?_;unfold Mi.frz;split
                ·rw[bR z];exact sg _ _ q
                ·rw[bR z];exact q
             refine P v (mN B3 a (.dT kvs)) (mN U3 a (.dT kvs)) (mN H3 a (.dT kvs)) N (R3.fz (jp (f3 R3.bh) t0) (jp (f3 R3.uh) t0) (jp (f3 (Same.refl _)) t0) hA (j4 R3.bu) (j4 R3.uh)) ⟨⟨w R.bh g3.b,w R.uh g3.u,λy x q=>?_⟩,λy x q=>?_,λy x q=>?_⟩ ⟨n3.nd,λy m=>?_,λy m=>?_⟩ (Ow.imp (yU (jp (f3 R3.bh) t0)) (λy m=>bR λz=>hA3 (z▸m)) w3)
             · by_cases z:y=a
               · subst z;cases S:B3 y with
                 |none=>rw[nL S]at q;cases q
                 |some x'=>
                   rw[cB S]at q;cases q;rcases g3.nb y x' S with h|h|h
                   · unfold Mi.frz at h;rw[if_neg abs]at h;cases q0:B y with
                     |none=>rw[nL q0]at h;cases h
                     |some x0=>rw[hB x0 q0];exact .inl rfl
                   ·rw[U2a]at h;cases h
                   ·have:=R3.bh _ _ S;rw[A]at this;cases this;obtain⟨_,h⟩:=h;cases h
               · rw[bR z]at q;rcases g3.nb y x q with h|h|h
                 · unfold Mi.frz at h;split at h
                   ·rename_i m;obtain⟨q1,e1,t⟩:=g y m;rw[e1]at h;cases h;exact .inr (.inr t)
                   ·rw[bR z]at h;exact .inl h
                 · unfold Mi.frz at h;split at h
                   ·rename_i m;obtain⟨q1,e1,t⟩:=g y m;rw[e1]at h;cases h
                   ·rw[bR z]at h;exact .inr (.inl h)
                 ·exact .inr (.inr h)
             · by_cases z:y=a
               ·subst z;rw[L]at q;cases q;exact cB A
               ·rw[bR z];exact g3.h _ _ (by rw[bR z];exact q)
             · by_cases z:y=a
               · subst z;cases S:U3 y with
                 |none=>rw[nL S]at q;cases q
                 |some x'=>rw[cB S]at q;cases q;exact .inl n
               · rw[bR z]at q;rcases g3.fr y x q with h|h|h
                 · unfold Mi.frz at h;split at h
                   ·rename_i m;obtain⟨q1,e1,t⟩:=g y m;rw[e1]at h;cases h;exact .inr (.inr t)
                   ·rw[bR z]at h;exact .inl h
                 ·rw[bR z]at h;exact .inr (.inl h)
                 ·exact .inr (.inr h)
             · have:=n3.fr y m
               have z:y≠a:=λz=>hA3 (z▸m);rw[bR z]at this;exact this
             · have:=n3.un y m
               have z:y≠a:=λz=>hA3 (z▸m);rw[bR z];exact this
         ·rw[on zl]at P;exact P.elim
       ·exact .inl (core R (R.uh _ _ n) (R.uh _ _ hb) λbs g=>Po.at P (O R g))
     |_=>exact P.elim
end
end Mi
namespace L2
open PySem PySem.Spec PyProof.Rows
section
variable{prog:Program}{w:World}{A:Around}{E:LV}{s:Shared}
def s9(h:Heap)(a:Array DictEntry):Prop:=∀e∈a,∃b o,e.key=.ref b/\h.get? b=some o/\o.cls=.type "tuple"
theorem Au{b:Addr}{o:Obj}{Q:Bool->Shared->Prop}(a:s.heap.get? b=some o)(c:o.cls=.type "tuple")(h:Q false s):wpAny (model prog w) A (Builtin.Dict.quietEq (.ref b)) Q E s:=by
 unfold Builtin.Dict.quietEq;dsimp only;refine wpAny_bind (wpAny_specialOf (T := "tuple") ⟨o,a,c⟩ PySem.F.slot_tuple_eq.lookup ?_);exact wpAny_pure h
theorem Fk{id:String}{d:Addr}{o:Obj}{a:Array DictEntry}{ep:Nat}{Q:Array DictEntry->Shared->Prop}(k:s.heap.get? d=some o)(hd:o.data=.dict a ep)(m:s9 s.heap a)(n:∀e∈a,¬ (a.filter (·.hash==e.hash)).size>1)(h:Q a s):
 wpAny (model prog w) A (Builtin.Dict.entriesForEmpty id d) Q E s:=by
 unfold Builtin.Dict.entriesForEmpty;refine wpAny_bind (wpAny_dictEntries k hd ?_);refine wpAny_bind ?_;rw[<-Array.forIn_toList]
 have c:∀l:List DictEntry,(∀e∈l,e∈a)->wpAny (model prog w) A (forIn l PUnit.unit λe (_:PUnit)=>(do
  let q <-Builtin.Dict.quietEq e.key
  if (!q)=true then
   if (a.filter (·.hash==e.hash)).size>1 then (do let _ <-(unsupported s!"{id}:keys-of-equal-hash" : Sem PUnit);pure (ForInStep.yield PUnit.unit)) else pure (ForInStep.yield PUnit.unit)
  else pure (ForInStep.yield PUnit.unit):Sem (ForInStep PUnit))) (λ_ g=>g=s) E s:=by
  intro l
  induction l with
  |nil=>intro _;exact VX rfl
  |cons e l i=>
    intro f;rw[List.forIn_cons];obtain⟨b,ob,u,t,r⟩:=m e (f e VP);refine VM (VM ?_);rw[u];refine Au t r ?_;simp only[Bool.not_false,YG];rw[on (n e (f e VP))];exact VX (i λx j=>f x (VR _ j))
 refine XZ (c a.toList λe p=>X3.mp p) (λ_ g e=>?_) λ_ _ e=>e;subst e;exact VX h
theorem DP{p:String}{d o:Addr}{m:Obj}{l:Nat}{a:Array DictEntry}{ep:Nat}{Q:Unit->Shared->Prop}(j:d≠o)(h:(o==sysModules)=false)(hd:s.heap.get? d=some m)(g:m.data=.dict #[] l)(r:RawD s.heap o a ep)
 (n:s9 s.heap a) (t:∀e∈a,¬ (a.filter (·.hash==e.hash)).size>1) (hz:a.size<=sizeLine) (h0:a=#[]->Q () s) (u:Q () {s with heap:=s.heap.update d (Obj.mapDictKeys λ_=>a)}):
 wpAny (model prog w) A (Builtin.Dict.mergeDict p d o) Q E s:=by
 obtain⟨x,c,y,f⟩:=id r;unfold Builtin.Dict.mergeDict;rw[if_neg (by simpa using j)];unfold Builtin.Dict.showsAll;rw[if_neg (by rw[h];exact Bool.false_ne_true)];refine wpAny_bind (wpAny_pure ?_);refine wpAny_bind (wpAny_dictEntries c f ?_);dsimp only;by_cases k:a=#[]
 · subst k;have few:(!(decide ((#[]:Array DictEntry).size<=8)&&(#[]:Array DictEntry).all λe=>(keyPart e.key).isSome))=false:=by simp
   rw[few,on V1];refine VM (YN c f ?_);refine VM (Xl c f ?_);refine VM ?_;rw[Std.Legacy.Range.forIn_eq_forIn_range'];simp only[Std.Legacy.Range.size,Nat.sub_zero,Nat.add_sub_cancel,Nat.div_one,Array.size_empty,List.range'_zero,List.forIn_nil];exact VX (VX (h0 rfl))
 · have hsz:0<a.size:=by
    by_cases z:0<a.size
    ·exact z
    ·exact absurd (Array.eq_empty_of_size_eq_zero (by omega)) k
   have few:(!(decide (a.size<=8)&&a.all λe=>(keyPart e.key).isSome))=true:=by
    obtain⟨b,ob,v,_⟩:=n a[0] (Array.getElem_mem hsz)
    have:(a.all λe=>(keyPart e.key).isSome)=false:=by
     cases q:a.all λe=>(keyPart e.key).isSome with
     |false=>rfl
     |true=>
       have:=Array.all_eq_true.mp q 0 hsz
       rw[v]at this;cases this
    rw[this,Bool.and_false];rfl
   rw[few,VL rfl];refine VM (Xl hd g ?_);rw[VL (by rfl)];refine VM (Fk c f n t ?_);have i:(!a.isEmpty)=true:=by simp[k]
   rw[VL i];exact VM (wpAny_updateDictKeysTo hd g (VX u) (by omega))
end
def cI(k:List Int):Int:=reduceHash (Builtin.Tuple.tupleHashOf (k.map hashInt))
theorem Bc{P:Program}{w:World}(k:List Int):(tupleKind (aq P w)).hash (k.map Sum.inl)=cI k:=by
 show reduceHash (Builtin.Tuple.tupleHashOf ((k.map Sum.inl).map (Ta w)))=_;rw[Ws];rfl
theorem wV{b:Array DictEntry}(h:(b.toList.map (·.hash)).Nodup):∀e∈b,¬ (b.filter (·.hash==e.hash)).size>1:=λe g=>by
 rw[<-Wu,Array.toList_filter]
 have a:∀{l:List DictEntry},(l.map (·.hash)).Nodup->(l.filter (·.hash==e.hash)).length<=1:=by
  intro l
  induction l with
  |nil=>intro _;simp
  |cons x l c=>
    intro nd;rw[VN,Wc]at nd;rw[WQ];by_cases z:(x.hash==e.hash)=true
    · rw[VL z]
      have:l.filter (·.hash==e.hash)=[]:=List.filter_eq_nil_iff.mpr λy d q=>by
       have e1:x.hash=e.hash:=by simpa using z
       have f:y.hash=e.hash:=by simpa using q
       exact nd.1 (We.mpr ⟨y,d,by rw[e1,f]⟩)
      rw[this];simp
    ·rw[on z];exact c nd.2
 have:=a h
 omega
section
variable{X:Cx}
def Rg:V->List V->Hp->VK->Prop:=λx vs H Q=>∃(d b:Addr) (kvs:List (List ay×V)) (a:List (List Int)),x=.ref d/\vs=[.ref b]/\H d=some (.dT [])/\Rd H b (.dT kvs)/\d≠b/\kvs.map (·.1)=a.map (λk=>k.map Sum.inl)/\(a.map cI).Nodup/\Q .non (upd H d (.dT kvs))
theorem AR:MtR X "dict.update" Rg:=by
 intro G s Z H x vs v us Q I rx rv h;obtain⟨d,b,kvs,J,rfl,rfl,hd,hb,W,hk,hh,q⟩:=h;cases rx;obtain⟨u,rfl,ru⟩:=rv.one;cases ru;obtain⟨_,T,S,E,od,P,epd,c,A,j,N,_⟩:=(show ObjOk X.prog X.w H s.heap d (.dT []) from I.hok d _ hd);obtain⟨z,U,l,g,ob,R,ep,M,L,hdb,i,Y⟩:=(show ObjOk X.prog X.w H s.heap b (.dT kvs) from hb.ok I.hok);have l0:S=[]:=by cases E;rfl
 subst l0
 have e0:P=#[]:=by
  have:P.toList=[]:=N
  exact Array.toList_inj.mp this
 subst e0;have n:kvs.length=l.length:=WX g
 have m:R.size=l.length:=by
  have e:=congrArg List.length i
  rwa [VO,Wu]at e
 have tk:s9 s.heap R:=λe he=>by
  have O:e∈R.toList:=X3.mpr he;rw[i]at O;obtain⟨y,t,rfl⟩:=We.mp O
  have r:∀{f:List (List ay×V)} {l2:List (List ay×Addr×Value)},Paired (λ(p:List ay×V) (q:List ay×Addr×Value)=>p.1=q.1/\H q.2.1=some (.tup (p.1.map kV))/\RelV p.2 q.2.2) f l2->∀y∈l2,∃k:List ay,H y.2.1=some (.tup (k.map kV)):=by
   intro f l2 h
   induction h with
   |nil=>intro y t;cases t
   |cons h _ K=>
     intro y t;rcases VY.mp t with e|e
     ·subst e;exact⟨_,h.2.1⟩
     ·exact K y e
  obtain⟨k,hk⟩:=r g y t;obtain⟨its,_,⟨o,ho,hc,_⟩,_⟩:=I.tuple (a:=y.2.1) (xs:=k.map kV) (.inl (.inl hk));exact⟨y.2.1,o,rfl,ho,hc⟩
 have hk2:∀{f:List (List ay×V)} {l2:List (List ay×Addr×Value)},Paired (λ(p:List ay×V) (q:List ay×Addr×Value)=>p.1=q.1/\H q.2.1=some (.tup (p.1.map kV))/\RelV p.2 q.2.2) f l2->f.map (·.1)=l2.map (·.1):=by
  intro f l2 h
  induction h with
  |nil=>rfl
  |cons h _ K=>rw[VN,VN,h.1,K]
 have B:(R.toList.map (·.hash)).Nodup:=by
  rw[i,Ws]
  have e1:(l.map ((·.hash)∘entryOfKey (tupleKind (aq X.prog X.w))))=J.map cI:=by
   have e2:l.map (·.1)=J.map λk=>k.map Sum.inl:=by rw[<-hk2 g];exact hk
   have e3:l.map ((·.hash)∘entryOfKey (tupleKind (aq X.prog X.w)))=(l.map (·.1)).map (tupleKind (aq X.prog X.w)).hash:=by rw[Ws];rfl
   rw[e3,e2,Ws];exact WM λk _=>Bc k
  rw[e1];exact hh
 refine wpAny_call_entry PySem.F.slot_dict_update ⟨od,c,A.1⟩ PySem.F.entry_dict_update ?_ (PySem.F.args_dict_update_2 _ _);have hTd:s.TypeIs (.ref d) "dict" := ⟨od,c,A.1⟩;have C:s.TypeIs (.ref b) "dict" := ⟨ob,M,L.1⟩;unfold Builtin.«dict.update»;refine wpAny_bind ?_;unfold Builtin.Dict.selfAndRest;refine wpAny_bind (wpAny_notOrdered_dict hTd ?_);show wpAny _ _ (pure (d,[Value.ref b])) _ _ s;refine wpAny_pure ?_;show wpAny _ _ (Builtin.Dict.updateFrom "dict.update" d (.ref b) [] .none) _ _ s;unfold Builtin.Dict.updateFrom;refine wpAny_bind (wpAny_typeOf C ?_);rw[if_neg (by decide)];refine wpAny_bind ?_;unfold Builtin.Dict.merge;refine wpAny_bind ?_;unfold Builtin.Dict.readDirectly;refine wpAny_bind (wpAny_isInstance C isSubtype_dict_dict ?_);simp only[Bool.not_true,Bool.false_eq_true,if_false];refine wpAny_bind (wpAny_specialOf C PySem.F.slot_dict_iter.lookup (wpAny_pure ?_));simp only[beq_self_eq_true,if_true];refine wpAny_bind (wpAny_pure ?_)
 have D:Paired (λ(p:List ay×V) (q:List ay×Addr×Value)=>p.1=q.1/\upd H d (.dT kvs) q.2.1=some (.tup (p.1.map kV))/\RelV p.2 q.2.2) kvs l:=by
  have r:∀{f:List (List ay×V)} {l2:List (List ay×Addr×Value)},Paired (λ(p:List ay×V) (q:List ay×Addr×Value)=>p.1=q.1/\H q.2.1=some (.tup (p.1.map kV))/\RelV p.2 q.2.2) f l2->
   Paired (λ(p:List ay×V) (q:List ay×Addr×Value)=>p.1=q.1/\upd H d (.dT kvs) q.2.1=some (.tup (p.1.map kV))/\RelV p.2 q.2.2) f l2:=by
   intro f l2 h
   induction h with
   |nil=>exact .nil
   |cons h _ K=>exact .cons ⟨h.1,by rw[ao (λz=>by have:=h.2.1;rw[z,hd]at this;cases this)];exact h.2.1,h.2.2⟩ K
  exact r g
 refine DP W U c j ⟨ob,M,L,hdb⟩ tk (wV B) (by rw[m,<-n];exact z) (λez=>?_) ?_
 · show wpAny _ _ (Builtin.Dict.addKeywords d [] >>= _) _ _ _;have ey:kvs=[]:=Wx.mp (by rw[n,<-m,ez];rfl);refine VM (VX (VX ⟨.none,rfl,.non,H,I,rfl,?_⟩))
   have:upd H d (.dT kvs)=H:=by
    funext y;by_cases zy:y=d
    ·subst zy;rw[az,ey,hd]
    ·exact ao zy
   rw[this]at q;exact q
 · show wpAny _ _ (Builtin.Dict.addKeywords d [] >>= _) _ _ _;refine VM (VX (VX ⟨.none,rfl,.non,_,I.write (x:=d) (e:=d) (o:=.dT kvs) (t':=s.toks) (by rw[hd];trivial) (.inl rfl) (λy u t e=>?_) ⟨_,Wr _ c (W7 (WA j _))⟩ ?_,rfl,q⟩))
   ·exact(Wo _ _ (Xp t)).trans e
   ·exact⟨z,T,l,D,_,R,epd+1,Wr _ c (W7 (WA j _)),A.mapDictKeys _,WA j _,i,Y⟩
end
section
variable{X:Cx}
def BO(b:TE):TE:=λZ H Q=>b Z H λx H1=>∃a kvs,x=.ref a/\Rd H1 a (.dK kvs)/\∀l,H1 l=none->Q (.ref l) (upd H1 l (.lst (kvs.map (·.2))))
theorem IZ{kvs:List (ay×V)}{vs:List (ay×Value)}(r:KV kvs vs):Vals (kvs.map (·.2)) (vs.map (·.2)):=by
 induction r with
 |nil=>exact .nil
 |cons h _ a=>exact .cons h.2 a
theorem tR{x:Str}{o:Expr}{L:TE}{p ap m pos:Pos}(hc:X.calm=true)(hg:Gl X x)(hm:X.mg x=none)(U:bootBuiltins x=some (.type "list"))(V:PE X o L)
 (Y:x ≠ "__name__" := by decide) (J:(x==("__debug__" : Str))=false:=by decide)
 (k:attributeBase o "values" X.env (eval o X.env)=eval o X.env:=by rfl) (i:(ap.endLine==m.line)=true:=by rfl)
 (t:starEach [.Call (.Attribute o "values" ap) [] [] m] X.env=(false,eval (.Call (.Attribute o "values" ap) [] [] m) X.env)::starEach [] X.env:=by rfl):
 PE X (.Call (.Name x p) [.Call (.Attribute o "values" ap) [] [] m] [] pos) (BO L):=by
 intro G s Z H Q I h;refine Xc (jo I hg hm U ?_ Y J);refine W9 (e:= .Call (.Attribute o "values" ap) [] [] m) ?_ t rfl;rw[t];show wpAny _ _ (spliced ((false,eval (.Call (.Attribute o "values" ap) [] [] m) X.env)::backTo pos (starEach [] X.env))) _ _ s;refine WC ?_;refine wpAny_Call_method0_late k i (bb (V G s Z H _ I h) λu c ⟨x1,H1,B,R,S⟩=>?_);obtain⟨a,kvs,rfl,N,q⟩:=S;have C:u=Value.ref a:=R;subst C;obtain⟨M,P,_⟩:=lq B (.inl ⟨kvs,N⟩);refine⟨"dict","dict.values",WG,Yv,PySem.F.type_dict_values,M,P,WK rfl (PySem.evalArgs_none ?_)⟩;obtain⟨z,hd,vs,n,dd⟩:=ki B.hok N;refine XI Yv M PySem.F.entry_dict_values (PySem.F.args_dict_values_1 _) (meets_dict_values (aq X.prog X.w) a hd) ⟨⟨vs,dd⟩,?_⟩;refine W5 ?_;obtain⟨ob,es,ep,y,T,A,hk,hp,E⟩:=id dd;have hla:a<c.heap.objs.size:=VZ y
 refine PySem.W.kdl_call (s:={c with heap:=c.heap.push {cls:=.type "dict_values",data:=.fields #[.ref a]}}) (PySem.W.kdl_values (knd:=aq X.prog X.w) (d:=a) (r:=c.heap.objs.size) (kvs:=vs) (ep:=ep)) (B.ok.hd hc)
  ⟨⟨_,V8 _ rfl,rfl,rfl⟩,ob,es,VT _ y,T,A,hk,hp,E⟩ (by rw[<-n.length];exact z) λh' O g c' kp K f=>?_
 have D:∀b o,c.heap.get? b=some o->h'.get? b=some o:=λb o eb=>kp b o (Heap.get?_push_of_some _ eb);have l:g.toList=vs.map (·.2):=PySem.W.kdl_vals_eq _ (by rw[Array.length_toList,f.1]) λj v e=>f.2 j v (by rw[<-Array.getElem?_toList];exact e);have sz:(c.heap.push {cls:=.type "dict_values",data:=.fields #[.ref a]}).objs.size=c.heap.objs.size+1:=Heap.size_push ..;dsimp only at K;rw[sz]at K;show EP X G Z Q (.ref (c.heap.push {cls:=.type "dict_values",data:=.fields #[.ref a]}).objs.size) _;rw[sz];refine⟨.ref (c.heap.objs.size+1),_,B.laid (t':=O) D (Nat.le_succ _) ?_,rfl,q _ (B.hok.fresh (Nat.le_succ _))⟩;refine⟨by rw[List.length_map];exact z,g.toList,c',by rw[l];exact IZ n,?_⟩;rw[Array.toArray_toList];exact K
theorem Bp:cz X (.builtin "len") (λxs H Q=>∃a kvs,xs=[V.ref a]/\Rd H a (.dT kvs)/\Q (.int kvs.length) H):=by
 intro G s Z H xs us Q I r h;obtain⟨a,kvs,rfl,v,q⟩:=h;obtain⟨u,rfl,p⟩:=tq r;cases p;obtain⟨z,hd,i,f,o,l,ep,k,t,d,g,_⟩:=(show ObjOk X.prog X.w H s.heap a (.dT kvs) from v.ok I.hok);have c:kvs.length=i.length:=WX f
 have b:l.size=i.length:=by
  have e:=congrArg List.length g
  rwa [VO,Wu]at e
 have j:s.TypeIs (.ref a) "dict" := ⟨o,k,t.1⟩;refine Calls.call_function_entry kind_len plain_len entry_len (args_len1 _) ?_;unfold Builtin.«len»;refine wpAny_bind (m:=oneArg "len" _) (wpAny_pure ?_)
 refine VM (m:=callSpecial? (.ref a) (Str.ofString "__len__")) (wpAny_callSpecial?_slot (name:=Str.ofString "__len__") j YX
  (wpAny_call_entry YX j PySem.F.entry_dict_len ?_ (PySem.F.args_dict_len_1 _)))
 show wpAny _ _ (dictSize a >>= _) _ _ s;unfold dictSize;refine wpAny_bind (wpAny_bind (wpAny_dictEntries k d (wpAny_pure ?_)));show wpAny _ _ (Builtin.Dict.pendingCount a >>= _) _ _ s;refine wpAny_bind (wpAny_pendingCount_other hd ?_);refine wpAny_ret_mkInt ?_;have x:((l.size:Int)+((0:Nat):Int))=(kvs.length:Int):=by rw[b,<-c];simp
 first | rw[x] | (rw[Nat.add_zero,b,<-c])
 refine VM (Xa (VX ?_));refine VM (XS ?_);have n:=z;rw[Y1]at n;show wpAny _ _ (if ((kvs.length:Nat):Int)<0 then _ else _) _ _ _;rw[on (by omega)];show wpAny _ _ (if ((kvs.length:Nat):Int)>=2 ^ 63 then _ else _) _ _ _;rw[on (by omega)];exact VM (wpAny_mkInt (VX ⟨_,rfl,.int kvs.length,H,(I.tok _),⟨_,rfl⟩,q⟩))
def vW(d:TE)(g:TG)(tb:TS):TS:=λD Z H=>d Z H λx H1=>∃a kvs,x=.ref a/\Rd H1 a (.dT kvs)/\(kvs=[]->D.nx Z H1)/\
 ∀k v r b,kvs=(k,v)::r->H1 b=some (.tup (k.map kV))->g (.ref b) Z H1 λc e=>tb {D with nx:=λ_ _=>False,ct:=λ_ _=>False,bk:=D.nx} c e
theorem CY{T iter:Expr}{t:List Stmt}{U:TE}{g:TG}{tb:TS}{pos:Pos}(hp:PassesOwn (model X.prog X.w) X.A X.env X.xe)(hc:X.calm=true)(hl:PE X iter U)(hg:PG X T g)(K:PSs X t tb)
 (hs:∀x,foldedSetIterable iter X.env x=pure x:=by intro _;rfl):PS X (.For T iter t [] pos) (vW U g tb):=by
 intro G s Z H D I h;refine wpAny_For (bb (hl G s Z H _ I h) λv i ⟨x,H1,O,r1,q1⟩=>?_) hs;obtain⟨a,kvs,rfl,ha,q0,q⟩:=q1;cases r1;obtain⟨z,hd,N,u,o,j,ep,Y,W,r,F,hnd⟩:=(show ObjOk X.prog X.w H1 i.heap a (.dT kvs) from ha.ok O.hok);have p:kvs.length=N.length:=WX u
 have m:j.size=N.length:=by
  have e:=congrArg List.length F
  rwa [VO,Wu]at e
 refine mZ hd ⟨o,Y,W,r⟩ ?_;have S:Inv X G Z H1 {i with heap:=i.heap.push {cls:=.type "dict_keyiterator",data:=.fields #[.ref a,.int 0 0,.int j.size 0,.int ep 0]}}:=O.kept (t':=i.toks) λb o e=>VT _ e;have hf:=O.fpOk (V2 _) (O.hok.fresh (V2 _));have B:(i.heap.push {cls:=.type "dict_keyiterator",data:=.fields #[.ref a,.int 0 0,.int j.size 0,.int ep 0]}).IsKeyIter i.heap.objs.size a 0 j.size ep:=⟨_,V8 _ rfl,rfl,rfl⟩;have C:RawD (i.heap.push {cls:=.type "dict_keyiterator",data:=.fields #[.ref a,.int 0 0,.int j.size 0,.int ep 0]}) a j ep:=⟨o,VT _ Y,W,r⟩;obtain⟨f0,f1,f2,f3,f4,f5⟩:=hf;refine codeAny_forLoop_any (λ_ s'=>s'={i with heap:=i.heap.push {cls:=.type "dict_keyiterator",data:=.fields #[.ref a,.int 0 0,.int j.size 0,.int ep 0]}}) ?_ 0 rfl;rintro n s3 rfl;cases kvs with
 |nil=>
   have e0:j.size=0:=by rw[m,<-p];rfl
   rw[e0]at B;refine WD hp (rA (s:={i with heap:=_}) (S.ok.hd hc) (by rw[e0];exact B) C λh' eb=>?_);exact XQ ⟨Z,H1,S.turned (t':=i.toks) (λb o K e=>eb b o K e) f0 f1 f3 f4 f5,q0 rfl⟩
 |cons V kvs=>
   cases N with
   |nil=>cases p
   |cons y N=>
     cases u with
     |cons hy u=>
       have E:0<j.size:=by rw[m];exact Nat.succ_pos _
       refine WD hp (m6 (s:={i with heap:=_}) B C E λh' Q sb=>?_)
       have ek:j[0].key=.ref y.2.1:=by
        have J:j.toList[0]?=some j[0]:=by rw[Xg];exact WL E
        rw[F]at J;have ee:entryOfKey (tupleKind (aq X.prog X.w)) y=j[0]:=Wa J;rw[<-ee,li]
       rw[ek];have I3:Inv X G Z H1 {i with heap:=h'}:=S.turned (t':=i.toks) (λb o K e=>(sb.2 b K).trans e) f0 f1 f3 f4 f5;obtain⟨oi,e,c,d⟩:=id Q;refine WD hp (yO (s:={i with heap:=h'}) e c d (by decide) ?_);refine WD hp (bb (hg G _ Z H1 (.ref y.2.1) (.ref y.2.1) _ I3 rfl (q V.1 V.2 kvs y.2.1 rfl hy.2.1)) λ_ s6 ⟨P,H6,I6,q6⟩=>?_);refine WD hp (bb (K _ s6 P H6 _ I6 q6) λf s7 l=>?_);cases f with
       |next=>obtain⟨k,M,L,R⟩:=l;exact R.elim
       |cont=>obtain⟨k,M,L,R⟩:=l;exact R.elim
       |brk=>obtain⟨k,M,L,l⟩:=l;exact⟨k,M,L,l⟩
       |ret v=>obtain⟨x7,k,M,L,r7,l⟩:=l;exact⟨x7,k,M,L,r7,l⟩
end
end L2
namespace Mi
open PySem L2
section
variable{Y:Cm}{E:XK}{M:List Md}{K:F0}{B U H:Hp}{As:Nat->List Addr}{Z:St}{T:P1}{t:TE}{get:P1->Option D}{set:P1->D->P1}
def Qx(get:P1->Option D):P1->Res D:=λT=>match get T with|some d=>.ok d|none=>.bad
theorem RA{i:Nat}(p:Prt Y M t get set i (.ct .fz)):PJ Y (KC Y .F) E M t (Qx get):=by
 intro B U As Z H T Q R P;unfold Qx at P;cases e:get T with
 |none=>rw[e]at P;exact P.elim
 |some d=>
   rw[e]at P;obtain⟨sh,c,d0,v,L,A,k,g,f,hd,h,b,a,j⟩:=p.rd R e;exact b _ (P v B U H [] R (Gw.refl _ _ _) New.nil (Ow.cn R.bh a))
def BJ:D->Res D | .dK _ vs=>.ok (.lst vs)|_=>.bad
theorem M6{ta:TE}{b:P1->Res D}(d:PJ Y (KC Y .F) E M ta b):PJ Y (KO Y (.ct .fz)) E M (BO ta) (un BJ b):=by
 intro B U As Z H T Q R P;refine d.bnd R P λx v I U1 H1 L _ h e1 i g W=>?_;cases x with
 |dK j ds=>
   obtain⟨a,kvs,rfl,f,k,e⟩:=g;exact⟨a,kvs,rfl,.inl f,λl c=>dO h W e c⟩
 |_=>exact W.elim
def OQ:D->Res D | .dT a _=>.ok (.int a.length)|_=>.bad
theorem Ng{ta:TE}{c:P1->Res D}(e:PJ Y (KR Y .X) E M ta c):PJ Y (KR Y .F) E M (tF (λxs H Q=>∃a kvs,xs=[V.ref a]/\Rd H a (.dT kvs)/\Q (.int kvs.length) H) (aM ta bO)) (un OQ c):=by
 intro B U As Z H T Q R P;refine e.bnd R P λx v I U1 H1 L _ h e1 i b W=>?_;cases x with
 |dT d ds=>
   have b:Dn Y H1 (.dT d ds) v:=b;rw[Dn]at b;obtain⟨a,kvs,rfl,g,f,j⟩:=b;refine⟨a,kvs,rfl,g,?_⟩
   have:kvs.length=d.length:=by rw[<-f,VO]
   rw[this];exact W _ I U1 H1 [] h (Gw.refl _ _ _) New.nil (by show Dn Y I (.int _) _;rw[Dn])
 |_=>exact W.elim
def hZ:List ay->List D->ay->List ay×List D
 |k::a,d::ds,j=>if k=j then hZ a ds j else (k::(hZ a ds j).1,d::(hZ a ds j).2)
 |_,_,_=>([],[])
theorem qF{G:Hp}{k:ay}:∀{kvs:List (ay×V)} {ds:List D},Dns Y G ds (kvs.map (·.2))->(dU kvs k).map (·.1)=(hZ (kvs.map (·.1)) ds k).1/\Dns Y G (hZ (kvs.map (·.1)) ds k).2 ((dU kvs k).map (·.2))
 | [],ds,h=>by
   cases ds<;>exact⟨rfl,by show Dns Y G [] [];rw[Dns]⟩
 | p::kvs,ds,h=>by
   cases ds with
   |nil=>rw[Dns]at h;cases h
   |cons d ds=>
     rw[List.map_cons,Dns]at h;obtain⟨y,r,e,f,c⟩:=h;cases e;obtain⟨b,a⟩:=qF (k:=k) c;unfold dU at b a ⊢;rw[List.map_cons,List.filter_cons,hZ];by_cases q:p.1=k
     ·rw[on (by simp[q]),VL q];exact⟨b,a⟩
     ·rw[VL (by simpa using q),on q];refine⟨by rw[VN,b],?_⟩;rw[VN,Dns];exact⟨_,_,rfl,f,a⟩
def l6(set:P1->D->P1)(T:P1)(a:List ay)(vs:List D)(k:ay):Out D:=match aZ a vs k with
 |some y=>.ok y (set T (.dK (hZ a vs k).1 (hZ a vs k).2))
 |none=>.ok .non T
def nZ(get:P1->Option D)(set:P1->D->P1)(mk:P1->Res D):P1->Out D:=λT=>match get T with
 |some (.dK a vs)=>((mk T).up T).bind λk T=>(match bA k with|some k=>l6 set T a vs k|none=>.bad)
 |_=>.bad
theorem IU{z:TE}{mk:P1->Res D}(p:Pth Y M t get set)(V:PJ Y (KR Y .X) E M z mk):MJ Y (KR Y .F) E M (vY t z (tC .non)) (nZ get set mk):=by
 intro B U As Z H T Q R P;unfold nZ at P;cases e:get T with
 |none=>rw[e]at P;exact P.elim
 |some d=>
   obtain⟨v,A,S,K,hA,cl⟩:=p.rd R e;cases d with
   |dK n vs=>
     rw[e]at P;replace P:Mo Y (KR Y .F) E M B U Z (((mk T).up T).bind λk T=>(match bA k with|some k=>l6 set T n vs k|none=>.bad)) Q:=P;obtain⟨a,kvs,rfl,C,h2,rfl,W⟩:=K.dK rfl;refine S _ ⟨a,rfl,.inl ⟨kvs,.inl C⟩,V B U As Z H T _ R ?_⟩;cases s:mk T with
     |exc c=>rw[s]at P;exact λI U1 H1 m f=>P I U1 As H1 m f.toEx
     |bad=>rw[s]at P;exact P.elim
     |ok o=>
       rw[s]at P;intro u I U1 H1 N m f n1 q;have q:Dn Y H1 o u:=q;replace P:Mo Y (KR Y .F) E M B U Z (match bA o with|some k=>l6 set T n vs k|none=>.bad) Q:=P;cases x:bA o with
       |none=>rw[x]at P;exact P.elim
       |some k=>
         rw[x]at P;replace P:Mo Y (KR Y .F) E M B U Z (l6 set T n vs k) Q:=P;have j:Dns Y I vs (kvs.map (·.2)):=W.mono f.b;have i:=f9 (Y:=Y) (G:=I) k j;subst h2;unfold l6 at P;refine⟨kvs,k,f.h _ _ C,nD x q,λv g=>?_,λg=>?_⟩
         · cases l:aZ (kvs.map (·.1)) vs k with
           |none=>rw[l]at i;rw[show cA kvs k=none from i]at g;cases g
           |some y=>
             rw[l]at i P;obtain⟨w,r,J⟩:=i;rw[r]at g;cases g;obtain⟨O,L⟩:=qF (Y:=Y) (G:=I) (k:=k) j;refine P _ I U1 As _ [] (cl I U1 H1 m f.b f.h a VP _ _ ?_) f.toEx NewM.nil J;rw[<-O];exact Ow.dK' az L
         · cases l:aZ (kvs.map (·.1)) vs k with
           |some y=>rw[l]at i;obtain⟨w,r,J⟩:=i;rw[r]at g;cases g
           |none=>
             rw[l]at P;exact P .non I U1 As H1 [] m f.toEx NewM.nil (by show Dn Y I .non .non;rw[Dn])
   |_=>rw[e]at P;exact P.elim
def GR(set:P1->D->P1)(T:P1):D->Out D
 |.dT b vs=>(match iF (b.map λk=>.tup (k.map kD)) with|some a=>(if (a.map cI).Nodup/\vs.all aT=true then .ok .non (set T (.dT b vs)) else .bad)|none=>.bad)
 |_=>.bad
def qU(get:P1->Option D)(set:P1->D->P1)(me:P1->Res D):P1->Out D:=λT=>match get T with
 |some (.dT [] _)=>((me T).up T).bind λd T=>GR set T d
 |_=>.bad
theorem Ef{te:TE}{me:P1->Res D}(p:Pth Y M t get set)(X:PJ Y (KR Y .U) E M te me):MJ Y (KR Y .F) E M (LU K "dict" Rg t (aM te bO)) (qU get set me):=by
 intro B U As Z H T Q R P;unfold qU at P;cases e:get T with
 |none=>rw[e]at P;exact P.elim
 |some d=>
   obtain⟨v,A,W,V,hA,cl⟩:=p.rd R e;cases d with
   |dT l vs=>
     cases l with
     |cons _ _=>rw[e]at P;exact P.elim
     |nil=>
       rw[e]at P;replace P:Mo Y (KR Y .F) E M B U Z (((me T).up T).bind λd T=>GR set T d) Q:=P;obtain⟨a,kvs,rfl,O,h2,rfl,h3⟩:=V.dT rfl;have y:kvs=[]:=List.map_eq_nil_iff.mp h2;subst y;refine W _ ⟨.inr (.inr (.inl ⟨rfl,.inr ⟨_,O⟩⟩)),X B U As Z H T _ R ?_⟩;cases J:me T with
       |exc c=>rw[J]at P;exact λI U1 H1 n j=>P I U1 As H1 n j.toEx
       |bad=>rw[J]at P;exact P.elim
       |ok x=>
         rw[J]at P;intro u I U1 H1 N n j n1 r;have r:Dn Y U1 x u:=r;replace P:Mo Y (KR Y .F) E M B U Z (GR set T x) Q:=P;cases x with
         |dT l ds=>
           replace P:Mo Y (KR Y .F) E M B U Z (match iF (l.map λk=>.tup (k.map kD)) with|some f=>(if (f.map cI).Nodup/\ds.all aT=true then .ok .non (set T (.dT l ds)) else .bad)|none=>.bad) Q:=P;cases L:iF (l.map λk=>.tup (k.map kD)) with
           |none=>rw[L]at P;exact P.elim
           |some f=>
             rw[L]at P;dsimp only at P;by_cases z:(f.map cI).Nodup/\ds.all aT=true
             · rw[VL z]at P;rw[Dn]at r;obtain⟨b,s,rfl,g,m,C⟩:=r;have ek:=E4 L;obtain⟨i,G⟩:=hA a VP;have S:=n.un i a G
               have w:a≠b:=λq=>by
                subst q;rcases g with g|⟨o,g⟩<;>(rw[S]at g;cases g)
               refine⟨a,b,s,f,rfl,rfl,j.h _ _ O,jN n.uh g,w,by rw[m,ek],z.1,?_⟩;refine P .non I U1 As _ [] (cl I U1 H1 n j.b j.h a VP _ _ ?_) j.toEx NewM.nil (by show Dn Y I .non .non;rw[Dn]);rw[<-m];exact Ow.dT' az (dM z.2 C)
             ·rw[on z]at P;exact P.elim
         |_=>exact P.elim
   |_=>rw[e]at P;exact P.elim
def Kx(c:Nat)(f:Str)(i:Nat)(g:List D->Out D)(a b:P1->Res D)(x:P1->Out D):P1->Out D:=λT=>match rg T i with
 |none=>.bad
 |some o=>if a8 c f o=true then ((a T).up T).bind λy T=>((b T).up T).bind λz T=>(x T).bind λw d=>(match rg d i with|some e=>bN [.O i,.F,.F,.F] g [e,y,z,w] d|none=>.bad) else .bad
theorem IR{c:Nat}{C:Str}{p:List Md}{j:KT D V}{m:List D->Out D}{i:Nat}{ta tb tx:TE}{G x:P1->Res D}{n:P1->Out D}(ha:PJ Y (KR Y .F) E M ta G)(hb:PJ Y (KR Y .F) E M tb x)(hx:MJ Y (KR Y .F) E M tx n)
 (hf:fitM M [.O i,.F,.F,.F] p) (hU:∀d v B U J H N,j d v B U H N->j d v B J H N):MJ Y j E M (cT (Y c) C (vK Y p j m) [] E (cF i) (aM ta (aM tb (aM tx bO)))) (Kx c C i m G x n):=by
 intro B U As Z H T Q R P;unfold Kx at P;cases e:rg T i with
 |none=>rw[e]at P;exact P.elim
 |some o=>
   rw[e]at P;dsimp only at P;by_cases z:a8 c C o=true
   · rw[VL z]at P;have l:=R.lo i;rw[e]at l;obtain⟨v0,h,_⟩:=l;refine⟨v0,bP h,?_⟩;obtain⟨a,dx,fs,rfl,h1,h2⟩:=iU z (R.read h e);refine⟨a,dx,fs,rfl,h1,h2,ha B U As Z H T _ R ?_⟩;cases e1:G T with
     |bad=>rw[e1]at P;exact P
     |exc c=>rw[e1]at P;exact λI U1 H1 R1 t=>P I U1 As H1 R1 t.toEx
     |ok y=>
       rw[e1]at P;intro v1 I U1 H1 L R1 t n1 d1;refine hb I U1 As Z H1 T _ R1 ?_;replace P:Mo Y j E M B U Z (((x T).up T).bind λz T=>(n T).bind λw f=>(match rg f i with|some g=>bN [.O i,.F,.F,.F] m [g,y,z,w] f|none=>.bad)) Q:=P;cases W:x T with
       |bad=>rw[W]at P;exact P
       |exc c=>rw[W]at P;exact λA U2 H2 R2 s=>P A U2 As H2 R2 (t.toEx.trans s.toEx)
       |ok z=>
         rw[W]at P;intro v2 A U2 H2 N2 R2 s n2 d2;refine hx A U2 As Z H2 T _ R2 ?_;replace P:Mo Y j E M B U Z ((n T).bind λw f=>(match rg f i with|some g=>bN [.O i,.F,.F,.F] m [g,y,z,w] f|none=>.bad)) Q:=P;cases S:n T with
         |bad=>rw[S]at P;exact P
         |exc c f=>rw[S]at P;exact λB3 U3 u H3 R3 q=>P B3 U3 u H3 R3 ((t.toEx.trans s.toEx).trans q)
         |ok w f=>
           rw[S]at P;replace P:Mo Y j E M B U Z (match rg f i with|some g=>bN [.O i,.F,.F,.F] m [g,y,z,w] f|none=>.bad) Q:=P;intro v3 B3 U3 u H3 N3 R3 q n3 X;cases K:rg f i with
           |none=>rw[K]at P;exact P.elim
           |some g=>
             rw[K]at P;dsimp only at P;have d1:Dn Y I y v1:=d1;have d2:Dn Y A z v2:=d2;have X:Dn Y B3 w v3:=X;refine kJ (ps:=[.O i,.F,.F,.F]) (ds:=[g,y,z,w]) (vs:=[.ref a,v1,v2,v3]) R3 ?_ hf (by simp[cg]) (λk hk=>by simp[ii]at hk) hU (Mo.at (r:=bN [.O i,.F,.F,.F] m [g,y,z,w] f) P ((t.toEx.trans s.toEx).trans q));exact⟨g,_,_,_,rfl,rfl,⟨h,K⟩,y,_,_,_,rfl,rfl,Dn.mono (s.b.trans q.b) d1,z,_,_,_,rfl,rfl,Dn.mono q.b d2,w,_,_,_,rfl,rfl,X,rfl,rfl⟩
   ·rw[on z]at P;exact P.elim
theorem IG{c:Nat}{e:Str}{a:List Md}{j:List D->Out D}{i:Nat}{ta tb b:TE}{g f:P1->Res D}{d:P1->Out D}(n:PJ Y (KR Y .F) E0 M ta g)(m:PJ Y (KR Y .F) E0 M tb f)(k:MJ Y (KR Y .F) E0 M b d)
 (l:fitM M [.O i,.F,.F,.F] a):MJ Y (KR Y .F) E0 M (cT (Y c) e (gZ Y a (KR Y .F) j) [] E0 (cF i) (aM ta (aM tb (aM b bO)))) (Kx c e i j g f d):=IR n m k l λ_ _ _ _ _ _ _ h=>h
end
section
variable{Y:Cm}{E:XK}{Kr:KT D V}{pr:Nat->Bool}{M:List Md}{K:F0}{B U H:Hp}{As:Nat->List Addr}{Z:St}{T:P1}
def lv(c:Nat)(f:Str)(i j:Nat):P1->SO:=λT=>match rg T i with
 |none=>.bad
 | some d=>(match bv c f d with
   |.ok (.dT [] _)=>.nx T
   |.ok (.dT (k::_) _)=>if j<T.length then .rt (.tup (k.map kD)) (T.set j (some (.tup (k.map kD)))) else .bad
   |_=>.bad)
theorem Hr{i j c:Nat}{f:Str}(hc:Cls K (Y c))(hn:NoAttr K (Y c) f)(hm:M.getD i .F= .R)(hj:M.getD j .F= .F)(hp:pr j=false):
 SJ Y E (KR Y .F) pr M (vW (mV K (cF i) f) (d8 j) (GW (cF j))) (lv c f i j):=by
 intro B U As Z H T D R P;have l:=R.lo i;rw[hm]at l;unfold lv at P;cases e:rg T i with
 |none=>rw[e]at P;exact P.elim
 |some d0=>
   rw[e]at P l;dsimp only at P;obtain⟨W,A,p⟩:=l;have p:Dn Y U d0 W:=p.1;cases s:bv c f d0 with
   |bad=>rw[s]at P;exact P.elim
   |exc x=>exact(j7 s).elim
   |ok d=>
     rw[s]at P;obtain⟨ns,vs,rfl,lk⟩:=mP s;rw[Dn]at p;obtain⟨b,dx,fs,rfl,hb,G,w⟩:=p;subst G;obtain⟨x,hx,n⟩:=jW w lk;cases d with
     |dT u ds=>
       rw[Dn]at n;obtain⟨a,kvs,rfl,C,h,_⟩:=n;refine⟨.ref b,bP A,b,_,dx,fs,.ref a,rfl,R.uh _ _ hb,hc,hn,hx,a,kvs,rfl,jN R.uh C,λL=>?_,λk v r y L Q=>?_⟩
       · subst L;cases u with
         |cons _ _=>cases h
         |nil=>exact P Z B U As H R (Ex.refl _ _) (Kp.refl _ _)
       · subst L;cases u with
         |nil=>cases h
         |cons X u=>
           have J:k=X:=by injection h
           subst J;replace P:So Y E (KR Y .F) pr M B U Z (if j<T.length then .rt (.tup (k.map kD)) (T.set j (some (.tup (k.map kD)))) else .bad) D:=P;by_cases m:j<T.length
           case neg=>rw[on m]at P;exact P.elim
           rw[VL m]at P;have g:∀z∈[y],∃q,H z=some q/\d7 q:=λz hz=>by rw[VU.mp hz];exact⟨_,Q,_,rfl⟩
           have R2:Rel Y M (Mi.frz B H [y]) (Mi.frz U H [y]) As Z H T:=R.grow (bo R.bh) (bo R.uh) (Same.refl _) (j5 R.bu) (mO R.uh) λi a S=>by
            unfold Mi.frz;split
            ·rename_i z;obtain⟨o,e,t⟩:=g a z;exact(R.nt S e t).elim
            ·exact R.un i a S
           have V:Dn Y (Mi.frz B H [y]) (.tup (k.map kD)) (.ref y):=by
            rw[Dn];refine⟨y,_,rfl,?_,r8 k⟩;unfold Mi.frz;rw[if_pos (List.mem_singleton.mpr rfl)];exact Q
           have ex:Ex B U (Mi.frz B H [y]) (Mi.frz U H [y]):=⟨bo R.bh,bo R.uh,λa o q=>by
            unfold Mi.frz at q;split at q
            ·rename_i z;obtain⟨o',e,t⟩:=g a z;rw[e]at q;cases q;exact .inr (.inr t)
            ·exact .inl q⟩
           obtain⟨O,R3⟩:=R2.store (i:=j) (d:=.tup (k.map kD)) (v:=.ref y) (N:=[]) NewM.nil (by rw[hj];exact⟨_,rfl,V,rfl⟩);have I:j<Z.length:=by rw[<-R.len];exact m
           refine⟨.ref y,?_,P (.ref y) _ _ _ O H [] R3 ex (Kp.set hp) NewM.nil V⟩;rw[Xv I]
     |_=>exact P.elim
theorem Dk{s:Sh}{wi:TI}{S:List Nat}{ti:TT}{te:TE}{src:P1->Res (List D)}{mi:P1->Res Bool}{me:P1->Res D}(hs:PJ Y (KI Y .F .X) E M wi src)(hix:S.Nodup)(hti:PJ Y KB E0 (k7 .F M S) ti mi)(hte:PJ Y (KO Y s) E0 (k7 .F M S) te me):
 PJ Y (KO Y (.ct s)) E M (lH wi S ti te) (i6 src S mi me):=by
 intro B U As Z H T Q R P;refine hs.bnd R P λds J I U1 H1 L _ R1 e1 n1 ⟨vs,hJ,hd⟩ W p hp=>?_;have hd:Dns Y I ds vs:=hd;by_cases z:ds.length<af
 · rw[VL z]at W;have hvl:ds.length=vs.length:=hd.len;have hpA:∀i,p∉As i:=λi=>R1.fresh hp i
   refine⟨λi m t H2=>i<=ds.length/\m=ds.length-i/\H2 p=some (.lst t)/\t.length<=i/\∃B2 O l N,Rel Y M B2 O As Z H2 T/\Gw I U1 H1 B2 O H2/\O p=none/\p∉N/\New N H1 O As/\Ows Y B2 H2 l s t N/\
    Po Y (KO Y (.ct s)) E M I U1 As Z H1 T ((a7 mi me (dG T S) (ds.drop i)).bind λr=>.ok (.lst (l++r))) Q,⟨ds.length,WP _,rfl,az,V2 _,I,U1,[],[],R1.new hp,Gw.newO R1 hp,R1.uh.free hp,by simp,New.nil,by rw[Ows];exact⟨rfl,rfl⟩,W⟩,?_⟩
   rintro i m t H2 ⟨hi,rfl,hy,hle,B2,O,l,N,R2,g2,u2,pN,nN,dz,k⟩;have hpe2:=hJ H2 g2.h;refine⟨hy,Xx hle (fE (WY (Xx hi z))),?_⟩;by_cases hlt:i<ds.length
   · refine .inr ⟨hpe2.2.1 i (by omega),λv H3 hyl=>?_⟩;obtain⟨rfl,ev⟩:=hpe2.2.2 i v H3 (by omega) hyl;obtain⟨d,ed,dd⟩:=hd.geti ev;rw[lC ed,a7]at k;have RI:=R2.inner (m:= .F) hix (Tb R2.bu R2.uh (Dn.mono g2.b dd));refine hti B2 O _ _ H3 _ _ RI ?_
     -- what an inner step leaves
     have n:∀{G f A:Hp} {a:Addr} {o1:HO},Same f A->Gw B2 O H3 G f A->O a=none->H3 a=some o1->¬ d7 o1->f a=none:=λ{G f A a o1} uh g h1 h2 h3=>by
      cases q:f a with
      |none=>rfl
      |some o=>
        rcases g.fr a o q with z|z|z
        ·rw[h1]at z;cases z
        ·rw[h2]at z;cases z
        ·have:=uh a o q;rw[g.h _ _ h2]at this;cases this;exact(h3 z).elim
     have relU:∀{G f A:Hp},Same G f->Same f A->Gw B2 O H3 G f A->Rel Y M G f As Z A T:=λ{G f A} bu uh g=>R2.grow g.b g.u g.h bu uh λj a C=>by
      obtain⟨o',q',nt⟩:=(R2.lo j).at2 C;exact n uh g (R2.un j a C) q' nt
     have nU:∀{G f A:Hp},Same f A->Gw B2 O H3 G f A->New N H1 f As:=λ{G f A} uh g=>⟨nN.nd,nN.fr,λa C=>by
      obtain⟨o',q',nt⟩:=Ows.at2 dz C
      exact n uh g (nN.un a C) q' nt⟩
     have dzU:∀{G f A:Hp},Gw B2 O H3 G f A->Ows Y G A l s t N:=λ{G f A} g=>Ows.mono g.b (λa C=>by
      obtain⟨o',q',nt⟩:=Ows.at2 dz C
      rw[q',g.h _ _ q']) dz
     have pt:¬ d7 (.lst t):=λ⟨_,z⟩=>by cases z
     cases eb:mi (some d::dG T S) with
     |bad=>rw[eb]at k;exact k.elim
     |exc c=>rw[eb]at k;exact k.elim
     |ok c=>
       rw[eb]at k;intro b G f A N3 R3' g3 n3 hb;cases hb;cases c with
       |false=>
         rw[on V1];exact⟨ds.length-(i+1),by omega,hlt,rfl,g3.h _ _ hy,by omega,G,f,l,N,relU R3'.bu R3'.uh g3,g2.trans g3,n R3'.uh g3 u2 hy pt,pN,nU R3'.uh g3,dzU g3,k⟩
       |true=>
         rw[VL rfl];refine hte G f _ _ A _ _ R3' ?_;replace k:Po Y (KO Y (.ct s)) E M I U1 As Z H1 T (((me (some d::dG T S)).calm.bind λx=>(a7 mi me (dG T S) (ds.drop (i+1))).bind λxs=>.ok (x::xs)).bind λr=>.ok (.lst (l++r))) Q:=k;cases ee:me (some d::dG T S) with
         |bad=>rw[ee]at k;exact k.elim
         |exc c=>rw[ee]at k;exact k.elim
         |ok x=>
           rw[ee]at k;intro y B4 U4 H5 N4 R4' g4 n4 hx;have hx:Ow Y B4 H5 x s y N4:=hx;have K:=g3.trans g4;have y5:H5 p=some (.lst t):=K.h _ _ hy;have pN4:p∉N4:=λhm=>by have:=n4.fr p hm;rw[g3.h _ _ hy]at this;cases this
           have up4:=n R4'.uh K u2 hy pt;have nN4:=nU R4'.uh K;have R4:=relU R4'.bu R4'.uh K
           have g5:Gw I U1 H1 B4 U4 (upd H5 p (.lst (t++[y]))):=by
            have g:=g2.trans K;exact⟨g.toEx,λa o q=>by rw[ao (aR q hp)];exact g.h a o q,g.fr⟩
           refine⟨y5,ds.length-(i+1),by omega,hlt,rfl,az,by rw[VQ,XD];omega,B4,U4,l++[x],N++N4,R4.poke up4 hpA,g5,up4,?_,?_,?_,?_⟩
           · intro hm;rcases VW.mp hm with h|h
             ·exact pN h
             ·exact pN4 h
           · refine⟨Wq.mpr ⟨nN.nd,n4.nd,λa C c hc e=>?_⟩,λa C=>?_,λa C=>?_⟩
             · obtain⟨o',q',nt⟩:=Ows.at2 dz C
               have:=n4.fr c hc
               rw[<-e,g3.h _ _ q']at this;cases this
             · rcases VW.mp C with h|h
               ·exact nN.fr a h
               ·exact(g2.h.trans g3.h).free (n4.fr a h)
             · rcases VW.mp C with h|h
               ·exact nN4.un a h
               ·exact n4.un a h
           · have app:∀{l:List D} {t:List V} {N:List Addr},Ows Y B4 H5 l s t N->p∉N->Ows Y B4 (upd H5 p (.lst (t++[y]))) l s t N->True:=λ_ _ _=>trivial
             have key:∀{H6:Hp} {l:List D} {t:List V} {N:List Addr},Ows Y B4 H6 l s t N->Ow Y B4 H6 x s y N4->Ows Y B4 H6 (l++[x]) s (t++[y]) (N++N4):=by
              intro H6 l
              induction l with
              |nil=>
                intro t N h w;rw[Ows]at h;obtain⟨rfl,rfl⟩:=h;show Ows Y B4 H6 [x] s [y] N4;rw[Ows];exact⟨y,[],N4,[],rfl,by simp,w,by rw[Ows];exact⟨rfl,rfl⟩⟩
              |cons z l ih=>
                intro t N h w;rw[Ows]at h;obtain⟨u,r,A1,A2,rfl,rfl,h1,h2⟩:=h;show Ows Y B4 H6 (z::(l++[x])) s (u::(r++[y])) _;rw[Ows];exact⟨u,r++[y],A1,A2++N4,rfl,by rw[Wy],h1,ih h2 w⟩
             exact key (Ows.mono (Same.refl _) (λa C=>ao (λe:a=p=>pN (e▸C))) (dzU K)) (Ow.mono (Same.refl _) (λa C=>ao (λe:a=p=>pN4 (e▸C))) hx)
           · cases eg:a7 mi me (dG T S) (ds.drop (i+1)) with
             |ok r=>
               rw[eg]at k;show Po Y (KO Y (.ct s)) E M I U1 As Z H1 T (.ok (.lst (l++[x]++r))) Q;rw[Wy];exact k
             |exc c=>rw[eg]at k;exact k
             |bad=>rw[eg]at k;exact k
   · have e:i=ds.length:=by omega
     subst e;rw[YB,a7]at k;refine .inl ⟨hpe2.1 _ (by omega),?_⟩;have P3:Po Y (KO Y (.ct s)) E M I U1 As Z H1 T (.ok (.lst (l++[]))) Q:=k;rw[Wh]at P3;refine P3 (.ref p) B2 O H2 (p::N) R2 g2 ⟨Wc.mpr ⟨pN,nN.nd⟩,λa q=>?_,λa q=>?_⟩ ?_
     · rcases VY.mp q with e|e
       ·rw[e];exact hp
       ·exact nN.fr a e
     · rcases VY.mp q with e|e
       ·rw[e];exact u2
       ·exact nN.un a e
     ·show Ow Y B2 H2 (.lst l) (.ct s) (.ref p) (p::N);rw[Ow];exact⟨p,t,N,rfl,hy,rfl,dz⟩
 ·rw[on z]at W;exact W.elim
end
end Mi
namespace Cl
open PySem L2 Mi
abbrev DJ(X:Type):=List (Int×X)
section
variable{X:Type}
def lx(f:X->D)(F:DJ X):D:=.dK (F.map λp=>Sum.inl p.1) (F.map λp=>f p.2)
def DJ.get(F:DJ X)(k:Int):Option X:=(F.find? λp=>decide (p.1=k)).map (·.2)
def DJ.put(F:DJ X)(k:Int)(v:X):DJ X:=if (DJ.get F k).isSome=true then F.map λp=>if p.1=k then (p.1,v) else p else F++[(k,v)]
def DJ.del(F:DJ X)(k:Int):DJ X:=F.filter λp=>decide (p.1≠k)
theorem qk{f:X->D}{k:Int}:∀F:DJ X,aZ (F.map λp=>(Sum.inl p.1:ay)) (F.map λp=>f p.2) (Sum.inl k)=(DJ.get F k).map f
 |[]=>rfl
 | p::F=>by
   have a:=qk (f:=f) (k:=k) F;unfold DJ.get at *;rw[List.map_cons,List.map_cons,aZ,List.find?_cons];by_cases q:p.1=k
   ·simp[q]
   · have:¬ (Sum.inl p.1:ay)=Sum.inl k:=λz=>q (Ym z)
     rw[on this,a];simp[q]
theorem uo{k:Int}:∀F:DJ X,bV (F.map λp=>(Sum.inl p.1:ay)) (Sum.inl k)=(DJ.get F k).isSome
 |[]=>rfl
 | p::F=>by
   have a:=uo (k:=k) F;unfold bV DJ.get at *;rw[List.map_cons,List.any_cons,List.find?_cons,a];by_cases q:p.1=k
   ·simp[q]
   · have:¬ (Sum.inl p.1:ay)=Sum.inl k:=λz=>q (Ym z)
     simp[q,this]
theorem qd{f:X->D}{k:Int}{v:X}:∀F:DJ X,im (F.map λp=>(Sum.inl p.1:ay)) (F.map λp=>f p.2) (Sum.inl k) (f v)=(F.map λp=>if p.1=k then (p.1,v) else p).map λp=>f p.2
 |[]=>rfl
 | p::F=>by
   rw[VN,VN,im,qd F];by_cases q:p.1=k
   ·simp[q]
   · have:¬ (Sum.inl p.1:ay)=Sum.inl k:=λz=>q (Ym z)
     simp[q,this]
theorem Bf{f:X->D}{F:DJ X}{k:Int}{v:X}(h:F.length<af):qG (lx f F) (.int k) (f v)=some (lx f (DJ.put F k v)):=by
 show((bA (.int k)).bind λk=>if (F.map λp=>(Sum.inl p.1:ay)).length<af then some (if bV (F.map λp=>(Sum.inl p.1:ay)) k=true then D.dK _ (im _ _ k (f v)) else .dK _ _) else none)=_;show(if (F.map λp=>(Sum.inl p.1:ay)).length<af then some (if bV (F.map λp=>(Sum.inl p.1:ay)) (Sum.inl k)=true then D.dK _ (im _ _ (Sum.inl k) (f v)) else .dK _ _) else none)=_;rw[if_pos (by rw[List.length_map];exact h),uo];unfold DJ.put;by_cases q:(DJ.get F k).isSome=true
 ·rw[if_pos q,if_pos q,qd];unfold lx;congr 2;rw[List.map_map];refine List.map_congr_left λp _=>?_;show Sum.inl p.1=Sum.inl (if p.1=k then (p.1,v) else p).1;split<;>rfl
 ·rw[if_neg q,if_neg q];unfold lx;rw[List.map_append,List.map_append];rfl
theorem qE{f:X->D}{k:Int}:∀F:DJ X,hZ (F.map λp=>(Sum.inl p.1:ay)) (F.map λp=>f p.2) (Sum.inl k)=((DJ.del F k).map (λp=>Sum.inl p.1),(DJ.del F k).map λp=>f p.2)
 |[]=>rfl
 | p::F=>by
   have a:=qE (f:=f) (k:=k) F;unfold DJ.del at *;rw[List.map_cons,List.map_cons,hZ,List.filter_cons,a];by_cases q:p.1=k
   ·simp[q]
   · have:¬ (Sum.inl p.1:ay)=Sum.inl k:=λz=>q (Ym z)
     simp[q,this]
theorem bU{p:Int×X}{F:DJ X}{k:Int}:DJ.get (p::F) k=if p.1=k then some p.2 else DJ.get F k:=by
 unfold DJ.get;rw[List.find?_cons];by_cases q:p.1=k
 ·simp[q]
 ·simp[q]
theorem ut{F:DJ X}{k j:Int}{v:X}:DJ.get (DJ.put F k v) j=if j=k then some v else DJ.get F j:=by
 unfold DJ.put;by_cases q:(DJ.get F k).isSome=true
 · rw[VL q]
   have b:∀G:DJ X,DJ.get (G.map λp=>if p.1=k then (p.1,v) else p) j=if j=k then (DJ.get G k).map λ_=>v else DJ.get G j:=by
    intro G
    induction G with
    |nil=>unfold DJ.get;split<;>rfl
    |cons p G c=>
      rw[VN,bU,c,bU,bU];by_cases e1:p.1=k
      · simp only[e1,YG];by_cases a:k=j
        ·simp[a]
        · have:¬ j=k:=λz=>a z.symm
          simp[a,this]
      · simp only[e1,Yh];by_cases a:j=k
        ·subst a;simp[e1]
        ·simp[a]
   rw[b];by_cases a:j=k
   · rw[VL a,VL a];cases z:DJ.get F k with
     |none=>rw[z]at q;cases q
     |some x=>rfl
   ·rw[on a,on a]
 · rw[on q]
   have d:DJ.get F k=none:=by
    cases z:DJ.get F k with
    |none=>rfl
    |some x=>rw[z]at q;exact(q rfl).elim
   have b:∀G:DJ X,DJ.get (G++[(k,v)]) j=(DJ.get G j).or (if j=k then some v else none):=by
    intro G
    induction G with
    |nil=>
      rw[List.nil_append,bU];by_cases e:k=j
      ·simp[e,DJ.get]
      · have:¬ j=k:=λz=>e z.symm
        simp[e,this,DJ.get]
    |cons p G c=>
      rw[Xs,bU,bU,c];split<;>rfl
   rw[b];by_cases e:j=k
   ·subst e;rw[d];simp
   ·simp[e]
theorem j2{F:DJ X}{k j:Int}:DJ.get (DJ.del F k) j=if j=k then none else DJ.get F j:=by
 induction F with
 |nil=>unfold DJ.del DJ.get;split<;>rfl
 |cons p F a=>
   unfold DJ.del at *;rw[List.filter_cons];by_cases q:p.1=k
   · rw[on (by simp[q]),a,bU];by_cases e:j=k
     ·rw[VL e,VL e]
     ·rw[on e,on e,on (λz=>e (z.symm.trans q))]
   · rw[VL (by simp[q]),bU,a,bU];by_cases e:j=k
     ·subst e;rw[on q,VL rfl,VL rfl]
     ·rw[on e,on e]
def DJ.nd(F:DJ X):Prop:=(F.map (·.1)).Nodup
theorem DS{F:DJ X}{k:Int}{v:X}(h:DJ.get F k=some v):(k,v)∈F:=by
 unfold DJ.get at h;obtain⟨p,hp,rfl⟩:=Option.map_eq_some_iff.mp h;have a:=List.find?_some hp;have b:=List.mem_of_find?_eq_some hp;have a:p.1=k:=by simpa using a
 subst a;exact b
theorem uu{F:DJ X}(n:DJ.nd F){k:Int}{v:X}(h:(k,v)∈F):DJ.get F k=some v:=by
 induction F with
 |nil=>cases h
 |cons p F a=>
   unfold DJ.nd at n;rw[List.map_cons,List.nodup_cons]at n;rw[bU];rcases List.mem_cons.mp h with e|e
   ·subst e;rw[VL rfl]
   · by_cases q:p.1=k
     ·exact(n.1 (We.mpr ⟨_,e,q.symm⟩)).elim
     ·rw[on q];exact a n.2 e
theorem yu{F:DJ X}{k:Int}(n:DJ.nd F):DJ.nd (DJ.del F k):=by
 unfold DJ.nd DJ.del at *;exact n.sublist (List.Sublist.map _ List.filter_sublist)
theorem A4{F:DJ X}{k:Int}{v:X}:(DJ.put F k v).map (·.1)=if (DJ.get F k).isSome=true then F.map (·.1) else F.map (·.1)++[k]:=by
 unfold DJ.put;split
 ·rw[Ws];refine WM λp _=>?_;show(if p.1=k then (p.1,v) else p).1=p.1;split<;>rfl
 ·rw[Wm];rfl
theorem IC{F:DJ X}{k:Int}{v:X}(n:DJ.nd F):DJ.nd (DJ.put F k v):=by
 unfold DJ.nd at *;rw[A4];split
 ·exact n
 ·rename_i q;refine Wq.mpr ⟨n,by simp,λa d b c e=>?_⟩;rw[VU.mp c]at e;subst e;obtain⟨p,hp,rfl⟩:=We.mp d;exact q (by rw[uu n (show(p.1,p.2)∈F from hp)];rfl)
end
section
variable{Z σ' W X L K:Type}{rep:Z->P1}{Y:σ'->P1}
theorem O7{e:W->D}{get:P1->Option D}{g:Z->Option W}(b:∀s,get (rep s)=(g s).map e):EJ rep e (Qx get) (vC g):=λs=>by
 unfold Qx vC;rw[b];cases g s with
 |none=>trivial
 |some a=>exact rfl
@[simp] def JS(F:DJ X):Res (List X):=.ok (F.map (·.2))
theorem NQ{e:X->D}(F:DJ X):SimR (eL e) (BJ (lx e F)) (JS F):=by
 show Res.ok (D.lst (F.map λp=>e p.2))=Res.ok (D.lst ((F.map (·.2)).map e));rw[Ws];rfl
@[simp] def yF(F:DI X):Res Int:=.ok F.length
theorem NV{e:X->D}(F:DI X):SimR D.int (OQ (bp e F)) (yF F):=by
 show Res.ok (D.int ((F.map λp=>p.1.map (Sum.inl:Int->ay)).length))=Res.ok (D.int F.length);rw[VO]
@[simp] def Lm(F:DI (Option X))(k:List Int):Res (Option X):=.ok ((F.get k).bind id)
theorem Fo{e:X->D}{a mk:P1->Res D}{b:Z->Res (DI (Option X))}{ck:Z->Res (List Int)}(d:EJ rep (bp (eO e)) a b)(c:EJ rep (kg D.int) mk ck):EJ rep (eO e) (qB a mk) (aI Lm b ck):=λs=>(d s).bnd λF=>by
 show SimR (eO e) (if true=true then _ else _) _;rw[if_pos rfl];refine(c s).bnd λk=>?_;show fT (bp (eO e) F) (.tup (k.map D.int)) .non=.ok (eO e ((F.get k).bind id));unfold fT;rw[gc];cases F.get k<;>rfl
theorem Jh{e:X->D}{m:P1->Res D}{c:Z->Res (DI X)}(h:EJ rep (bp e) m c):EJ rep (List.map (kg D.int)) (Ai m) (aJ qq c):=λs=>by
 unfold Ai aJ;refine(h s).bnd λF=>?_;show Res.ok _=Res.ok _;rw[List.map_map,List.map_map];congr 1;refine List.map_congr_left λp _=>?_;show D.tup ((p.1.map (Sum.inl:Int->ay)).map kD)=D.tup (p.1.map D.int);rw[List.map_map];rfl
@[simp] def Lc(g:Z->Option (DJ W))(p:Z->DJ W->Z)(ck:Z->Res Int)(a:Z->OutC Z W):Z->FlC Z X:=λs=>Js (a s) λx s=>match g s with
 |none=>.bad
 | some F=>(match ck s with
   |.ok k=>if F.length<af then .nx (p s (DJ.put F k x)) else .bad
   |.exc y=>.exc y s
   |.bad=>.bad)
theorem GV{e:W->D}{eR:X->D}{get:P1->Option D}{set:P1->D->P1}{g:Z->Option (DJ W)}{p:Z->DJ W->Z}{mk:P1->Res D}{ck:Z->Res Int}{b:P1->Out D}{c:Z->OutC Z W}(i:∀s,get (rep s)=(g s).map (lx e))(f:∀s F,set (rep s) (lx e F)=rep (p s F))
 (a:EJ rep D.int mk ck) (d:NJ rep e b c):TJ rep eR (ge get set mk b) (Lc g p ck c):=λs=>SimS.bd (d s) λx s=>by
 have a:=a s;rw[i];cases g s with
 |none=>trivial
 |some F=>
   show SimS rep eR (l4 set (e x) (lx e F) (rep s) (mk (rep s))) _;dsimp only;refine SimR.el a (λk=>?_) (λ_=>rfl) λ_=>trivial;show SimS rep eR (l4 set (e x) (lx e F) (rep s) (.ok (.int k))) (if F.length<af then FlC.nx (p s (DJ.put F k x)) else .bad);by_cases h:F.length<af
   ·rw[if_pos h];unfold l4;dsimp only;rw[Bf h];show SO.nx _=SO.nx _;rw[f]
   ·rw[on h];trivial
@[simp] def qt(g:Z->Option (DJ W))(p:Z->DJ W->Z)(ck:Z->Res Int):Z->OutC Z (Option W):=λs=>match g s with
 |none=>.bad
 | some F=>bndO (ck s) s λk=>match DJ.get F k with
   |some x=>.ok (some x) (p s (DJ.del F k))
   |none=>.ok none s
theorem yt{e:W->D}{get:P1->Option D}{set:P1->D->P1}{g:Z->Option (DJ W)}{p:Z->DJ W->Z}{mk:P1->Res D}{ck:Z->Res Int}(c:∀s,get (rep s)=(g s).map (lx e))(b:∀s F,set (rep s) (lx e F)=rep (p s F))(a:EJ rep D.int mk ck):NJ rep (eO e) (nZ get set mk) (qt g p ck):=λs=>by
 have a:=a s;unfold nZ qt;rw[c];cases g s with
 |none=>trivial
 |some F=>
   show SimO rep (eO e) (((mk (rep s)).up (rep s)).bind λk T=>(match bA k with|some k=>l6 set T (F.map λp=>(Sum.inl p.1:ay)) (F.map λp=>e p.2) k|none=>.bad)) (bndO (ck s) s _);refine SimR.el a (λk=>?_) (λ_=>rfl) λ_=>trivial;show SimO rep (eO e) (l6 set (rep s) (F.map λp=>(Sum.inl p.1:ay)) (F.map λp=>e p.2) (Sum.inl k)) (match DJ.get F k with|some x=>OutC.ok (some x) (p s (DJ.del F k))|none=>.ok none s);unfold l6;rw[qk];cases d:DJ.get F k with
   |none=>exact rfl
   |some x=>
     show Out.ok (e x) (set (rep s) (.dK (hZ _ _ (Sum.inl k)).1 (hZ _ _ (Sum.inl k)).2))=Out.ok (e x) (rep (p s (DJ.del F k)));rw[qE,<-b];rfl
open Classical in
noncomputable def qV(g:Z->Option (DI W))(p:Z->DI W->Z)(c:Z->Res (DI W)):Z->OutC Z Unit:=λs=>match g s with
 |some []=>bndO (c s) s λF=>if ((F.map (·.1)).map cI).Nodup then .ok () (p s F) else .bad
 |_=>.bad
theorem wO(F:DI W):iF ((F.map λp=>p.1.map (Sum.inl:Int->ay)).map λk=>.tup (k.map kD))=some (F.map (·.1)):=by
 have:((F.map λp=>p.1.map (Sum.inl:Int->ay)).map λk=>D.tup (k.map kD))=(F.map (·.1)).map (kg D.int):=by
  rw[Ws,Ws];refine WM λp _=>?_;show D.tup ((p.1.map (Sum.inl:Int->ay)).map kD)=D.tup (p.1.map D.int);rw[Ws];rfl
 rw[this];exact qv _
theorem rD{e:W->D}{get:P1->Option D}{set:P1->D->P1}{g:Z->Option (DI W)}{p:Z->DI W->Z}{me:P1->Res D}{c:Z->Res (DI W)}(j:∀s,get (rep s)=(g s).map (bp e))(h:∀s F,set (rep s) (bp e F)=rep (p s F))(f:∀a,aT (e a)=true)(l:EJ rep (bp e) me c):NJ rep eN (qU get set me) (qV g p c):=λs=>by
 have i:=l s;unfold qU qV;rw[j];cases g s with
 |none=>trivial
 |some m=>
   cases m with
   |cons _ _=>trivial
   |nil=>
     show SimO rep eN (((me (rep s)).up (rep s)).bind λd T=>GR set T d) (bndO (c s) s _);refine SimR.el i (λF=>?_) (λ_=>rfl) λ_=>trivial;show SimO rep eN (match iF ((F.map λp=>p.1.map (Sum.inl:Int->ay)).map λk=>.tup (k.map kD)) with|some b=>(if (b.map cI).Nodup/\(F.map λp=>e p.2).all aT=true then Out.ok .non (set (rep s) (bp e F)) else .bad)|none=>.bad) (if ((F.map (·.1)).map cI).Nodup then OutC.ok () (p s F) else .bad);rw[wO];dsimp only;by_cases z:((F.map (·.1)).map cI).Nodup
     ·rw[VL z,VL ⟨z,by rw[YL,WW];exact λa _=>f _⟩,h];rfl
     ·rw[on z];trivial
@[simp] def Vo{d c b a:Type}(f:d->c->b->a->OutC σ' L)(w:σ'->Z->Z)(e:Z->Option d)(o:Z->Res c)(n:Z->Res b)(m:Z->OutC Z a):Z->OutC Z L:=λs=>match e s with
 |none=>.bad
 | some _=>bndO (o s) s λk=>bndO (n s) s λj=>Bw (m s) λi g=>match e g with
   |none=>.bad
   |some l=>(match f l k j i with | .ok r h=>.ok r (w h g) | .exc x h=>.exc x (w h g) | .bad=>.bad)
theorem Sr{p n m l:Type}{e0:p->D}{e1:n->D}{v:m->D}{C:l->D}{M u:P1->Res D}{A:P1->Out D}{e:Z->Option p}{P:Z->Res n}{E:Z->Res m}{G:Z->OutC Z l}{eR:L->D}{c:Nat}{K:Str}{i:Nat}{t:List D->Out D}{f:p->n->m->l->OutC σ' L}{w:σ'->Z->Z}
 (R:∀a,a8 c K (e0 a)=true) (N:∀y s,bZ [.O i,.F,.F,.F] 0 (Y y) (rep s)=rep (w y s)) (j:∀s,rg (rep s) i=(e s).map e0) (S:∀H d g q,SimO Y eR (t [e0 H,e1 d,v g,C q]) (f H d g q)) (W:EJ rep e1 M P) (V:EJ rep v u E) (U:NJ rep C A G):
 NJ rep eR (Kx c K i t M u A) (Vo f w e P E G):=λs=>by
 have g1:=W s;have B:=V s;have X:=U s;unfold Kx Vo;rw[j];cases e s with
 |none=>trivial
 |some o=>
   dsimp only[Option.map];rw[if_pos (R o)];refine SimR.el g1 (λd=>?_) (λ_=>rfl) λ_=>trivial;show SimO rep eR (((u (rep s)).up (rep s)).bind λz T=>(A T).bind λw b=>(match rg b i with|some h=>bN [.O i,.F,.F,.F] t [h,e1 d,z,w] b|none=>.bad)) (bndO (E s) s _);cases J:E s with
   |bad=>trivial
   |exc x=>rw[J]at B;rw[show u (rep s)=_ from B];rfl
   |ok g=>
     rw[J]at B;rw[show u (rep s)=_ from B];show SimO rep eR ((A (rep s)).bind λw b=>(match rg b i with|some h=>bN [.O i,.F,.F,.F] t [h,e1 d,v g,w] b|none=>.bad)) (Bw (G s) _);refine SimO.bd X λq Q=>?_;rw[j];cases e Q with
     |none=>trivial
     |some h=>
       dsimp only[Option.map];have k:=S h d g q;unfold bN;cases I:f h d g q with
       |bad=>trivial
       |ok r y=>rw[I]at k;rw[show t [e0 h,e1 d,v g,C q]=_ from k];show Out.ok _ _=Out.ok _ _;rw[N]
       |exc x y=>rw[I]at k;rw[show t [e0 h,e1 d,v g,C q]=_ from k];show Out.exc _ _=Out.exc _ _;rw[N]
@[simp] def wU(g:Z->DI W)(p:List Int->Z->Z):Z->FlC Z (List Int):=λs=>match g s with
 |[]=>.nx s
 |q::_=>.rt q.1 (p q.1 s)
theorem BM{e:W->D}{c i j:Nat}{f:Str}{g:Z->DI W}{p:List Int->Z->Z}(b:∀s,∃d,rg (rep s) i=some d/\bv c f d=.ok (bp e (g s)))(a:∀s,j<(rep s).length)(hp:∀s k,(rep s).set j (some (kg D.int k))=rep (p k s)):
 TJ rep (kg D.int) (lv c f i j) (wU g p):=λs=>by
 obtain⟨d,l,h⟩:=b s;unfold lv wU;rw[l];dsimp only;rw[h];cases q:g s with
 |nil=>exact rfl
 |cons x r=>
   show SimS rep (kg D.int) (if j<(rep s).length then .rt (.tup ((x.1.map (Sum.inl:Int->ay)).map kD)) ((rep s).set j (some (.tup ((x.1.map (Sum.inl:Int->ay)).map kD)))) else .bad) (.rt x.1 (p x.1 s))
   have m:D.tup ((x.1.map (Sum.inl:Int->ay)).map kD)=kg D.int x.1:=by
    show D.tup ((x.1.map (Sum.inl:Int->ay)).map kD)=D.tup (x.1.map D.int);rw[Ws];rfl
   rw[VL (a s),m,hp];exact rfl
end
end Cl
namespace L2
open PySem PySem.Spec PyProof.Rows
section
variable{X:Cx}{G:L9}{Z:St}{H:Hp}{s:Shared}{a b:Addr}{kvs:List (List ay×V)}{k:List ay}{v:V}{A:Around}{E:LV}
theorem Jl{dflt:Value}{Q:LV}(l:A.units+1<cLine)(I:Inv X G Z H s)(e:H a=some (.dT kvs))(V:H b=some (.tup (k.map kV)))
 (h:∀v M r,cA kvs k=some v->Inv X G Z (upd H a (.dT (dU kvs k))) r->RelV v M->Q M r) (h0:cA kvs k=none->∀r,Inv X G Z H r->Q dflt r):wpAny (model X.prog X.w) A (call (.builtin "dict.pop") [.ref a,.ref b,dflt]) Q E s:=by
 obtain⟨z,hd,xs,f,dd⟩:=Fs I.hok e;have hz:xs.length<=sizeLine:=by rw[<-WX f];exact z
 have i:=eV I.hok V;have g:=tupleKind_room_in1 (knd:=aq X.prog X.w) l;have N:=dd.typeIs;obtain⟨o,n,ep,m,U,d,x,K,t⟩:=dd;have T:n.size=xs.length:=size_of_entries x;refine wpAny_call_entry PySem.F.slot_dict_pop N PySem.F.entry_dict_pop ?_ (PySem.F.args_dict_pop_3 _ _ _);unfold Builtin.«dict.pop»;refine wpAny_bind ?_;unfold Builtin.Dict.keyAndDefault;refine wpAny_bind (wpAny_notOrdered_dict N ?_);show wpAny _ _ (pure (a,Value.ref b,some dflt)) _ _ s;refine wpAny_pure ?_;dsimp only;rw[if_neg (by simp[keyPart])];refine wpAny_bind (wpAny_dictEntries m d ?_);refine wpAny_bind (wpAny_pure ?_);cases D:n.isEmpty with
 |true=>
   have R:xs=[]:=by
    have e1:n.size=0:=by simpa using D
    exact Wx.mp (by omega)
   rw[VL rfl];refine VM (VM (wpAny_rule (VX ?_)));show wpAny _ _ (Builtin.Dict.missedRemoval a (.ref b) >>= _) _ _ _;refine VM (wpAny_missedRemoval_other hd ?_);refine VM (wpAny_rule (VX ⟨_,rfl,?_⟩));refine h0 ?_ _ I
   have:=f.val k
   rw[R]at this;cases q:cA kvs k with
   |none=>rfl
   |some v=>rw[q]at this;obtain⟨u,l,_⟩:=RelO.some_of this;cases l
 |false=>
   rw[if_neg Bool.false_ne_true];refine wpAny_bind ?_;unfold Builtin.Dict.takeOut
   try with_reducible refine Xa ?_
   refine VM ((tupleKind (aq X.prog X.w)).pyHash g i ?_);refine VM (wpAny_dictFind_heap (knd:=tupleKind (aq X.prog X.w)) (s:={s with toks:=s.toks+(tupleKind (aq X.prog X.w)).draws k}) g i m d x K t ?_ ?_)
   · intro C
     have B:cA kvs k=none:=by
      have:=f.val k
      rw[atKey_none_of_get C]at this;cases q:cA kvs k with
      |none=>rfl
      |some v=>rw[q]at this;obtain⟨u,l,_⟩:=RelO.some_of this;cases l
     refine VX ?_;simp only[Option.isNone_none,YG];refine VM (wpAny_missedRemoval_other hd ?_);exact VM (wpAny_rule (VX ⟨_,rfl,h0 B _ (I.tok _)⟩))
   · intro j p J;have hp:atKey xs k=some p:=atKey_of_get t J
     obtain⟨v,B,y⟩:∃v,cA kvs k=some v/\RelV v p.2:=by
      have:=f.val k
      rw[hp]at this;cases q:cA kvs k with
      |none=>rw[q]at this;have:=RelO.none_of this;cases this
      |some v=>rw[q]at this;obtain⟨u,l,P⟩:=RelO.some_of this;cases l;exact⟨v,rfl,P⟩
     refine VM (Xl (s:={s with toks:=s.toks+(tupleKind (aq X.prog X.w)).draws k}) m d ?_);rw[entry_at x j,J];refine VM (wpAny_updateDictKeys (hz:=by omega) (s:={s with toks:=s.toks+(tupleKind (aq X.prog X.w)).draws k}) m d (VX ?_));rw[on (by simp)];refine VM (XS (VX ⟨_,rfl,?_⟩));show Q p.2 _;refine h v p.2 _ B ?_ y;have S:=XN s.heap a (Obj.mapDictKeys λn=>n.eraseIdxIfInBounds j);refine kl (s:=s) (t':=s.toks+(tupleKind (aq X.prog X.w)).draws k) I (by rw[e];exact True.intro) S ⟨_,Wr _ m (W7 (WA d _))⟩ ⟨Wl (nY kvs k) z,hd,_,(f.drop k).keeps λc W O=>?_,_,_,ep+1,Wr _ m (W7 (WA d _)),U.mapDictKeys _,WA d _,?_,?_⟩
     ·rw[ao (DH O e (λz=>nomatch z))];exact O
     ·rw[<-gC t J];obtain⟨el⟩:=n;have L:el=xs.map (entryOfKey (tupleKind (aq X.prog X.w))):=x;rw[WU];show el.eraseIdx j=_;rw[L];exact la
     ·exact(t.sublist ((List.filter_sublist).map _))
end
def qY(e ty d:TE):TE:=λZ H Q=>e Z H λx H1=>∃a,x=.ref a/\LD H1 a/\ty Z H1 λy f=>d Z f λz c=>∃kvs k b,c a=some (.dT kvs)/\y=.ref b/\c b=some (.tup (k.map kV))/\(∀v,cA kvs k=some v->Q v (upd c a (.dT (dU kvs k))))/\(cA kvs k=none->Q z c)
theorem AB{X:Cx}{o e f:Expr}{g c:Pos}{p ty n:TE}(O:X.A.units+1<cLine)(P:PE X o p)(S:PE X e ty)(R:PE X f n)(m:M2 X o "pop" g e f c):PE X (.Call (.Attribute o "pop" g) [e,f] [] c) (qY p ty n):=by
 intro G s Z H Q I h;refine XE m.base m.few m.line WG Xf XX (bb (P G s Z H _ I h) λu C ⟨x,H1,q,F,a,ex,d,M⟩=>?_);subst ex;obtain rfl:u=Value.ref a:=F;obtain⟨t,r,_⟩:=lq q d;refine⟨t,r,?_⟩;rw[m.trees]
 refine WK rfl (WZ (WC (bb (S G C Z H1 _ q M) λN B ⟨y,H2,Y,E,L⟩=>
  WC (bb (R G B Z H2 _ Y L) λfv s3 ⟨z,H3,W,D,kvs,k,b,V,T,U,K,J⟩=>W5 ?_))))
 subst T;obtain rfl:N=Value.ref b:=E;exact Jl O W V U (λv w' w l j i=>⟨v,_,j,i,K v l⟩) λl w j=>⟨z,H3,j,D,J l⟩
end L2
namespace Mi
open PySem L2
section
variable{Y:Cm}{E:XK}{M:List Md}{B U H:Hp}{As:Nat->List Addr}{Z:St}{T:P1}{t:TE}{get:P1->Option D}{set:P1->D->P1}
def gF(set:P1->D->P1)(a:List (List ay))(vs:List D)(k:List ay)(T:P1):Out D:=match aZ a vs k with
 |some y=>.ok y (set T (.dT (di a vs k).1 (di a vs k).2))
 |none=>.ok .non T
def iJ(get:P1->Option D)(set:P1->D->P1)(mk:P1->Res D):P1->Out D:=λT=>match get T with
 |some (.dT b vs)=>((mk T).up T).bind λk T=>(match k with | .tup a=>(match bC a with|some k=>gF set b vs k T|none=>.bad)|_=>.bad)
 |_=>.bad
theorem Ej{C:TE}{mk:P1->Res D}(p:Pth Y M t get set)(hk:PJ Y (KR Y .X) E M C mk):MJ Y (KR Y .F) E M (qY t C (tC .non)) (iJ get set mk):=by
 intro B U As Z H T Q R P;unfold iJ at P;cases e:get T with
 |none=>rw[e]at P;exact P.elim
 |some d=>
   obtain⟨v,A,W,O,hA,cl⟩:=p.rd R e;cases d with
   |dT r vs=>
     rw[e]at P;replace P:Mo Y (KR Y .F) E M B U Z (((mk T).up T).bind λk T=>(match k with | .tup n=>(match bC n with|some k=>gF set r vs k T|none=>.bad)|_=>.bad)) Q:=P;obtain⟨a,kvs,rfl,K,h2,rfl,h3⟩:=O.dT rfl;refine W _ ⟨a,rfl,.inr ⟨kvs,.inl K⟩,hk B U As Z H T _ R ?_⟩;cases x:mk T with
     |exc c=>rw[x]at P;exact λI U1 H1 q f=>P I U1 As H1 q f.toEx
     |bad=>rw[x]at P;exact P.elim
     |ok J=>
       rw[x]at P;intro u I U1 H1 N q f n1 o;have o:Dn Y H1 J u:=o;cases J with
       |tup n=>
         replace P:Mo Y (KR Y .F) E M B U Z (match bC n with|some k=>gF set r vs k T|none=>.bad) Q:=P;cases z:bC n with
         |none=>rw[z]at P;exact P.elim
         |some g=>
           rw[z]at P;replace P:Mo Y (KR Y .F) E M B U Z (gF set r vs g T) Q:=P;rw[Dn]at o;obtain⟨b,xs,rfl,h4,h5⟩:=o;have ex:=eU z h5;subst ex;subst h2;have l:Dns Y I vs (kvs.map (·.2)):=h3.mono f.b;have j:=f9 (Y:=Y) (G:=I) g l;unfold gF at P;refine⟨kvs,g,b,f.h _ _ K,rfl,h4,λv i=>?_,λi=>?_⟩
           · cases m:aZ (kvs.map (·.1)) vs g with
             |none=>rw[m]at j;rw[show cA kvs g=none from j]at i;cases i
             |some y=>
               rw[m]at j P;obtain⟨w,s,L⟩:=j;rw[s]at i;cases i;obtain⟨V,S⟩:=nX (Y:=Y) (G:=I) (k:=g) l;refine P _ I U1 As _ [] (cl I U1 H1 q f.b f.h a VP _ _ ?_) f.toEx NewM.nil L;rw[<-V];exact Ow.dT' az S
           · cases m:aZ (kvs.map (·.1)) vs g with
             |some y=>rw[m]at j;obtain⟨w,s,L⟩:=j;rw[s]at i;cases i
             |none=>
               rw[m]at P;exact P .non I U1 As H1 [] q f.toEx NewM.nil (by show Dn Y I .non .non;rw[Dn])
       |_=>exact P.elim
   |_=>rw[e]at P;exact P.elim
end
end Mi
namespace Cl
open PySem L2 Mi
section
variable{Z W X L:Type}{rep:Z->P1}
@[simp] def ji(g:Z->Option (DI (Option W)))(p:Z->DI (Option W)->Z)(ck:Z->Res (List Int)):Z->OutC Z (Option W):=λs=>match g s with
 |none=>.bad
 | some F=>bndO (ck s) s λk=>match DI.get F k with
   |some x=>.ok x (p s (F.del k))
   |none=>.ok none s
theorem nC:∀k:List Int,bC (k.map D.int)=some (k.map Sum.inl)
 |[]=>rfl
 | x::k=>by
   have:=nC k
   rw[VN,VN,bC,this];rfl
theorem ni{e:W->D}{get:P1->Option D}{set:P1->D->P1}{g:Z->Option (DI (Option W))}{p:Z->DI (Option W)->Z}{mk:P1->Res D}{ck:Z->Res (List Int)}(d:∀s,get (rep s)=(g s).map (bp (eO e)))(c:∀s F,set (rep s) (bp (eO e) F)=rep (p s F))(a:EJ rep (kg D.int) mk ck):NJ rep (eO e) (iJ get set mk) (ji g p ck):=λs=>by
 have a:=a s;unfold iJ ji;rw[d];cases g s with
 |none=>trivial
 |some F=>
   show SimO rep (eO e) (((mk (rep s)).up (rep s)).bind λk T=>(match k with | .tup b=>(match bC b with|some k=>gF set (F.map λp=>p.1.map (Sum.inl:Int->ay)) (F.map λp=>eO e p.2) k T|none=>.bad)|_=>.bad)) (bndO (ck s) s _);refine SimR.el a (λk=>?_) (λ_=>rfl) λ_=>trivial;show SimO rep (eO e) (match bC (k.map D.int) with|some k=>gF set (F.map λp=>p.1.map (Sum.inl:Int->ay)) (F.map λp=>eO e p.2) k (rep s)|none=>.bad) (match DI.get F k with|some x=>OutC.ok x (p s (F.del k))|none=>.ok none s);rw[nC];show SimO rep (eO e) (gF set (F.map λp=>p.1.map (Sum.inl:Int->ay)) (F.map λp=>eO e p.2) (k.map Sum.inl) (rep s)) _;unfold gF;rw[jX];cases f:DI.get F k with
   |none=>exact rfl
   |some x=>
     show Out.ok (eO e x) (set (rep s) (.dT (di _ _ (k.map Sum.inl)).1 (di _ _ (k.map Sum.inl)).2))=Out.ok (eO e x) (rep (p s (F.del k)));rw[nV,<-c];rfl
end
section
variable{Z W X L:Type}{rep:Z->P1}{e:W->D}{e':X->D}{e'':L->D}
instance decH3 {W X L:Type} [DecidableEq W] [DecidableEq X] [DecidableEq L]:DecidableEq (W×X×L):=inferInstance
def eH3(e:W->D)(e':X->D)(e'':L->D):W×X×L->D:=λp=>.lst [e p.1,e' p.2.1,e'' p.2.2]
end
end Cl
open PySem L2 in
theorem L2.Room.mm{j k:Nat}{A:Around}(r:Room k A)(h:j<=k:=by decide):Room j A:=r.mono h
namespace Mi
open PySem L2
section
variable{Y:Cm}{E:XK}{M:List Md}{ta tb:TE}{ma mb:P1->Res D}
abbrev Va(K:F0):List V->Hp->VK->Prop:=λxs H Q=>∃p a,xs=[V.ref p]/\(SqL K H p a\/SqT K H p a)/\Q (.int a.length) H
abbrev Vc(K:F0):List V->Hp->VK->Prop:=λxs H Q=>∃p,∃bs:List Bool,xs=[.ref p]/\SqL K H p (bs.map V.bl)/\Q (.bl (bs.any id)) H
abbrev Vb(K:F0):List V->Hp->VK->Prop:=λxs H Q=>∃x c t b,xs=[x,.ty c]/\TyOf K H x t/\PySem.W.kitOne K t (.type c)=some b/\Q (.bl b) H
abbrev Ri:List V->Hp->VK->Prop:=λxs H Q=>∃i j,xs=[.int i,.int j]/\Q (.int (if j<i then j else i)) H
abbrev Rj:List V->Hp->VK->Prop:=λxs H Q=>∃i j,xs=[.int i,.int j]/\Q (.int (if j>i then j else i)) H
theorem RD(a:PJ Y (KR Y .X) E M ta ma):PJ Y (KR Y .F) E M (tF (Va Y.K) (aM ta bO)) (un iD ma):=Do Q2 a
theorem RN(a:PJ Y (KR Y .X) E M ta ma):PJ Y (KR Y .F) E M (tF (Vc Y.K) (aM ta bO)) (un pV ma):=Do Q7 a
theorem RG(b:PJ Y (KR Y .X) E M ta ma)(a:PJ Y (KR Y .X) E M tb mb):PJ Y (KR Y .F) E M (tF (Vb Y.K) (aM ta (aM tb bO))) (bn E7 ma mb):=Dm Q3 b a
theorem Na(b:PJ Y (KR Y .X) E M ta ma)(a:PJ Y (KR Y .X) E M tb mb):PJ Y (KR Y .F) E M (tF Ri (aM ta (aM tb bO))) (bn pM ma mb):=Dm QZ b a
theorem RP(a:PJ Y (KR Y .X) E M ta ma):PJ Y (KR Y .F) E M (tF (λxs H Q=>∃i,xs=[.int i]/\Q (.int (if i<0 then -i else i)) H) (aM ta bO)) (un Jz ma):=Do Q9 a
theorem Nc(b:PJ Y (KR Y .X) E M ta ma)(a:PJ Y (KR Y .X) E M tb mb):PJ Y (KR Y .F) E M (tF Rj (aM ta (aM tb bO))) (bn pO ma mb):=Dm Q0 b a
end
theorem HJ{X:Cx}{i:Nat}{x:Str}{e:Expr}{te:TE}{pos a:Pos}(f:X.N.Nodup)(hi:X.N[i]?=some x)(b:QH X.env.scope x)(d:PE X e te)(c:X.fn x=true\/X.env.scope.names.lookup x=some .local:=by first | exact .inl rfl | exact .inr rfl | assumption):
 PS X (.AugAssign (.Name x a) .Add e pos) (tG (BF (wv λi j=>.int (i+j)) (cF i) te) (d8 i)):=λG s Z H D I h=>MC f hi b d E9 c G s Z H D I h
section
variable{P:Program}{w:World}{K:F0}{mg:Str->Option Value}{base:Heap}{f C:Addr}{fd:FuncData}{ps:List Str}{sp:Sp}{k:Nat}{x y m qual:Str}{st:Stmt}
structure CalN (P:Program) (w:World) (K:F0) (mg:Str->Option Value) (base:Heap) (x:Str) (k:Nat) (sp:Sp):Prop where
 ex:∃f fd ps,FnOk P w K mg base tj k f fd ps sp/\mg x=some (.ref f)/\PySem.W.keepIn K (.ref f)=true/\Binds K fd ps []
structure CalM (P:Program) (w:World) (K:F0) (mg:Str->Option Value) (base:Heap) (C:Addr) (m:Str) (k:Nat) (sp:Sp):Prop where
 ex:∃f fd ps,FnOk P w K mg base tj k f fd ps sp/\Meth K C m f/\Binds K fd ps []
structure CalC (P:Program) (w:World) (K:F0) (mg:Str->Option Value) (base:Heap) (C:Addr) (x:Str) (k:Nat) (sp:Sp):Prop where
 ex:∃f fd ps,FnOk P w K mg base tj k f fd ps sp/\Mk K C f/\mg x=some (.ref C)/\Binds K fd ps []
variable{X:Cx}{e o:Expr}{es:List Expr}{t:TA}{ta:TE}{p pos apos:Pos}
theorem De(c:CalN X.prog X.w X.K X.mg X.base x k sp)(f:Room k X.A)(j:Gl X x)(m:PA X (e::es) t)(d:(x==("__debug__" : Str))=false:=by decide)(l:starEach (e::es) X.env=(false,eval e X.env)::starEach es X.env:=by rfl)(a:(backTo pos (starEach es X.env)).any (·.1)=false:=by rfl):
 PE X (.Call (.Name x p) (e::es) [] pos) (ik sp [] E0 t):=
 let ⟨_,_,_,h,g,i,b⟩:=c.ex;Ia h f j g i b .nil yq m d l a
theorem C5{pl:Sem Bool}(n:PE X o ta)(l:Cls X.K C)(c:CalM X.prog X.w X.K X.mg X.base C m k sp)(i:Room k X.A)(p:PA X (e::es) t)
 (a:starEach (e::es) X.env=(false,eval e X.env)::starEach es X.env:=by rfl) (d:(backTo pos (starEach es X.env)).any (·.1)=false:=by rfl)
 (g:eval (.Call (.Attribute o m apos) (e::es) [] pos) X.env=(do
   let ov <-eval o X.env
   standAt apos.atName
   let (f,first) <-holding [ov] (getMethod ov m pl)
   callWith pos f first (backTo pos (starEach (e::es) X.env)) (backToKw pos (keywordEach [] X.env))):=by rfl):
 PE X (.Call (.Attribute o m apos) (e::es) [] pos) (cT C m sp [] E0 ta t):=
 let ⟨_,_,_,h,j,b⟩:=c.ex;HW n l j h i b .nil yq p a d g
theorem AA{pl:Sem Bool}(g:PE X o ta)(l:Cls X.K C)(c:CalM X.prog X.w X.K X.mg X.base C m k sp)(d:Room k X.A)
 (a:eval (.Call (.Attribute o m apos) [] [] pos) X.env=(do
   let ov <-eval o X.env
   standAt apos.atName
   let (f,first) <-holding [ov] (getMethod ov m pl)
   callWith pos f first (backTo pos (starEach [] X.env)) (backToKw pos (keywordEach [] X.env))):=by rfl):
 PE X (.Call (.Attribute o m apos) [] [] pos) (cT C m sp [] E0 ta bO):=
 let ⟨_,_,_,h,e,b⟩:=c.ex;C6 g l e h d b .nil yq a
theorem C7(c:CalC X.prog X.w X.K X.mg X.base C x k sp)(f:Room (k+1) X.A)(i:Gl X x)
 (l:PA X (e::es) t) (d:(x==("__debug__" : Str))=false:=by decide) (j:starEach (e::es) X.env=(false,eval e X.env)::starEach es X.env:=by rfl) (a:(backTo pos (starEach es X.env)).any (·.1)=false:=by rfl):
 PE X (.Call (.Name x p) (e::es) [] pos) (p6 C sp [] E0 t):=
 let ⟨_,_,_,h,M,g,b⟩:=c.ex;HX M h f i g b .nil yq l d j a
end
section
variable{K:F0}{mg:Str->Option Value}{ns:List Str}{M:List (Addr×Str)}{fs cs:List Addr}{ds:List (Addr×Str)}{es:List Addr}{ks:List (Addr×Value)}{xp:HD.Ob}{P:Program}{w:World}{base:Heap}{f C:Addr}{fd:FuncData}{ps:List Str}{sp:Sp}{k:Nat}{x y m q:Str}{st:Stmt}{v:Value}
structure Tx (ns:List Str) (M:List (Addr×Str)) (fs cs:List Addr) (ds:List (Addr×Str)) (es:List Addr) (ks:List (Addr×Value)) (xp:HD.Ob) (K:F0) (mg:Str->Option Value):Prop where
 ex:∃h:Heap,K.In h/\h.Ns mainGlobals mg
 y:HD.obK ns M fs cs ds es ks K=xp
theorem Iz{W X:Type}{l:List W}{g:W->X}{r:List X}(h:l.map g=r){i:Nat}{a:W}{b:X}(d:l[i]?=some a)(c:r[i]?=some b):g a=b:=HD.nth h i (by rw[V9,d];rfl) c
theorem Vx{x q:Str}{st:Stmt}{f:Addr}(h:HD.fnO K f q=HD.fnE x q st):∃d,Fun K x q st f d:=by
 have b:=HD.fn_keep h;obtain⟨oc,k,kV,i,pm,an,j,ct,a,l,c⟩:=HD.fn_of h;have e1:HD.dA st=iY st:=by cases st<;>rfl
 have g:HD.dB st=cM st:=by cases st<;>rfl
 have e:HD.dS st=a6 st:=by cases st<;>rfl
 rw[e1,g,e]at l;exact⟨_,O3 l c b⟩
variable(T:Tx ns M fs cs ds es ks xp K mg)
include T
theorem Tx.tm(i:Nat)(b:ns[i]?=some x)(a:xp.1[i]?=some (some (some v))):mg x=some v:=let ⟨_,X,G⟩:=T.ex;PySem.W.mg_of X G (Iz (congrArg (·.1) T.y) b a)
theorem Tx.tz(i:Nat)(b:ns[i]?=some x)(a:xp.1[i]?=some (some none)):mg x=none:=let ⟨_,X,G⟩:=T.ex;PySem.W.mg_none_of X G (Iz (congrArg (·.1) T.y) b a)
theorem Tx.ta(i:Nat){o:Option (Option Value)}(b:M[i]?=some (C,m))(a:xp.2.1[i]?=some o):PySem.W.findIn K (.ref C) m=o:=Iz (g:=λp=>PySem.W.findIn K (.ref p.1) p.2) (congrArg (·.2.1) T.y) b a
theorem Tx.tn(i:Nat)(a:fs[i]?=some f)(b:xp.2.2.1[i]?=some true):PySem.W.isFn K (.ref f)=true:=HD.nth (congrArg (·.2.2.1) T.y) i (by show((fs.map λf=>PySem.W.isFn K (.ref f))++cs.map (HD.cls K))[i]?=_;rw[WB (by have:=(V6.mp a).1;simpa using this),V9,a];rfl) b
theorem Tx.tc(i:Nat)(b:cs[i]?=some C)(a:xp.2.2.1[fs.length+i]?=some true):HD.cls K C=true:=HD.nth (congrArg (·.2.2.1) T.y) (fs.length+i) (by show((fs.map λf=>PySem.W.isFn K (.ref f))++cs.map (HD.cls K))[fs.length+i]?=_;rw[Ww (by simp),V9];simp[b]) a
theorem Tx.tcl(i j:Nat)(g:cs[i]?=some C)(f:xp.2.2.1[fs.length+i]?=some true)(e:M[j]?=some (C,("__setattr__" : Str)))(d:xp.2.1[j]?=some (some (some (.builtin "object.__setattr__")))):Cls K C:=
 let ⟨a,b,c,_,_⟩:=HD.cls_of (T.tc i g f);⟨a,b,c,T.ta j e d⟩
theorem Tx.tf(i:Nat)(b:ds[i]?=some (f,q))(a:xp.2.2.2.1[i]?=some (HD.fnE x q st)):∃d,Fun K x q st f d:=Vx (Iz (g:=λp=>HD.fnO K p.1 p.2) (congrArg (·.2.2.2.1) T.y) b a)
theorem Tx.calN(i j:Nat)(e:(ds[i]?,xp.2.2.2.1[i]?,ns[j]?,xp.1[j]?)=(some (f,q),some (HD.fnE x q st),some y,some (some (some (.ref f)))))(h:∀d,Fun K x q st f d->FnOk P w K mg base tj k f d ps sp/\Binds K d ps []):CalN P w K mg base y k sp:=by
 simp only[XO]at e;obtain⟨g,c,b,a⟩:=e;obtain⟨_,F⟩:=T.tf i g c;exact⟨⟨_,_,_,(h _ F).1,T.tm j b a,F.kp,(h _ F).2⟩⟩
theorem Tx.calM(i j:Nat)(e:(ds[i]?,xp.2.2.2.1[i]?,M[j]?,xp.2.1[j]?,fs[j]?,xp.2.2.1[j]?)=(some (f,q),some (HD.fnE x q st),some (C,m),some (some (some (.ref f))),some f,some true))(h:∀d,Fun K x q st f d->FnOk P w K mg base tj k f d ps sp/\Binds K d ps []):CalM P w K mg base C m k sp:=by
 simp only[XO]at e;obtain⟨n,l,g,c,b,a⟩:=e;obtain⟨_,F⟩:=T.tf i n l;exact⟨⟨_,_,_,(h _ F).1,⟨T.ta j g c,T.tn j b a,F.kp⟩,(h _ F).2⟩⟩
theorem Tx.calC(i j l n:Nat)(e:(ds[i]?,xp.2.2.2.1[i]?,M[j]?,xp.2.1[j]?,fs[j]?,xp.2.2.1[j]?,cs[l]?,xp.2.2.1[fs.length+l]?,ns[n]?,xp.1[n]?)=(some (f,q),some (HD.fnE x q st),some (C,("__init__" : Str)),some (some (some (.ref f))),some f,some true,some C,some true,some y,some (some (some (.ref C)))))(h:∀d,Fun K x q st f d->FnOk P w K mg base tj k f d ps sp/\Binds K d ps []):CalC P w K mg base C y k sp:=by
 simp only[XO]at e;obtain⟨v,u,t,s,r,p,o,m,g,b⟩:=e;obtain⟨_,F⟩:=T.tf i v u;obtain⟨_,_,_,a,c⟩:=HD.cls_of (T.tc l o m);exact⟨⟨_,_,_,(h _ F).1,⟨a,T.ta j t s,T.tn j r p,c⟩,T.tm n g b,(h _ F).2⟩⟩
end
section
open PyProof.Rows PySem.W
variable{P:Program}{w:World}{K:F0}{mg:Str->Option Value}{base:Heap}{Y:Cm}{x qual:Str}{st:Stmt}{f:Addr}{fd:FuncData}{k:Nat}{M:List Md}{body:P1->SO}{fm:List D->Out D}
theorem S9{ps:List Str}{sp:Sp}(F:Fun K x qual st f fd)(h:∀d,Fun K x qual st f d->FnOk P w K mg base tj k f d ps sp/\Binds K d ps []):FnOk P w K mg base tj k f fd ps sp:=(h _ F).1
abbrev Bnd(x qual:Str)(st:Stmt)(ps:List Str):Prop:=∀(kV a pm:Value) (an:Option Addr) (b ct:Value) (us:List Value),us.length=ps.length->bindArgs (PySem.W.fnOf x qual (iY st) (cM st) (a6 st) .none kV a pm an b ct) ⟨us,[]⟩=pure (ps.zip us)
theorem g8(N:List Str)(more:List Md)(c:fm=run N.length body)(g:∀{a:Value} {A:Around} {outer:List PySem.Env} {s:Shared} {H:Hp} {E:XK},Room k (A.deeper (envOfC qual (a6 st) s.heap.objs.size f a))->N.Nodup->∃t,SJ Y E0 (KR Y .F) (qg M M.length) (M++more) t body/\PSs (uG tj P w K mg base N qual (a6 st) f a A outer s H E).nox (cM st) t:=by intros;and_intros)
 (S:FnScope N (N.take M.length) (a6 st):=by ac_rfl) (d:N.length=M.length + more.length:=by rfl) (b:Bnd x qual st (N.take M.length):=by intro _ _ _ _ _ _;first | exact EE λ_=>rfl | exact ED λ_ _=>rfl | exact EC λ_ _ _=>rfl | exact EB λ_ _ _ _=>rfl | exact Lb λ_ _ _ _ _=>rfl):∀fd,Fun K x qual st f fd->FnOk P w K mg base tj (k + 1) f fd (N.take M.length) (gZ Y M (KR Y .F) fm)/\Binds K fd (N.take M.length) []:=λfd F=>
 ⟨F.ok S (λvs H Q E h=>(xX h).trans (by rw[Yw,d];omega)) λa A outer s H vs Q E e h=>let ⟨t,j,p⟩:=g e S.nd;⟨t,p,Je j d c (λ_ _ _=>Rb) h⟩,F.binds b⟩
theorem Kn{sh:Sh}(N:List Str)(more:List Md)(c:fm=kS N.length body)(g:∀{a:Value} {A:Around} {outer:List PySem.Env} {s:Shared} {H:Hp} {E:XK},Room k (A.deeper (envOfC qual (a6 st) s.heap.objs.size f a))->N.Nodup->∃t,SJ Y E0 (KO Y sh) (qg M M.length) (M++more) t body/\PSs (uG tj P w K mg base N qual (a6 st) f a A outer s H E).nox (cM st) t:=by intros;and_intros)
 (S:FnScope N (N.take M.length) (a6 st):=by ac_rfl) (d:N.length=M.length + more.length:=by rfl) (b:Bnd x qual st (N.take M.length):=by intro _ _ _ _ _ _;first | exact EE λ_=>rfl | exact ED λ_ _=>rfl | exact EC λ_ _ _=>rfl | exact EB λ_ _ _ _=>rfl | exact Lb λ_ _ _ _ _=>rfl):∀fd,Fun K x qual st f fd->FnOk P w K mg base tj (k + 1) f fd (N.take M.length) (gZ Y M (KO Y sh) fm)/\Binds K fd (N.take M.length) []:=λfd F=>
 ⟨F.ok S (λvs H Q E h=>(xX h).trans (by rw[Yw,d];omega)) λa A outer s H vs Q E e h=>let ⟨t,j,p⟩:=g e S.nd;⟨t,p,Fh j d c h⟩,F.binds b⟩
end
section
variable{Y:Cm}{E:XK}{M:List Md}{P:Program}{w:World}{K:F0}{mg:Str->Option Value}{base:Heap}{x mn:Str}{C:Addr}{n c i:Nat}{msC:List Md}{fm:List D->Out D}{ps:List Ap}{p:Ap}{s:Sh}{sh:List (Str×Sh)}{ta tb tx:TE}{ma mb:P1->Res D}{mx:P1->Out D}{t:TA}{m:P1->Res (List D)}{get:P1->Option D}{set:P1->D->P1}
theorem upP{W X:Type}{K:KT W X}{t:St->Hp->(X->Hp->Prop)->Prop}{m:P1->Res W}(h:PJ Y K E M t m):MJ Y K E M t (av m):=upM h
theorem kx{k:Kd}(h:PJ Y (KR Y k) E M ta ma):PJ Y (KR Y .X) E M ta ma:=by
 cases k with
 |F=>exact fx h
 |U=>exact ux h
 |X=>exact h
def apK:Kd->Ap
 |.F=> .F
 |.U=> .U
 |.X=> .X
theorem aK{k:Kd}(h:PJ Y (KR Y k) E M ta ma):A1J Y E M (apK k) ta ma:=by
 cases k with
 |F=>exact aF h
 |U=>exact aU h
 |X=>exact aX h
theorem rSc(h:PJ Y (KR Y .X) E M ta ma):PJ Y (KR Y .F) E M ta (kN ma):=rS (k:= .X) h
theorem M0(_:CalN P w K mg base x n (gZ Y msC (KR Y .F) fm))(h:AJ Y E0 M ps t m)(a:fb ps msC=true):PJ Y (KR Y .F) E0 M (ik (gZ Y msC (KR Y .F) fm) [] E0 t) (pc fm m):=Rv h a
theorem Ic(_:CalN P w K mg base x n (gZ Y msC (KO Y s) fm))(h:AJ Y E0 M ps t m)(a:fb ps msC=true):PJ Y (KO Y s) E0 M (ik (gZ Y msC (KO Y s) fm) [] E0 t) (pc fm m):=MZ h a
theorem MH(_:CalM P w K mg base C mn n (gZ Y msC (KR Y .F) fm))(b:A1J Y E0 M p ta ma)(h:AJ Y E0 M ps t m)(a:fb (p::ps) msC=true):PJ Y (KR Y .F) E0 M (cT (Y c) mn (gZ Y msC (KR Y .F) fm) [] E0 ta t) (pm c mn fm ma m):=Rn b h a
theorem HM(_:CalM P w K mg base C mn n (gZ Y msC (KO Y s) fm))(b:A1J Y E0 M p ta ma)(h:AJ Y E0 M ps t m)(a:fb (p::ps) msC=true):PJ Y (KO Y s) E0 M (cT (Y c) mn (gZ Y msC (KO Y s) fm) [] E0 ta t) (pm c mn fm ma m):=MG b h a
theorem MI(_:CalC P w K mg base C x n (gZ Y (.O (.ob sh)::msC) (KR Y .F) fm))(h:AJ Y E0 M ps t m)(a:fb ps msC=true):PJ Y (KO Y (.ob sh)) E0 M (p6 (Y c) (gZ Y (.O (.ob sh)::msC) (KR Y .F) fm) [] E0 t) (pk c fm m):=Ro h a
theorem Ot(_:CalN P w K mg base x n (gZ Y msC (KR Y .F) fm))(h:AJ Y E0 M ps t m)(a:fitM M ps msC)(hd:(cg ps).Nodup)(b:∀i∈ii ps,i∉cg ps):MJ Y (KR Y .F) E0 M (ik (gZ Y msC (KR Y .F) fm) [] E0 t) (mc ps fm m):=S0 h a hd b
theorem Os(_:CalM P w K mg base C mn n (gZ Y msC (KR Y .F) fm))(d:A1J Y E0 M p ta ma)(h:AJ Y E0 M ps t m)(a:fitM M (p::ps) msC)(hd:(cg (p::ps)).Nodup)(b:∀i∈ii (p::ps),i∉cg (p::ps)):MJ Y (KR Y .F) E0 M (cT (Y c) mn (gZ Y msC (KR Y .F) fm) [] E0 ta t) (mm c mn (p::ps) fm ma m):=SY d h a hd b
theorem IF(_:CalM P w K mg base C mn n (gZ Y msC (KR Y .F) fm))(e:PJ Y (KR Y .F) E0 M ta ma)(d:PJ Y (KR Y .F) E0 M tb mb)(a:MJ Y (KR Y .F) E0 M tx mx)(b:fitM M [.O i,.F,.F,.F] msC):MJ Y (KR Y .F) E0 M (cT (Y c) mn (gZ Y msC (KR Y .F) fm) [] E0 (cF i) (aM ta (aM tb (aM tx bO)))) (Kx c mn i fm ma mb mx):=IG e d a b
theorem ID(_:CalM P w K mg base C mn n (gZ Y (.O s::msC) (KR Y .F) fm))(p:Prt Y M ta get set i s)(h:AJ Y E0 M ps t m)(b:fitM M ps msC)(a:cg ps=[])(d:i∉ii ps):MJ Y (KR Y .F) E0 M (cT (Y c) mn (gZ Y (.O s::msC) (KR Y .F) fm) [] E0 ta t) (IH c mn get set fm m):=IE p h b a d
end
end Mi
set_option genInjectivity false
set_option genSizeOf false
namespace K19
open PySem L2 Mi
abbrev eI(K:F0)(mg:Str->Option Value):Prop:=Tx Qy Qz QB QF QD QC QA (Qv PySem.Challenge.pw_heraldways_k19_whole_a_plain_guild_comes) K mg
structure Tx0 (K:F0) (mg:Str->Option Value):Prop where
 g_SEAT:mg "SEAT" = some (.int 0 296)
 g_MOST_HOUSES:mg "MOST_HOUSES" = some (.int 60 298)
 z_len:mg "len" = none
 z_range:mg "range" = none
 z_min:mg "min" = none
 z_max:mg "max" = none
 z_set:mg "set" = none
 z_list:mg "list" = none
 z_tuple:mg "tuple" = none
 z_isinstance:mg "isinstance" = none
 z_bool:mg "bool" = none
 z_int:mg "int" = none
 z_any:mg "any" = none
 z_abs:mg "abs" = none
 cl_Guild:Cls K 240
 cl_Post:Cls K 397
 n_house_count:NoAttr K 240 "house_count"
 n_ways:NoAttr K 240 "ways"
 n_likings:NoAttr K 240 "likings"
 n_shuns:NoAttr K 240 "shuns"
 n_wish_ranks:NoAttr K 240 "wish_ranks"
 n_guild:NoAttr K 397 "guild"
 n_roads:NoAttr K 397 "roads"
 n_told_last:NoAttr K 397 "told_last"
 n_written_last:NoAttr K 397 "written_last"
 n_letters:NoAttr K 397 "letters"
 n_standings:NoAttr K 397 "standings"
theorem tx0{K:F0}{mg:Str->Option Value}(T:eI K mg):Tx0 K mg:=⟨T.tm 18 rfl rfl,T.tm 19 rfl rfl,T.tz 20 rfl rfl,T.tz 21 rfl rfl,T.tz 22 rfl rfl,T.tz 23 rfl rfl,T.tz 24 rfl rfl,T.tz 25 rfl rfl,T.tz 26 rfl rfl,T.tz 27 rfl rfl,T.tz 28 rfl rfl,T.tz 29 rfl rfl,T.tz 30 rfl rfl,T.tz 31 rfl rfl,T.tcl 0 30 rfl rfl rfl rfl,T.tcl 1 31 rfl rfl rfl rfl,T.ta 32 rfl rfl,T.ta 33 rfl rfl,T.ta 34 rfl rfl,T.ta 35 rfl rfl,T.ta 36 rfl rfl,T.ta 37 rfl rfl,T.ta 38 rfl rfl,T.ta 39 rfl rfl,T.ta 40 rfl rfl,T.ta 41 rfl rfl,T.ta 42 rfl rfl⟩
def ie(K:F0):Mi.Cm:=⟨λc=>match c with|0=>240|1=>397|_=>0,K,[]⟩
abbrev g6(K:F0)(M:List Mi.Md)(m:List Mi.D->Mi.Out Mi.D):=Mi.gZ (ie K) M (Mi.KR (ie K) .F) m
def b7:List (Str×Sh):=[("ways",.ct .fz),("likings",.ct .fz),("shuns",.ct .fz),("wish_ranks",.ct .fz)]
def cw:List (Str×Sh):=[("guild",.ob b7),("roads",.ct .fz),("told_last",.ct .fz),("written_last",.ct .fz),("letters",.ct .fz),("standings",.ct (.ct .fz))]
def SW:List Md:=[.O (.ob b7),.F]
def K9:P1->SO:=ah (gb (av (vL (cq (bn GN (vr 1) (ax (.int 1)))) (cq (bn Ff (vr 1) (ax (.int 60))))))
 (λ_=>.bad)
 ba)
 (ah (b6 0 "house_count" 0 (av (vr 1)))
 (ah (b6 0 "ways" 0 (av (ax (.dT [] []))))
 (ah (b6 0 "likings" 0 (av (ax (.dT [] []))))
 (ah (b6 0 "shuns" 0 (av (ax (.dT [] []))))
 (b6 0 "wish_ranks" 0 (av (ax (.dT [] []))))))))
def AX:List D->Out D:=run 2 K9
theorem Ed:K9=(ah (gb (av (vL (cq (bn GN (vr 1) (ax (.int 1)))) (cq (bn Ff (vr 1) (ax (.int 60))))))
 (λ_=>.bad)
 ba)
 (ah (b6 0 "house_count" 0 (av (vr 1)))
 (ah (b6 0 "ways" 0 (av (ax (.dT [] []))))
 (ah (b6 0 "likings" 0 (av (ax (.dT [] []))))
 (ah (b6 0 "shuns" 0 (av (ax (.dT [] []))))
 (b6 0 "wish_ranks" 0 (av (ax (.dT [] []))))))))):=rfl
def SV:List Md:=[.R,.R,.F]
def K8:P1->SO:=bD (av (i6 (fq (un (bv 0 "house_count") (vr 0))) [1,2] (cq (bn (mE false) (i4 (am (vr 2) (am (vr 0) aE))) (vr 1))) (vr 0)))
def OL:List D->Out D:=kS 3 K8
def SG:List Md:=[.R,.F,.R]
def KW:P1->SO:=bD (av (un pV (i6 (i0 (vr 2)) [1,0] (λ_=>.ok true) (bn (mE false) (i4 (am (vr 1) (am (kN (vr 0)) aE))) (un (bv 0 "shuns") (vr 2))))))
def OC:List D->Out D:=run 3 KW
def SF:List Md:=[.R]
def KU:P1->SO:=bD (av (kN (un (bv 0 "house_count") (vr 0))))
def my:List D->Out D:=run 1 KU
def Sx:List Md:=[.R]
def KG:P1->SO:=ah (lv 1 "letters" 0 1)
 (λ_=>.bad)
def Ox:List D->Out D:=run 2 KG
def Sw:List Md:=[.O (.ob cw),.F,.F]
def KF:P1->SO:=ah (aB (iJ (dR 1 "letters" 0) (dk "letters" 0) (i4 (am (vr 1) (am (vr 2) aE)))))
 (ah (aB (iJ (dR 1 "told_last" 0) (dk "told_last" 0) (i4 (am (vr 1) (am (vr 2) aE)))))
 (ah (aB (iJ (dR 1 "written_last" 0) (dk "written_last" 0) (i4 (am (vr 1) (am (vr 2) aE)))))
 (aB (nZ (j1 (hE (bI 0) 1 "standings") (BG 2)) (lL (hE (bI 0) 1 "standings") (lM (bI 0) (cU 0) "standings") (BG 2)) (vr 1)))))
def IM:List D->Out D:=run 3 KF
def Oo:List Md:=[.O (.ob cw),.F,.F]
def Ea:P1->SO:=ah (bE 3 (av (bn pH (un (bv 1 "roads") (vr 0)) (vr 1))))
 (ah (gb (av (cq (bn (Li false) (qB (un (bv 1 "written_last") (vr 0)) (i4 (am (vr 1) (am (vr 2) aE)))) (vr 3))))
 Hu
 ba)
 (ah (ge (dR 1 "written_last" 0) (dk "written_last" 0) (i4 (am (vr 1) (am (vr 2) aE))) (av (vr 3)))
 (ge (dR 1 "letters" 0) (dk "letters" 0) (i4 (am (vr 1) (am (vr 2) aE))) (av (vr 3)))))
def ud:List D->Out D:=run 4 Ea
def Oi:List Md:=[.R,.F]
def D4:P1->SO:=ah (gb (av (cq (bn GN (vr 1) (un iD (vr 0)))))
 (bD (av (kN (bn pH (vr 0) (vr 1)))))
 ba)
 (bD (av (ax (.int 0))))
def nr:List D->Out D:=run 2 D4
def Od:List Md:=[.F,.F]
abbrev wN:P1->SO:=(ah (gb (av (cq (bn (mQ false) (bn f6 (bn Cb (vr 2) (bn f6 (vr 4) (ax (.int 29)))) (ax (.int 2))) (ax (.int 1)))))
 (aB (iz (bI 3) (cU 3) mF (i4 (am (vr 5) (am (vr 6) aE)))))
 ba)
 (bE 4 (av (bn iO (vr 4) (ax (.int 1))))))
abbrev EM:P1->SO:=(dh (av (v7 (bn iO (vr 5) (ax (.int 1))) (vr 1))) (tE 6)
 wN)
def DZ:P1->SO:=ah (bE 2 (av (bn f6 (bn rF (bn f6 (bn rF (bn iO (vr 0) (ax (.int 1))) (ax (.int 48271))) (ax (.int 2147483647))) (ax (.int 16807))) (ax (.int 2147483647)))))
 (ah (bE 3 (av (lQ aE)))
 (ah (bE 4 (av (ax (.int 0))))
 (ah (dh (av (fq (vr 1))) (tE 5)
 EM)
 (bD (GM 3)))))
def Ep:List D->Out D:=kS 7 DZ
def Oc:List Md:=[.F]
def DY:P1->SO:=bD (av (Bx (bn E7 (vr 0) (ax (.ty "int"))) (un IA (bn E7 (vr 0) (ax (.ty "bool"))))))
def yy:List D->Out D:=run 1 DY
def Oa:List Md:=[.F,.F]
abbrev EL:P1->SO:=(ah (bE 5 (av (bn f6 (bn iO (bn rF (vr 4) (ax (.int 7))) (vr 0)) (vr 4))))
 (ah (bE 6 (av (bn f6 (bn iO (bn rF (vr 4) (ax (.int 3))) (bn hV (vr 0) (ax (.int 7)))) (vr 4))))
 (gb (av (cq (bn (mQ false) (bn f6 (vr 0) (ax (.int 5))) (ax (.int 2)))))
 (ah (aB (iz (bI 2) (cU 2) mF (i4 (am (ax (.int 0)) (am (vr 4) aE)))))
 (ah (bE 5 (av (bn pM (vr 3) (vr 4))))
 (ah (bE 6 (av (bn pO (vr 3) (vr 4))))
 (gb (av (cq (bn (mQ true) (vr 3) (vr 4))))
 (aB (iz (bI 2) (cU 2) mF (i4 (am (vr 5) (am (vr 6) aE)))))
 ba))))
 (ah (aB (iz (bI 2) (cU 2) mF (i4 (am (vr 5) (am (vr 4) aE)))))
 (gb (av (pW (cq (bn (mQ false) (bn f6 (bn iO (bn rF (vr 4) (ax (.int 5))) (vr 0)) (ax (.int 3))) (ax (.int 0)))) (cq (bn (mQ true) (vr 6) (vr 5)))))
 (aB (iz (bI 2) (cU 2) mF (i4 (am (vr 6) (am (vr 4) aE)))))
 ba)))))
def DX:P1->SO:=ah (bE 2 (av (lQ aE)))
 (ah (bE 3 (av (bn iO (ax (.int 1)) (bn f6 (bn hV (vr 0) (ax (.int 5))) (bn Af (vr 1) (ax (.int 1)))))))
 (ah (dh (av (v7 (ax (.int 1)) (vr 1))) (tE 4)
 EL)
 (bD (GM 2))))
def Eo:List D->Out D:=kS 7 DX
def Om:List Md:=[.F,.F]
def D8:P1->SO:=ah (gb (av (cq (bn (mQ false) (vr 0) (ax (.int 0)))))
 (bD (av (lQ (am (ax (.int 0)) aE))))
 ba)
 (ah (bE 2 (av (bn t8 (vr 1) (ax .non))))
 (ah (gb (av (cq (bn (ib false) (vr 2) (ax .non))))
 (bD (av (ax .non)))
 ba)
 (bD (av (bn yI (vr 2) (ax (.int 2)))))))
def Ey:List D->Out D:=run 3 D8
def Ol:List Md:=[.R]
def D7:P1->SO:=ah (gb (av (cq (bn (ib false) (vr 0) (ax .non))))
 (bD (av (ax .non)))
 ba)
 (bD (av (un lb (o8 (vr 0)))))
def yA:List D->Out D:=run 1 D7
def N7:List Md:=[.R,.F]
def DU:P1->SO:=gb (av (vL (cq (bn GN (bn (nP cX) (vr 0) (ax (.int 0))) (ax (.int 0)))) (cq (bn Tg (bn (nP fZ) (vr 0) (ax (.int 0))) (vr 1)))))
 (λ_=>.bad)
 ba
def El:List D->Out D:=run 2 DU
def SL:List Md:=[.R,.R]
def K1:P1->SO:=aB (av (pc El (am (vr 1) (am (kN (un (bv 0 "house_count") (vr 0))) aE))))
def rH:List D->Out D:=run 2 K1
def Op:List Md:=[.R]
def Eb:P1->SO:=bD (av (i6 (Ai (un (bv 1 "letters") (vr 0))) [0] (λ_=>.ok true) (i4 (am (bn yI (vr 0) (ax (.int 0))) (am (bn yI (vr 0) (ax (.int 1))) (am (pc yA (am (bn l7 (un (bv 1 "letters") (vr 1)) (vr 0)) aE)) aE))))))
def yB:List D->Out D:=kS 1 Eb
def Oj:List Md:=[.F,.F,.R]
abbrev EV:P1->SO:=(ah (bE 4 (av (i4 (am (bn pM (bn pH (vr 0) (vr 3)) (bn pH (vr 0) (bn iO (vr 3) (ax (.int 1))))) (am (bn pO (bn pH (vr 0) (vr 3)) (bn pH (vr 0) (bn iO (vr 3) (ax (.int 1))))) aE)))))
 (gb (av (vL (wz (cq (pc yy (am (bn pH (vr 0) (vr 3)) aE)))) (cq (bn wC (vr 4) (vr 2)))))
 (bD (av (ax (.bl false))))
 ba))
def D5:P1->SO:=ah (gb (av (vL (wz (cq (bn E7 (vr 0) (ax (.ty "list"))))) (vL (cq (bn (mQ false) (un iD (vr 0)) (ax (.int 0)))) (vL (cq (bn (mQ true) (bn pH (vr 0) (ax (.int 0))) (vr 1))) (cq (bn (mQ true) (bn pH (vr 0) (un DG (ax (.int 1)))) (ax (.int 0))))))))
 (bD (av (ax (.bl false))))
 ba)
 (ah (dh (av (fq (bn Af (un iD (vr 0)) (ax (.int 1))))) (tE 3)
 EV)
 (bD (av (ax (.bl true)))))
def Ev:List D->Out D:=run 5 D5
def N9:List Md:=[.R,.F,.R]
def DW:P1->SO:=ah (gb (av (vL (cq (bn (ib false) (vr 2) (ax .non))) (vL (cq (bn (mQ false) (vr 1) (ax (.int 0)))) (cq (bn Ld (vr 1) (vr 2))))))
 (bD (av (ax (.bl false))))
 ba)
 (bD (av (un IA (pm 0 "shuns_one_of" OC (vr 0) (am (vr 1) (am (vr 2) aE))))))
def En:List D->Out D:=run 3 DW
def SR:List Md:=[.O (.ob b7),.F,.F,.F]
def K5:P1->SO:=ah (aB (av (pm 0 "require_houses" rH (vr 0) (am (lQ (am (vr 1) (am (vr 2) aE))) aE))))
 (ge (dR 0 "likings" 0) (dk "likings" 0) (i4 (am (vr 1) (am (vr 2) aE))) (av (vr 3)))
def OG:List D->Out D:=run 4 K5
def SQ:List Md:=[.R,.F,.F]
def K4:P1->SO:=ah (aB (av (pm 0 "require_houses" rH (vr 0) (am (lQ (am (vr 1) (am (vr 2) aE))) aE))))
 (bD (av (kN (yQ (un (bv 0 "likings") (vr 0)) (i4 (am (vr 1) (am (vr 2) aE))) (ax (.int 0))))))
def OF:List D->Out D:=run 3 K4
def SN:List Md:=[.R,.F]
def K3:P1->SO:=ah (aB (av (pm 0 "require_houses" rH (vr 0) (am (lQ (am (vr 1) aE)) aE))))
 (bD (av (pm 0 "houses_paired" OL (vr 0) (am (un (bv 0 "ways") (vr 0)) (am (vr 1) aE)))))
def IT:List D->Out D:=kS 2 K3
def SK:List Md:=[.R,.R]
def K0:P1->SO:=ah (aB (av (pm 0 "require_houses" rH (vr 0) (am (vr 1) aE))))
 (ah (gb (av (cq (bn GN (un iD (vr 1)) (ax (.int 2)))))
 (λ_=>.bad)
 ba)
 (ah (gb (av (cq (bn (mQ true) (bn pH (vr 1) (un DG (ax (.int 1)))) (ax (.int 0)))))
 (λ_=>.bad)
 ba)
 (gb (av (cq (bn (mQ true) (un nA (vr 1)) (un iD (vr 1)))))
 (λ_=>.bad)
 ba)))
def IS:List D->Out D:=run 2 K0
def SI:List Md:=[.R,.F,.F]
def KZ:P1->SO:=ah (aB (av (pm 0 "require_houses" rH (vr 0) (am (lQ (am (vr 1) (am (vr 2) aE))) aE))))
 (gb (av (cq (bn (mQ false) (vr 1) (vr 2))))
 (λ_=>.bad)
 ba)
def Ei:List D->Out D:=run 3 KZ
def SE:List Md:=[.R]
def KS:P1->SO:=ah (bE 1 (av (pk 0 AX (am (kN (un (bv 0 "house_count") (vr 0))) aE))))
 (ah (aB (qU (dR 0 "ways" 1) (dk "ways" 1) (un (bv 0 "ways") (vr 0))))
 (ah (aB (qU (dR 0 "likings" 1) (dk "likings" 1) (un (bv 0 "likings") (vr 0))))
 (ah (aB (qU (dR 0 "shuns" 1) (dk "shuns" 1) (un (bv 0 "shuns") (vr 0))))
 (ah (aB (qU (dR 0 "wish_ranks" 1) (dk "wish_ranks" 1) (un (bv 0 "wish_ranks") (vr 0))))
 (bD (GM 1))))))
def wJ:List D->Out D:=kS 2 KS
def Ss:List Md:=[.R,.F]
def KA:P1->SO:=ah (aB (av (pm 0 "require_houses" rH (un (bv 1 "guild") (vr 0)) (am (lQ (am (vr 1) aE)) aE))))
 (bD (av (pc yA (am (bn pH (un (bv 1 "roads") (vr 0)) (vr 1)) aE))))
def AW:List D->Out D:=run 2 KA
def SU:List Md:=[.O (.ob b7),.F,.F]
def K7:P1->SO:=ah (aB (av (pm 0 "require_two_houses" Ei (vr 0) (am (vr 1) (am (vr 2) aE)))))
 (ah (gb (av (cq (bn (mE false) (i4 (am (vr 1) (am (vr 2) aE))) (un (bv 0 "ways") (vr 0)))))
 (λ_=>.bad)
 ba)
 (ah (ge (dR 0 "ways" 0) (dk "ways" 0) (i4 (am (vr 1) (am (vr 2) aE))) (av (ax (.bl true))))
 (ge (dR 0 "ways" 0) (dk "ways" 0) (i4 (am (vr 2) (am (vr 1) aE))) (av (ax (.bl true))))))
def IV:List D->Out D:=run 3 K7
def SS:List Md:=[.O (.ob b7),.F,.F]
def K6:P1->SO:=ah (aB (av (pm 0 "require_two_houses" Ei (vr 0) (am (vr 1) (am (vr 2) aE)))))
 (ah (gb (av (cq (bn (mE true) (i4 (am (vr 1) (am (vr 2) aE))) (un (bv 0 "ways") (vr 0)))))
 (λ_=>.bad)
 ba)
 (ah (aB (l5 (dR 0 "ways" 0) (dk "ways" 0) (i4 (am (vr 1) (am (vr 2) aE)))))
 (aB (l5 (dR 0 "ways" 0) (dk "ways" 0) (i4 (am (vr 2) (am (vr 1) aE)))))))
def OJ:List D->Out D:=run 3 K6
def SM:List Md:=[.R,.R]
def K2:P1->SO:=ah (aB (av (pm 0 "require_long_road" IS (vr 0) (am (vr 1) aE))))
 (ah (bE 2 (av (kN (qB (un (bv 0 "wish_ranks") (vr 0)) (un GS (o8 (vr 1)))))))
 (ah (gb (av (cq (bn (ib false) (vr 2) (ax .non))))
 (bD (av (pm 0 "liking" OF (vr 0) (am (kN (bn pH (vr 1) (ax (.int 0)))) (am (kN (bn pH (vr 1) (ax (.int 1)))) aE)))))
 ba)
 (bD (av (vr 2)))))
def OE:List D->Out D:=run 3 K2
def SH:List Md:=[.O (.ob b7),.F,.F]
def KY:P1->SO:=ah (aB (av (pm 0 "require_two_houses" Ei (vr 0) (am (vr 1) (am (vr 2) aE)))))
 (ge (dR 0 "shuns" 0) (dk "shuns" 0) (i4 (am (vr 1) (am (vr 2) aE))) (av (ax (.bl true))))
def OD:List D->Out D:=run 3 KY
def SD:List Md:=[.O (.ob b7),.R,.F]
def KQ:P1->SO:=ah (aB (av (pm 0 "require_long_road" IS (vr 0) (am (vr 1) aE))))
 (ge (dR 0 "wish_ranks" 0) (dk "wish_ranks" 0) (un GS (o8 (vr 1))) (av (vr 2)))
def OA:List D->Out D:=run 3 KQ
def On:List Md:=[.O (.ob cw),.F]
abbrev EX:P1->SO:=(aB (mm 1 "write_road" [(.O 0),.F,.F] ud (vr 0) (am (vr 1) (am (vr 2) aE))))
def D9:P1->SO:=dh (av (i0 (pm 0 "neighbours" IT (un (bv 1 "guild") (vr 0)) (am (vr 1) aE)))) (tE 2)
 EX
def g9:List D->Out D:=run 3 D9
def Og:List Md:=[.R,.R,.F]
abbrev EU:P1->SO:=(ah (bE 4 (av (pm 1 "road" AW (vr 0) (am (kN (vr 3)) aE))))
 (ah (gb (av (pW (cq (bn (mQ false) (vr 3) (ax (.int 0)))) (cq (bn (Li true) (vr 4) (lQ (am (ax (.int 0)) aE))))))
 (bD (av (ax (.bl false))))
 ba)
 (gb (av (pW (cq (bn (ib true) (vr 4) (ax .non))) (wz (cq (pc Ev (am (vr 4) (am (kN (vr 3)) (am (vr 1) aE))))))))
 (bD (av (ax (.bl false))))
 ba)))
abbrev ET:P1->SO:=(ah (bE 6 (av (pm 1 "road" AW (vr 0) (am (kN (vr 3)) aE))))
 (ah (bE 7 (av (pm 1 "road" AW (vr 0) (am (kN (vr 5)) aE))))
 (ah (gb (av (cq (bn (mQ true) (bn (ib false) (vr 6) (ax .non)) (bn (ib false) (vr 7) (ax .non)))))
 (bD (av (ax (.bl false))))
 ba)
 (gb (av (pW (cq (bn (ib true) (vr 6) (ax .non))) (cq (bn Ff (un Jz (bn Af (un iD (vr 6)) (un iD (vr 7)))) (ax (.int 1))))))
 (bD (av (ax (.bl false))))
 ba))))
def D2:P1->SO:=ah (dh (av (fq (vr 2))) (tE 3)
 EU)
 (ah (dh (av (i0 (vr 1))) (BN 3 5)
 ET)
 (bD (av (ax (.bl true)))))
def Et:List D->Out D:=run 8 D2
def Oe:List Md:=[.R,.R,.F]
abbrev EN:P1->SO:=(ah (bE 4 (av (pm 1 "road" AW (vr 0) (am (vr 3) aE))))
 (ah (gb (av (cq (bn (mQ true) (bn (ib false) (vr 4) (ax .non)) (bn (ib false) (bn pH (vr 1) (vr 3)) (ax .non)))))
 (bD (av (ax (.bl false))))
 ba)
 (gb (av (pW (cq (bn (ib true) (vr 4) (ax .non))) (cq (bn (mQ true) (un iD (vr 4)) (bn iO (bn pH (vr 1) (vr 3)) (ax (.int 1)))))))
 (bD (av (ax (.bl false))))
 ba)))
def D0:P1->SO:=ah (dh (av (fq (vr 2))) (tE 3)
 EN)
 (bD (av (ax (.bl true))))
def Er:List D->Out D:=run 5 D0
def N8:List Md:=[.R]
abbrev wM:P1->SO:=(gb (av (cq (bn (ib false) (bn pH (vr 1) (vr 4)) (ax .non))))
 (ah (i9 (bI 1) (cU 1) (vr 4) (av (bn iO (bn pH (vr 1) (vr 3)) (ax (.int 1)))))
 (aB (iz (bI 2) (cU 2) mF (vr 4))))
 ba)
abbrev EK:P1->SO:=(ah (bE 3 (iz (bI 2) (cU 2) CZ (ax (.int 0))))
 (dh (av (i0 (pm 0 "neighbours" IT (vr 0) (am (vr 3) aE)))) (tE 4)
 wM))
def DV:P1->SO:=ah (bE 1 (av (bn tN (lQ (am (ax .non) aE)) (pm 0 "size" my (vr 0) aE))))
 (ah (i9 (bI 1) (cU 1) (ax (.int 0)) (av (ax (.int 0))))
 (ah (bE 2 (av (lQ (am (ax (.int 0)) aE))))
 (ah (vP (av (cq (bn Ff (un iD (vr 2)) (ax (.int 0)))))
 EK 100000)
 (bD (GM 1)))))
def Em:List D->Out D:=kS 5 DV
def SC:List Md:=[.O (.ob cw),.R]
def KP:P1->SO:=ah (b6 1 "guild" 0 (av (pm 0 "twin" wJ (vr 1) aE)))
 (ah (b6 1 "roads" 0 (av (bn tN (lQ (am (ax .non) aE)) (pm 0 "size" my (vr 1) aE))))
 (ah (i9 (dR 1 "roads" 0) (dk "roads" 0) (ax (.int 0)) (av (lQ (am (ax (.int 0)) aE))))
 (ah (b6 1 "told_last" 0 (av (ax (.dT [] []))))
 (ah (b6 1 "written_last" 0 (av (ax (.dT [] []))))
 (ah (b6 1 "letters" 0 (av (ax (.dT [] []))))
 (ah (b6 1 "standings" 0 (av (i6 (fq (pm 0 "size" my (vr 1) aE)) [] (λ_=>.ok true) (ax (.dK [] [])))))
 (aB (mm 1 "write_to_all" [(.O 0),.F] g9 (vr 0) (am (ax (.int 0)) aE)))))))))
def wI:List D->Out D:=run 2 KP
theorem uc:KP=(ah (b6 1 "guild" 0 (av (pm 0 "twin" wJ (vr 1) aE)))
 (ah (b6 1 "roads" 0 (av (bn tN (lQ (am (ax .non) aE)) (pm 0 "size" my (vr 1) aE))))
 (ah (i9 (dR 1 "roads" 0) (dk "roads" 0) (ax (.int 0)) (av (lQ (am (ax (.int 0)) aE))))
 (ah (b6 1 "told_last" 0 (av (ax (.dT [] []))))
 (ah (b6 1 "written_last" 0 (av (ax (.dT [] []))))
 (ah (b6 1 "letters" 0 (av (ax (.dT [] []))))
 (ah (b6 1 "standings" 0 (av (i6 (fq (pm 0 "size" my (vr 1) aE)) [] (λ_=>.ok true) (ax (.dK [] [])))))
 (aB (mm 1 "write_to_all" [(.O 0),.F] g9 (vr 0) (am (ax (.int 0)) aE)))))))))):=rfl
def Sz:List Md:=[.O (.ob cw),.F]
def KJ:P1->SO:=ah (bE 2 (av (pc Ey (am (vr 1) (am (un BJ (Qx (j1 (hE (bI 0) 1 "standings") (BG 1)))) aE)))))
 (ah (gb (av (cq (bn (Li false) (vr 2) (bn pH (un (bv 1 "roads") (vr 0)) (vr 1)))))
 (bD (av (ax (.bl false))))
 ba)
 (ah (i9 (dR 1 "roads" 0) (dk "roads" 0) (vr 1) (av (vr 2)))
 (ah (aB (mm 1 "write_to_all" [(.O 0),.F] g9 (vr 0) (am (vr 1) aE)))
 (bD (av (ax (.bl true)))))))
def Eg:List D->Out D:=run 3 KJ
def Su:List Md:=[.O (.ob cw),.F,.F]
def KD:P1->SO:=ah (aB (IH 0 "lay_way" (hE (bI 0) 1 "guild") (lM (bI 0) (cU 0) "guild") IV (am (vr 1) (am (vr 2) aE))))
 (ah (aB (mm 1 "write_road" [(.O 0),.F,.F] ud (vr 0) (am (bn pM (vr 1) (vr 2)) (am (bn pO (vr 1) (vr 2)) aE))))
 (aB (mm 1 "write_road" [(.O 0),.F,.F] ud (vr 0) (am (bn pO (vr 1) (vr 2)) (am (bn pM (vr 1) (vr 2)) aE)))))
def Ou:List D->Out D:=run 3 KD
def Of:List Md:=[.F,.R,.R,.R,.R]
abbrev ES:P1->SO:=(aB (mm 0 "lay_way" [(.O 5),.F,.F] IV (vr 5) (am (kN (vr 6)) (am (kN (vr 7)) aE))))
abbrev ER:P1->SO:=(aB (mm 0 "like" [(.O 5),.F,.F,.F] OG (vr 5) (am (kN (bn yI (vr 8) (ax (.int 0)))) (am (kN (bn yI (vr 8) (ax (.int 1)))) (am (kN (bn l7 (vr 2) (vr 8))) aE)))))
abbrev EQ:P1->SO:=(aB (mm 0 "wish" [(.O 5),.F,.F] OA (vr 5) (am (un lb (o8 (vr 9))) (am (kN (bn l7 (vr 3) (vr 9))) aE))))
abbrev EO:P1->SO:=(aB (mm 0 "shun" [(.O 5),.F,.F] OD (vr 5) (am (kN (vr 6)) (am (kN (vr 7)) aE))))
def D1:P1->SO:=ah (bE 5 (av (pk 0 AX (am (vr 0) aE))))
 (ah (dh (av (i0 (vr 1))) (BN 6 7)
 ES)
 (ah (dh (av (i0 (un yG (vr 2)))) (tE 8)
 ER)
 (ah (dh (av (i0 (un yG (vr 3)))) (tE 9)
 EQ)
 (ah (dh (av (i0 (vr 4))) (BN 6 7)
 EO)
 (bD (GM 5))))))
def yz:List D->Out D:=kS 10 D1
def N6:List Md:=[.R,.F]
def DT:P1->SO:=bD (av (i4 (am (un DG (pm 0 "rank_of" OE (vr 0) (am (vr 1) aE))) (am (un iD (vr 1)) (am (vr 1) aE)))))
def Ek:List D->Out D:=run 2 DT
def Sy:List Md:=[.O (.ob cw),.F,.F]
def KH:P1->SO:=ah (aB (IH 0 "lift_way" (hE (bI 0) 1 "guild") (lM (bI 0) (cU 0) "guild") OJ (am (vr 1) (am (vr 2) aE))))
 (ah (aB (mm 1 "forget" [(.O 0),.F,.F] IM (vr 0) (am (vr 1) (am (vr 2) aE))))
 (ah (aB (mm 1 "forget" [(.O 0),.F,.F] IM (vr 0) (am (vr 2) (am (vr 1) aE))))
 (ah (aB (mm 1 "choose_anew" [(.O 0),.F] Eg (vr 0) (am (bn pM (vr 1) (vr 2)) aE)))
 (aB (mm 1 "choose_anew" [(.O 0),.F] Eg (vr 0) (am (bn pO (vr 1) (vr 2)) aE))))))
def Oy:List D->Out D:=run 3 KH
def Sv:List Md:=[.O (.ob cw),.F,.F,.F]
def KE:P1->SO:=ah (ge (dR 1 "told_last" 0) (dk "told_last" 0) (i4 (am (vr 1) (am (vr 2) aE))) (av (vr 3)))
 (gb (av (cq (pc En (am (un (bv 1 "guild") (vr 0)) (am (vr 2) (am (vr 3) aE))))))
 (ge (j1 (hE (bI 0) 1 "standings") (BG 2)) (lL (hE (bI 0) 1 "standings") (lM (bI 0) (cU 0) "standings") (BG 2)) (vr 1) (av (pc Ek (am (un (bv 1 "guild") (vr 0)) (am (bn Jo (lQ (am (vr 2) aE)) (vr 3)) aE)))))
 (aB (nZ (j1 (hE (bI 0) 1 "standings") (BG 2)) (lL (hE (bI 0) 1 "standings") (lM (bI 0) (cU 0) "standings") (BG 2)) (vr 1))))
def Ov:List D->Out D:=run 4 KE
def SB:List Md:=[.O (.ob cw),.F,.F]
def KN:P1->SO:=ah (aB (av (pm 0 "require_houses" rH (un (bv 1 "guild") (vr 0)) (am (lQ (am (vr 1) (am (vr 2) aE))) aE))))
 (ah (gb (av (cq (bn (mE true) (i4 (am (vr 1) (am (vr 2) aE))) (un (bv 1 "letters") (vr 0)))))
 (λ_=>.bad)
 ba)
 (ah (aB (Kx 1 "hear" 0 Ov (vr 1) (vr 2) (l5 (dR 1 "letters" 0) (dk "letters" 0) (i4 (am (vr 1) (am (vr 2) aE))))))
 (bD (mm 1 "choose_anew" [(.O 0),.F] Eg (vr 0) (am (vr 2) aE)))))
def IN:List D->Out D:=run 3 KN
def SA:List Md:=[.O (.ob cw)]
def KM:P1->SO:=ah (bE 1 (av (pm 1 "first_of_line" Ox (vr 0) aE)))
 (bD (mm 1 "carry" [(.O 0),.F,.F] IN (vr 0) (am (bn yI (vr 1) (ax (.int 0))) (am (bn yI (vr 1) (ax (.int 1))) aE))))
def Oz:List D->Out D:=run 2 KM
def Oh:List Md:=[.O (.ob cw),.O (.ct .fz),.F,.F]
def D3:P1->SO:=ah (bE 4 (av (bn f6 (bn hV (vr 3) (ax (.int 5))) (vr 2))))
 (ah (bE 5 (av (bn f6 (bn hV (bn hV (vr 3) (ax (.int 5))) (vr 2)) (vr 2))))
 (ah (bE 6 (av (pm 1 "waiting" yB (vr 0) aE)))
 (gb (av (pW (cq (bn Ff (bn f6 (vr 3) (ax (.int 5))) (ax (.int 2)))) (cq (bn (mQ true) (vr 4) (vr 5)))))
 (ah (bE 7 (av (i4 (am (bn pM (vr 4) (vr 5)) (am (bn pO (vr 4) (vr 5)) aE)))))
 (gb (av (cq (bn Ld (vr 7) (vr 1))))
 (ah (aB (mm 1 "fall" [(.O 0),.F,.F] Oy (vr 0) (am (vr 4) (am (vr 5) aE))))
 (aB (iz (bI 1) (cU 1) Ar (vr 7))))
 (ah (aB (mm 1 "rise" [(.O 0),.F,.F] Ou (vr 0) (am (vr 4) (am (vr 5) aE))))
 (aB (iz (bI 1) (cU 1) mF (vr 7))))))
 (gb (av (cq (bn Ff (un iD (vr 6)) (ax (.int 0)))))
 (ah (bE 8 (av (bn pH (vr 6) (bn f6 (bn hV (vr 3) (ax (.int 5))) (un iD (vr 6))))))
 (aB (mm 1 "carry" [(.O 0),.F,.F] IN (vr 0) (am (bn yI (vr 8) (ax (.int 0))) (am (bn yI (vr 8) (ax (.int 1))) aE)))))
 ba))))
def Eu:List D->Out D:=run 9 D3
def Oq:List Md:=[.O (.ob cw),.F]
abbrev EY:P1->SO:=(ah (aB (mm 1 "carry_next" [(.O 0)] Oz (vr 0) aE))
 (bE 2 (av (bn iO (vr 2) (ax (.int 1))))))
def Ec:P1->SO:=ah (bE 2 (av (ax (.int 0))))
 (ah (vP (av (pW (cq (bn GN (vr 2) (vr 1))) (cq (bn Ff (un OQ (un (bv 1 "letters") (vr 0))) (ax (.int 0))))))
 EY 100000)
 (bD (av (vr 2))))
def Ez:List D->Out D:=run 3 Ec
def DN:List Md:=[.R]
abbrev EW:P1->SO:=(aB (mc [(.O 3),(.O 2),.F,.F] Eu (am (vr 3) (am (vr 2) (am (vr 1) (am (vr 4) aE))))))
def D6:P1->SO:=ah (bE 1 (av (bn iO (ax (.int 1)) (bn f6 (pc nr (am (vr 0) (am (ax (.int 0)) aE))) (ax (.int 7))))))
 (ah (bE 2 (av (pc Ep (am (pc nr (am (vr 0) (am (ax (.int 1)) aE))) (am (vr 1) aE)))))
 (ah (gb (av (cq (bn (mQ false) (bn f6 (bn hV (pc nr (am (vr 0) (am (ax (.int 0)) aE))) (ax (.int 7))) (ax (.int 8))) (ax (.int 1)))))
 (ah (bE 1 (av (bn iO (ax (.int 8)) (bn f6 (bn hV (pc nr (am (vr 0) (am (ax (.int 0)) aE))) (ax (.int 56))) (ax (.int 13))))))
 (bE 2 (av (pc Eo (am (pc nr (am (vr 0) (am (ax (.int 1)) aE))) (am (vr 1) aE))))))
 ba)
 (ah (bE 3 (av (pk 1 wI (am (pc yz (am (vr 1) (am (vr 2) (am (ax (.dT [] [])) (am (ax (.dT [] [])) (am (lQ aE) aE)))))) aE))))
 (ah (dh (av (i0 (bn Fu (o8 (vr 0)) (ax (.int 2))))) (tE 4)
 EW)
 (ah (bE 5 (mm 1 "settle" [(.O 3),.F] Ez (vr 3) (am (ax (.int 5000)) aE)))
 (ah (gb (av (vL (wz (cq (pc yy (am (vr 5) aE)))) (vL (cq (bn GN (vr 5) (ax (.int 0)))) (vL (cq (bn Tg (vr 5) (ax (.int 5000)))) (cq (bn Ff (un iD (pm 1 "waiting" yB (vr 3) aE)) (ax (.int 0))))))))
 (bD (av (ax (.bl false))))
 ba)
 (ah (bE 6 (av (pc Em (am (pc yz (am (vr 1) (am (vr 2) (am (ax (.dT [] [])) (am (ax (.dT [] [])) (am (lQ aE) aE)))))) aE))))
 (bD (av (Bx (pc Et (am (vr 3) (am (vr 2) (am (vr 1) aE)))) (pc Er (am (vr 3) (am (vr 6) (am (vr 1) aE))))))))))))))
def Ew:List D->Out D:=run 7 D6
section
variable(P:Program)(w:World)(b:Heap){K:F0}{g:Str->Option Value}
set_option compiler.extract_closed false
set_option hygiene false
seal PE PS PSs PT QG PA PI PG Us PC PW PK PO jI PySem.binaryOp PySem.compareOp PySem.bootBuiltins UN VE cz fV QI UP cF tC tB LW UW LO BX BS BU LN BV GW BR LQ vV d8 O2 yR O0 O1 tG QN vU qx Fc Fb LR BF UU BQ mV Ce bO aM LM LP ik cT p6 tF BW LS qZ Cf v4 vZ v6 v5 vY UV LU LL lH Ja BP BO vW qY Ae vX
local macro_rules | `(tactic| ac_rfl)=>`(tactic| first
 |exact rfl
 |(focus show PE _ _ _;first | exact pv _ | exact MV | exact MT | exact Ru | exact Da | ((first | refine Rr ?_ ?_ ?_ | refine HZ _ ?_ ?_ ?_ | refine Rs ?_ ?_ ?_ ?_ | refine MQ ?_ | refine MU ?_ | refine H0 ?_ ?_ ?_ ?_ | refine H9 ?_ ?_ ?_ ?_ | refine Rq ?_ ?_ | refine C8 ?_ ?_ ?_ ?_ | refine AB ?_ ?_ ?_ ?_ ?_ | refine Dd ?_ ?_ ?_ ?_ | refine Dc ?_ ?_ ?_ ?_ ?_ | refine C9 ?_ ?_ ?_ ?_ | refine MS ?_ | refine MY ?_ ?_ | refine C4 ?_ ?_ ?_ ?_ | refine HV ?_ | refine MX ?_ | refine MR ?_ | refine tR ?_ ?_ ?_ ?_ ?_) <;> ac_rfl) | (((first | refine C5 (k:=?_) ?_ ?_ ?_ ?_ ?_ | refine De (k:=?_) ?_ ?_ ?_ ?_ | refine Rt (id:=?_) ?_ ?_ ?_ ?_ ?_ ?_ | refine AA (k:=?_) ?_ ?_ ?_ ?_ | refine H8 (cs:=?_) ?_ ?_ ?_ ?_ (λ_ _ _ _=>?_) (λ_ _ _ _=>?_) | refine C7 (k:=?_) ?_ ?_ ?_ ?_ | refine AD (id:=?_) ?_ ?_ ?_ ?_ ?_ ?_);rotate_left) <;> ac_rfl) | ((refine Df (id:=?_) ?_ ?_ ?_ ?_ ?_;rotate_left) <;> ac_rfl) | ((refine HY (u:=?_) ?_ ?_ ?_;rotate_left) <;> ac_rfl) | ((refine AC (T:=?_) ?_ ?_ ?_ ?_ ?_;rotate_left) <;> ac_rfl) | ((refine Ib (u:=?_) ?_ ?_ ?_ ?_;rotate_left) <;> ac_rfl) | exact Db)
 |exact M5
 |(refine Ig ?_ ?_<;>ac_rfl)
 |(focus show PSs _ _ _;first | exact HF | ((first | refine CU ?_ ?_ | refine HE ?_) <;> ac_rfl))
 |(focus show PS _ _ _;first | exact CW | ((first | refine Mz ?_ | refine HH ?_ | refine My ?_ ?_ ?_ ?_ | refine Rm ?_ ?_ ?_ | refine MA YQ ?_ ?_ ?_ ?_ | refine MB ?_ ?_ ?_ | refine HI ?_ ?_ ?_ ?_ ?_ | refine CV YQ ?_ ?_ | refine ME ?_ ?_ | refine HJ ?_ ?_ ?_ ?_ | refine CY YQ ?_ ?_ ?_ ?_) <;> ac_rfl) | exact HG)
 |exact HA
 |(refine Hz ?_<;>ac_rfl)
 |exact HU
 |(refine C3 ?_ ?_<;>ac_rfl)
 |exact MK
 |(refine HN ?_ ?_<;>ac_rfl)
 |(focus show PT _ _ _;first | ((first | refine HC ?_ ?_ ?_ ?_ | refine Mu ?_ | refine Mv ?_ | refine Mw ?_) <;> ac_rfl) | (refine PW.pt ?_ <;> ac_rfl))
 |(focus show PI _ _ _ _;first | ((first | refine C2 _ ?_ ?_ | refine Az ?_ ?_ ?_ | refine MM ?_ | refine Ay ?_ ?_ ?_) <;> ac_rfl))
 |(focus show PG _ _ _;first | ((first | refine yp ?_ ?_ ?_ | refine MO ?_ ?_ ?_ ?_ | refine MN ?_ ?_) <;> ac_rfl))
 |(focus show PW _ _ _;first | ((first | refine Rk ?_ ?_ | refine Mr ?_ | refine Ms ?_ ?_ | refine Hy ?_) <;> ac_rfl))
 |((first | refine M3 ?_ ?_ ?_ | refine AE ?_ ?_ ?_) <;> ac_rfl)
 |(refine HK ?_<;>ac_rfl)
 |exact HL
 |(focus show jI _ _ _;first | exact Nx | exact Nm | exact Nq | exact Nr | exact Iq | exact Nn | exact Nw | exact No | exact RS | exact RT | exact RU | exact RV | exact RQ | exact Nt | exact Im | (refine Ip _ ?_ ?_ <;> ac_rfl) | (refine wx _ ?_ ?_ <;> ac_rfl) | (refine Ir _ ?_ ?_ <;> ac_rfl) | (refine Io _ ?_ ?_ <;> ac_rfl))
 |(focus show cz _ _ _;first | (refine pR _ ?_ <;> ac_rfl) | (refine Bm ?_ <;> ac_rfl) | (refine Bn ?_ <;> ac_rfl) | (refine Br _ ?_ <;> ac_rfl) | (refine Bs _ ?_ ?_ <;> ac_rfl) | exact Bq | exact Gn | exact Bp | (refine pf _ ?_ <;> ac_rfl) | (refine pQ _ ?_ <;> ac_rfl) | (refine xD ?_ <;> ac_rfl) | (refine xB _ ?_ ?_ <;> ac_rfl))
 |(focus show fV _ _ _ _;first | (refine xH _ ?_ ?_ <;> ac_rfl) | (refine xG _ ?_ ?_ <;> ac_rfl) | (refine vB _ ?_ ?_ ?_ <;> ac_rfl))
 |assumption
 |exact Room.mm (by assumption)
 |exact Or.inl rfl
 |exact λ_=>rfl
 |exact λ_ _=>rfl
 |exact Td (by assumption)
 |exact Vu (by assumption)
 |exact Room.units (by assumption)
 |exact Room.u100 (by assumption)
 |exact Vt (by assumption)
 |exact Te (by assumption)
 |exact LH
 |exact E9
 |exact Cc
 |(refine E6 _ ?_<;>ac_rfl)
 |(refine I0 _ ?_<;>ac_rfl)
 |(refine B9 _ ?_<;>ac_rfl)
 |exact Gd.P9
 |exact Gd.P7
 |exact Gd.P8
 |exact Gd.Jp
 |exact Gd.Go
 |exact Gd.P6
 |exact Gd.Qb
 |exact Gd.pS
 |exact Gd.Jq
 |exact Gd.Qa
 |exact Gd.Qc
 |exact PySem.F.plainAttrs_list
 |exact WG
 |exact PySem.F.slot_list_append
 |exact PySem.F.type_list_append
 |exact qj
 |exact PySem.F.slot_dict_update
 |exact PySem.F.type_dict_update
 |exact AR
 |exact PySem.F.slot_list_pop
 |exact PySem.F.type_list_pop
 |exact DM
 |exact Yt
 |exact PySem.F.type_list_remove
 |(refine AS ?_<;>ac_rfl)
 |exact⟨_,rfl⟩
 |exact⟨rfl,rfl,rfl,rfl⟩
 |with_unfolding_all rfl)
seal SJ MJ PJ AJ A1J Mi.TJ VH KR KC KO KB KL KI S1 S2 ah gb bD aB bE ba dh ge b6 vP i9 lv Hu GM iz qU l5 nZ iJ mc mm IH Kx av vr ax un bn pc pm pk i4 lQ am aE cq pW vL wz i6 i0 fq v7 Ai kN o8 Qx yQ qB dR dk hE lM j1 lL bI cU BG tE BN Bx
local macro_rules | `(tactic| infer_instance)=>`(tactic| first
 |(focus (show F0;assumption))
 |(focus show(_:Type))
 |(focus show PJ _ _ _ _ _ _;first | exact fF _ rfl | exact pI | exact fR _ rfl | exact fC _ rfl | exact rc (fF _ rfl) | exact rc (fR _ rfl) | exact fO _ rfl | exact rc (fO _ rfl) | exact O5 | ((first | refine' Jg ?_ ?_ | refine' Ry ?_ | refine' RC ?_ | refine' RF ?_ (kx ?_) | refine' RE ?_ (kx ?_) | refine' rSc (kx ?_) | refine' RD (kx ?_) | refine' RP (kx ?_) | refine' Na (kx ?_) (kx ?_) | refine' Nc (kx ?_) (kx ?_) | refine' cS ?_ | refine' Vs (kx ?_) | refine' Vr (kx ?_) (kx ?_) | refine' Rl ?_ ?_ | refine' Mx ?_ ?_ | refine' HB ?_ | refine' RL (kx ?_) ?_ | refine' Nk (kx ?_) ?_ | refine' Nl ?_ (kx ?_) | refine' Ik ?_ (kx ?_) | refine' Ij ?_ (kx ?_) ?_ | refine' RM ?_ ?_ | refine' Ih ?_ | refine' RG (kx ?_) (kx ?_) | refine' RN (kx ?_) | refine' Ng (kx ?_) | refine' Di (kx ?_) | refine' Nf ?_ | refine' Ii ?_ | refine' M6 ?_ | refine' Nj ?_ (kx ?_) | refine' Rz ?_ (kx ?_) | refine' M9 (kx ?_) (kx ?_) | refine' Nb (kx ?_) (kx ?_) | refine' M8 ?_ (kx ?_) | refine' RB (kx ?_) | refine' RO (kx ?_) ?_) <;> infer_instance) | (refine' M7 ?_ (kx ?_) (kx ?_) <;> infer_instance) | (refine' Vg (fx (M7 ?_ (kx ?_) (kx ?_))) <;> infer_instance) | (refine' M0 (by assumption) ?_ ?_ <;> infer_instance) | (refine' MH (by assumption) ?_ ?_ ?_ <;> infer_instance) | (refine' Vh (kx ?_) <;> infer_instance) | (refine' RH ?_ ?_ ?_ <;> infer_instance) | exact pN | exact pB | exact pT | (refine' Ni ?_ ?_ rfl rfl <;> infer_instance) | (refine' Ic (by assumption) ?_ ?_ <;> infer_instance) | (refine' HM (by assumption) ?_ ?_ ?_ <;> infer_instance) | (refine' MI (by assumption) ?_ ?_ <;> infer_instance) | (refine' I9 ?_ <;> infer_instance) | (refine' yM ?_ <;> infer_instance) | (refine' OZ ?_ <;> infer_instance) | exact Mt | exact RJ | exact RK | (refine' Dl ?_ (by decide) ?_ ?_ <;> infer_instance) | (refine' Dj ?_ (by decide) ?_ ?_ <;> infer_instance) | (refine' Dk ?_ (by decide) ?_ ?_ <;> infer_instance) | (refine' Il ?_ ?_ rfl (by decide) ?_ ?_ <;> infer_instance) | (refine' Rx ?_ (kx ?_) <;> infer_instance) | (refine' RA ?_ <;> infer_instance) | (refine' oF ?_ <;> infer_instance) | (refine' fu ?_ <;> infer_instance) | (refine' rc ?_ <;> infer_instance))
 |exact Uj
 |(refine' Qi ?_ ?_<;>infer_instance)
 |(focus show SJ _ _ _ _ _ _ _;first | exact QV | ((first | refine' QS ?_ ?_ | refine' U5 ?_ ?_ ?_ | refine' QT ?_ | refine' Mh ?_ | refine' Q5 ?_ ?_ ?_ ?_ | refine' Ml ?_ (kx ?_) ?_ | refine' Mb ?_ (kx ?_) ?_) <;> infer_instance) | (refine' L7 ?_ rfl rfl <;> infer_instance) | (refine' L6 ?_ rfl rfl <;> infer_instance) | exact Hq | (refine' Me ?_ ?_ rfl rfl ?_ <;> infer_instance) | (refine' Mf ?_ ?_ rfl rfl ?_ <;> infer_instance) | (refine' Ho _ ?_ ?_ <;> infer_instance) | (refine' Hr ?_ ?_ rfl rfl rfl <;> infer_instance) | exact L8 λ_ _ _=>Rb)
 |(focus show MJ _ _ _ _ _ _;first | ((first | refine' upP ?_ | refine' EA ?_ ?_ | refine' Ef ?_ ?_ | refine' OH ?_ (kx ?_) | refine' IU ?_ (kx ?_) | refine' Ej ?_ (kx ?_) | refine' IP ?_ (kx ?_) | refine' Eh ?_ (kx ?_)) <;> infer_instance) | (refine' Os (by assumption) ?_ ?_ ?_ (by decide) (by decide) <;> infer_instance) | exact Vp rfl | (refine' Ot (by assumption) ?_ ?_ (by decide) (by decide) <;> infer_instance) | (refine' IF (by assumption) ?_ ?_ ?_ ?_ <;> infer_instance) | (refine' ID (by assumption) ?_ ?_ ?_ ?_ ?_ <;> infer_instance))
 |(focus show TJ _ _ _ _ _ _;first | (refine' tg2 ?_ ?_ <;> infer_instance) | exact tgF rfl rfl | exact tgR rfl rfl | exact UT rfl rfl)
 |(focus show A1J _ _ _ _ _ _;first | (refine' aK ?_ <;> infer_instance) | (refine' aF ?_ <;> infer_instance) | (refine' aU ?_ <;> infer_instance) | exact aO)
 |(focus show S2 _ _ _;first | exact QY | exact Mg | exact Q8 | exact QQ | exact U0 | exact U6 | exact UZ | exact UX | exact U8 | exact Q4 | exact QX | exact Mj | exact Mc | exact U7 | exact Ma | exact QR)
 |((first | refine' Vk ?_ ?_ ?_ ?_ | refine' Vj ?_ ?_) <;> infer_instance)
 |(refine' Vf ?_ ?_ rfl rfl<;>infer_instance)
 |exact Vd rfl
 |(refine' Ve ?_<;>infer_instance)
 |exact Vi rfl
 |exact OW
 |exact rfl
 |assumption
 |exact trivial
 |exact⟨rfl,trivial⟩
 |exact⟨trivial,trivial⟩
 |exact⟨rfl,trivial,trivial⟩
 |exact⟨rfl,trivial,trivial,trivial⟩
 |exact⟨rfl,trivial,trivial,trivial,trivial⟩
 |exact⟨trivial,trivial,trivial⟩
 |exact⟨rfl,rfl,trivial,trivial,trivial⟩
 |exact Or.inl rfl
 |exact Or.inr rfl
 |exact QW
 |decide)
local macro_rules | `(tactic| and_intros)=>`(tactic| (have h:=tx0 (by assumption);cases h;refine ⟨?_,?_,show PSs _ (_::_) _ from ?_⟩;rotate_left;infer_instance;ac_rfl))
theorem Km(T:eI K g):CalC P w K g b 240 "Guild" 1 (g6 K SW AX):=
 T.calC 0 0 0 0 rfl (g8 ["self","size"] [] rfl)
abbrev Q6:Stmt:=HD.iC (HD.top PySem.Challenge.pw_heraldways_k19_whole_a_plain_guild_comes 12) 13
theorem FK:CompSc (a6 Q6) (Gd.rN (Gd.BY (Gd.nth (cM Q6) 0))) "b" ["pairs","a"]:=by ac_rfl
theorem Sg(T:eI K g):CalM P w K g b 240 "houses_paired" 1 (gZ (ie K) SV (KO (ie K) (.ct .fz)) OL):=by
 have:=FK
 exact T.calM 1 1 rfl (Kn ["self","pairs","a"] [] rfl)
abbrev UY:Stmt:=HD.iC (HD.top PySem.Challenge.pw_heraldways_k19_whole_a_plain_guild_comes 12) 15
theorem FJ:CompSc (a6 UY) { kind:=.function,names:=[ (".0",.local),("b",.local),("a",.free),("self",.free)],isGenerator:=false,isCoroutine:=false,more:=[]:PySem.Scope } "b" ["a","self"]:=by ac_rfl
theorem Sa(T:eI K g):CalM P w K g b 240 "shuns_one_of" 1 (g6 K SG OC):=by
 have:=FJ
 exact T.calM 2 2 rfl (g8 ["self","a","houses"] [] rfl)
theorem Ki(T:eI K g):CalM P w K g b 240 "size" 1 (g6 K SF my):=
 T.calM 3 3 rfl (g8 ["self"] [] rfl)
theorem R0(T:eI K g):CalM P w K g b 397 "first_of_line" 1 (g6 K Sx Ox):=
 T.calM 4 4 rfl (g8 ["self","pair"] [.F] rfl)
theorem RZ(T:eI K g):CalM P w K g b 397 "forget" 1 (g6 K Sw IM):=
 T.calM 5 5 rfl (g8 ["self","writer","receiver"] [] rfl)
theorem Dv(T:eI K g):CalM P w K g b 397 "write_road" 1 (g6 K Oo ud):=
 T.calM 6 6 rfl (g8 ["self","writer","receiver","road"] [.F] rfl)
theorem NK(T:eI K g):CalN P w K g b "_law_cell_at" 1 (g6 K Oi nr):=
 T.calN 7 2 rfl (g8 ["script","k"] [] rfl)
theorem NE(T:eI K g):CalN P w K g b "_law_ways_by" 1 (gZ (ie K) Od (KO (ie K) (.ct .fz)) Ep):=
 T.calN 8 3 rfl (Kn ["cell","size","seed","ways","k","a","b"] [.F,.O (.ct .fz),.F,.F,.F] rfl)
theorem Ds(T:eI K g):CalN P w K g b "_law_whole" 1 (g6 K Oc yy):=
 T.calN 9 4 rfl (g8 ["found"] [] rfl)
theorem ND(T:eI K g):CalN P w K g b "_law_wide_by" 1 (gZ (ie K) Oa (KO (ie K) (.ct .fz)) Eo):=
 T.calN 10 5 rfl (Kn ["cell","size","ways","mid","b","a","far"] [.O (.ct .fz),.F,.F,.F,.F] rfl)
theorem NN(T:eI K g):CalN P w K g b "best_road" 1 (g6 K Om Ey):=
 T.calN 11 6 rfl (g8 ["house","standings","best"] [.F] rfl)
theorem Dt(T:eI K g):CalN P w K g b "copied" 1 (g6 K Ol yA):=
 T.calN 12 7 rfl (g8 ["road"] [] rfl)
theorem NA(T:eI K g):CalN P w K g b "require_within" 1 (g6 K N7 El):=
 T.calN 13 8 rfl (g8 ["houses","count"] [] rfl)
theorem nc(T:eI K g):CalM P w K g b 240 "require_houses" 2 (g6 K SL rH):=by
 have:=NA P w b T
 exact T.calM 14 7 rfl (g8 ["self","houses"] [] rfl)
abbrev JY:Stmt:=HD.iC (HD.top PySem.Challenge.pw_heraldways_k19_whole_a_plain_guild_comes 19) 4
theorem Bk:CompSc (a6 JY) (Gd.rN (Gd.BY (Gd.nth (cM JY) 0))) "pair" ["self"]:=by ac_rfl
theorem Dw(T:eI K g):CalM P w K g b 397 "waiting" 2 (gZ (ie K) Op (KO (ie K) (.ct .fz)) yB):=by
 have:=Dt P w b T
 have:=Bk
 exact T.calM 15 8 rfl (Kn ["self"] [] rfl)
theorem NL(T:eI K g):CalN P w K g b "_law_by_ways" 2 (g6 K Oj Ev):=by
 have:=Ds P w b T
 exact T.calN 16 9 rfl (g8 ["road","house","ways","k","pair"] [.F,.F] rfl)
theorem NC(T:eI K g):CalN P w K g b "may_take" 2 (g6 K N9 En):=by
 have:=Sa P w b T
 exact T.calN 17 10 rfl (g8 ["guild","house","road"] [] rfl)
theorem Se(T:eI K g):CalM P w K g b 240 "like" 3 (g6 K SR OG):=by
 have:=nc P w b T
 exact T.calM 18 9 rfl (g8 ["self","a","b","rank"] [] rfl)
theorem Sd(T:eI K g):CalM P w K g b 240 "liking" 3 (g6 K SQ OF):=by
 have:=nc P w b T
 exact T.calM 19 10 rfl (g8 ["self","a","b"] [] rfl)
theorem Kk(T:eI K g):CalM P w K g b 240 "neighbours" 3 (gZ (ie K) SN (KO (ie K) (.ct .fz)) IT):=by
 have:=nc P w b T
 have:=Sg P w b T
 exact T.calM 20 11 rfl (Kn ["self","a"] [] rfl)
theorem Kj(T:eI K g):CalM P w K g b 240 "require_long_road" 3 (g6 K SK IS):=by
 have:=nc P w b T
 exact T.calM 21 12 rfl (g8 ["self","road"] [] rfl)
theorem Dr(T:eI K g):CalM P w K g b 240 "require_two_houses" 3 (g6 K SI Ei):=by
 have:=nc P w b T
 exact T.calM 22 13 rfl (g8 ["self","a","b"] [] rfl)
theorem R9(T:eI K g):CalM P w K g b 240 "twin" 3 (gZ (ie K) SE (KO (ie K) (.ob b7)) wJ):=by
 have:=Km P w b T
 exact T.calM 23 14 rfl (Kn ["self","other"] [.O (.ob b7)] rfl)
theorem Kf(T:eI K g):CalM P w K g b 397 "road" 3 (g6 K Ss AW):=by
 have:=nc P w b T
 have:=Dt P w b T
 exact T.calM 24 15 rfl (g8 ["self","a"] [] rfl)
theorem Kl(T:eI K g):CalM P w K g b 240 "lay_way" 4 (g6 K SU IV):=by
 have:=Dr P w b T
 exact T.calM 25 16 rfl (g8 ["self","a","b"] [] rfl)
theorem Sf(T:eI K g):CalM P w K g b 240 "lift_way" 4 (g6 K SS OJ):=by
 have:=Dr P w b T
 exact T.calM 26 17 rfl (g8 ["self","a","b"] [] rfl)
theorem Sc(T:eI K g):CalM P w K g b 240 "rank_of" 4 (g6 K SM OE):=by
 have:=Kj P w b T
 have:=Sd P w b T
 exact T.calM 27 18 rfl (g8 ["self","road","wish_rank"] [.F] rfl)
theorem Sb(T:eI K g):CalM P w K g b 240 "shun" 4 (g6 K SH OD):=by
 have:=Dr P w b T
 exact T.calM 28 19 rfl (g8 ["self","a","b"] [] rfl)
theorem R8(T:eI K g):CalM P w K g b 240 "wish" 4 (g6 K SD OA):=by
 have:=Kj P w b T
 exact T.calM 29 20 rfl (g8 ["self","road","rank"] [] rfl)
theorem Du(T:eI K g):CalM P w K g b 397 "write_to_all" 4 (g6 K On g9):=by
 have:=Kk P w b T
 have:=Dv P w b T
 exact T.calM 30 21 rfl (g8 ["self","writer","receiver"] [.F] rfl)
theorem NH(T:eI K g):CalN P w K g b "_law_good" 4 (g6 K Og Et):=by
 have:=Kf P w b T
 have:=NL P w b T
 exact T.calN 31 11 rfl (g8 ["post","ways","size","a","road","b","one","other"] [.R,.F,.R,.F,.F] rfl)
theorem NF(T:eI K g):CalN P w K g b "_law_lengths" 4 (g6 K Oe Er):=by
 have:=Kf P w b T
 exact T.calN 32 12 rfl (g8 ["post","steps","size","a","road"] [.F,.F] rfl)
theorem NB(T:eI K g):CalN P w K g b "nearest" 4 (gZ (ie K) N8 (KO (ie K) (.ct .fz)) Em):=by
 have:=Ki P w b T
 have:=Kk P w b T
 exact T.calN 33 13 rfl (Kn ["guild","counts","reached","house","neighbour"] [.O (.ct .fz),.O (.ct .fz),.F,.F] rfl)
abbrev QU:Stmt:=HD.iC (HD.top PySem.Challenge.pw_heraldways_k19_whole_a_plain_guild_comes 19) 0
theorem FI:CompSc (a6 QU) (Gd.rN (Gd.BY (Gd.nth (cM QU) 6))) "house" []:=by ac_rfl
theorem R7(T:eI K g):CalC P w K g b 397 "Post" 5 (g6 K SC wI):=by
 have:=R9 P w b T
 have:=Ki P w b T
 have:=Du P w b T
 have:=FI
 exact T.calC 34 22 1 1 rfl (g8 ["self","guild"] [] rfl)
theorem Kg(T:eI K g):CalM P w K g b 397 "choose_anew" 5 (g6 K Sz Eg):=by
 have:=NN P w b T
 have:=Du P w b T
 exact T.calM 35 23 rfl (g8 ["self","house","road"] [.F] rfl)
theorem RX(T:eI K g):CalM P w K g b 397 "rise" 5 (g6 K Su Ou):=by
 have:=Kl P w b T
 have:=Dv P w b T
 exact T.calM 36 24 rfl (g8 ["self","a","b"] [] rfl)
theorem NG(T:eI K g):CalN P w K g b "_law_guild_by" 5 (gZ (ie K) Of (KO (ie K) (.ob b7)) yz):=by
 have:=Km P w b T
 have:=Kl P w b T
 have:=Se P w b T
 have:=R8 P w b T
 have:=Sb P w b T
 exact T.calN 37 14 rfl (Kn ["size","ways","fond","dear","shy","guild","a","b","pair","key"] [.O (.ob b7),.R,.R,.R,.R] rfl)
theorem Nz(T:eI K g):CalN P w K g b "standing" 5 (g6 K N6 Ek):=by
 have:=Sc P w b T
 exact T.calN 38 15 rfl (g8 ["guild","road"] [] rfl)
theorem R5(T:eI K g):CalM P w K g b 397 "fall" 6 (g6 K Sy Oy):=by
 have:=Sf P w b T
 have:=RZ P w b T
 have:=Kg P w b T
 exact T.calM 39 25 rfl (g8 ["self","a","b"] [] rfl)
theorem RY(T:eI K g):CalM P w K g b 397 "hear" 6 (g6 K Sv Ov):=by
 have:=NC P w b T
 have:=Nz P w b T
 exact T.calM 40 26 rfl (g8 ["self","writer","receiver","road"] [] rfl)
theorem Kh(T:eI K g):CalM P w K g b 397 "carry" 7 (g6 K SB IN):=by
 have:=nc P w b T
 have:=RY P w b T
 have:=Kg P w b T
 exact T.calM 41 27 rfl (g8 ["self","a","b"] [] rfl)
theorem R6(T:eI K g):CalM P w K g b 397 "carry_next" 8 (g6 K SA Oz):=by
 have:=R0 P w b T
 have:=Kh P w b T
 exact T.calM 42 28 rfl (g8 ["self","pair"] [.F] rfl)
theorem NI(T:eI K g):CalN P w K g b "_law_deed_done" 8 (g6 K Oh Eu):=by
 have:=Dw P w b T
 have:=R5 P w b T
 have:=RX P w b T
 have:=Kh P w b T
 exact T.calN 43 16 rfl (g8 ["post","ways","size","cell","a","b","line","pair","pick"] [.F,.F,.F,.F,.F] rfl)
theorem NO(T:eI K g):CalM P w K g b 397 "settle" 9 (g6 K Oq Ez):=by
 have:=R6 P w b T
 exact T.calM 44 29 rfl (g8 ["self","most","carried"] [.F] rfl)
theorem NM(T:eI K g){d:FuncData}(F:Fun K "law" "law" (HD.top PySem.Challenge.pw_heraldways_k19_whole_a_plain_guild_comes 32) 478 d):FnOk P w K g b tj 10 478 d ["script"] (g6 K DN Ew):=by
 have:=NK P w b T
 have:=NE P w b T
 have:=ND P w b T
 have:=R7 P w b T
 have:=NG P w b T
 have:=NI P w b T
 have:=NO P w b T
 have:=Ds P w b T
 have:=Dw P w b T
 have:=NB P w b T
 have:=NH P w b T
 have:=NF P w b T
 exact S9 F (g8 (M:=DN) ["script","size","ways","post","cell","found","steps"] [.F,.O (.ct .fz),.O (.ob cw),.F,.F,.F] rfl)
end
end K19
namespace K19
open PySem L2 Mi Cl
noncomputable section
structure GΩ where
 hω:Int
 U:(DI Bool)
 lω:(DI Int)
 sω:(DI Bool)
 wω:(DI Int)
def ag:GΩ->D:=λg=>.obj 0 ["house_count","ways","likings","shuns","wish_ranks"] [D.int g.hω,(bp D.bl) g.U,(bp D.int) g.lω,(bp D.bl) g.sω,(bp D.int) g.wω]
structure PostT where
 guild:GΩ
 roads:(List (Option (List Int)))
 told_last:(DI (Option (List Int)))
 written_last:(DI (Option (List Int)))
 letters:(DI (Option (List Int)))
 standings:(List (DJ (Int×Int×(List Int))))
def aP:PostT->D:=λg=>.obj 1 ["guild","roads","told_last","written_last","letters","standings"] [ag g.guild,(eL (eO (eL D.int))) g.roads,(bp (eO (eL D.int))) g.told_last,(bp (eO (eL D.int))) g.written_last,(bp (eO (eL D.int))) g.letters,(eL (lx (wZ D.int D.int (eL D.int)))) g.standings]
theorem bF(g:GΩ):SimR D.int (bv 0 "house_count" (ag g)) (.ok g.hω):=rfl
theorem dI(g:GΩ):SimR (bp D.bl) (bv 0 "ways" (ag g)) (.ok g.U):=rfl
theorem fY(g:GΩ):SimR (bp D.int) (bv 0 "likings" (ag g)) (.ok g.lω):=rfl
theorem iq(g:GΩ):SimR (bp D.bl) (bv 0 "shuns" (ag g)) (.ok g.sω):=rfl
theorem lP(g:GΩ):SimR (bp D.int) (bv 0 "wish_ranks" (ag g)) (.ok g.wω):=rfl
theorem cH(g:PostT):SimR ag (bv 1 "guild" (aP g)) (.ok g.guild):=rfl
theorem fP(g:PostT):SimR (eL (eO (eL D.int))) (bv 1 "roads" (aP g)) (.ok g.roads):=rfl
theorem ip(g:PostT):SimR (bp (eO (eL D.int))) (bv 1 "written_last" (aP g)) (.ok g.written_last):=rfl
theorem cK(g:PostT):SimR (bp (eO (eL D.int))) (bv 1 "letters" (aP g)) (.ok g.letters):=rfl
def f7(size:Int):Res GΩ:=if 1<=size/\size<=60 then .ok ⟨size,[],[],[],[]⟩ else .bad
theorem jb(size:Int):SimR ag (f8 0 AX [.int size]) (f7 size):=by
 unfold f7;by_cases h:1<=size/\size<=60
 · rw[VL h];have b:¬ size<1:=by omega
   have a:¬ 60<size:=by omega
   show f8 0 AX [.int size]=_;unfold f8 AX Mi.run;rw[Ed];simp[ah,gb,av,vL,cq,bn,ax,rg,GT,b,a,ba,b6,lO,bV,kN,aT];rfl
 ·rw[on h];trivial
structure S_b9 where
 vwq:GΩ
 vnq:(DI Bool)
 v0q:Int
def CJ:S_b9->P1:=λs=>[some (ag s.vwq),some ((bp D.bl) s.vnq),some (D.int s.v0q)]
abbrev Uq:=S_b9->FlC S_b9 (List Int)
def zK:Uq:=bB (aN (kE (aJ (kT 0) (aJ (λg=>.ok g.hω) (pC (·.vwq)))) (aI (uA false) (aJ b9 (g7 (pC λp=>p.2.v0q) (pC λp=>p.1))) (pC λp=>p.2.vnq)) (pC λp=>p.1)))
def Gk:Uq:=zK
def JR(b:GΩ)(a:DI Bool)(c:Int):OutC S_b9 (List Int):=bx none (Gk ⟨b,a,c⟩)
theorem TY:Cl.TJ CJ (eL D.int) K8 Gk:=aC (ac (rZ (ke (aD bF xp)) (ar (ae (tU false) (aY br (aQ xp xp)) xp)) xp))
theorem Ue(b:GΩ)(a:DI Bool)(c:Int):SimO CJ (eL D.int) (OL [ag b,(bp D.bl) a,D.int c]) (JR b a c):=iH TY rfl
structure S_m9 where
 vwq:GΩ
 v0q:Int
 vdq:(List Int)
def Cw:S_m9->P1:=λs=>[some (ag s.vwq),some (D.int s.v0q),some ((eL D.int) s.vdq)]
abbrev Um:=S_m9->FlC S_m9 Bool
def zi:Um:=bB (aN (aJ Ug (kE (pC (·.vdq)) (λ_=>.ok true) (aI (uA false) (aJ b9 (g7 (pC λp=>p.2.v0q) (pC λp=>p.1))) (aJ (λg=>.ok g.sω) (pC λp=>p.2.vwq))))))
def F8:Um:=zi
def JL(b:GΩ)(c:Int)(a:List Int):OutC S_m9 Bool:=bx none (F8 ⟨b,c,a⟩)
theorem TH:Cl.TJ Cw D.bl KW F8:=aC (ac (aD Sn (rZ (eC xp) Fl (ae (tU false) (aY br (aQ xp (bH (λ_=>rfl) xp))) (aD iq xp)))))
theorem T7(b:GΩ)(c:Int)(a:List Int):SimO Cw D.bl (OC [ag b,D.int c,(eL D.int) a]) (JL b c a):=ci TH rfl
structure S_n9 where
 vwq:GΩ
def wp:S_n9->P1:=λs=>[some (ag s.vwq)]
abbrev Ul:=S_n9->FlC S_n9 Int
def zh:Ul:=bB (aN (aJ (λg=>.ok g.hω) (pC (·.vwq))))
def F7:Ul:=zh
def JK(a:GΩ):OutC S_n9 Int:=bx none (F7 ⟨a⟩)
theorem TF:Cl.TJ wp D.int KU F7:=aC (ac (bH (λ_=>rfl) (aD bF xp)))
theorem Lr(a:GΩ):SimO wp D.int (my [ag a]) (JK a):=ci TF rfl
structure S_v9 where
 vwq:PostT
 vmq:Option (List Int)
def Cq:S_v9->P1:=λs=>[some (aP s.vwq),s.vmq.map (kg D.int)]
abbrev Uk:=S_v9->FlC S_v9 (List Int)
def y7:Uk:=wU (λs=>s.vwq.letters) (λk s=>{s with vmq:=some k})
def FZ:Uk:=ak y7
 pU
def JG(a:PostT):OutC S_v9 (List Int):=bx none (FZ ⟨a,none⟩)
theorem Tu:Cl.TJ Cq (kg D.int) KG FZ:=aa (BM (λs=>⟨_,rfl,rfl⟩) (λ_=>(by decide:1<2)) (λ_ _=>rfl))
 gv
theorem T2(a:PostT):SimO Cq (kg D.int) (Ox [aP a]) (JG a):=ci Tu rfl
structure S_w9 where
 vwq:PostT
 vDq:Int
 vsq:Int
def Cp:S_w9->P1:=λs=>[some (aP s.vwq),some (D.int s.vDq),some (D.int s.vsq)]
abbrev Gs:=S_w9->FlC S_w9 Unit
def sv:Gs:=aA (ji (λs=>some s.vwq.letters) (λs y=>{s with vwq:={s.vwq with letters:=y}}) (aJ b9 (g7 (pC (·.vDq)) (pC (·.vsq)))))
def sr:Gs:=aA (ji (λs=>some s.vwq.told_last) (λs y=>{s with vwq:={s.vwq with told_last:=y}}) (aJ b9 (g7 (pC (·.vDq)) (pC (·.vsq)))))
def sn:Gs:=aA (ji (λs=>some s.vwq.written_last) (λs y=>{s with vwq:={s.vwq with written_last:=y}}) (aJ b9 (g7 (pC (·.vDq)) (pC (·.vsq)))))
def sm:Gs:=aA (qt (gI (λs=>some s.vwq.standings) (λs=>some s.vsq)) (pI (λs=>some s.vwq.standings) (λs y=>{s with vwq:={s.vwq with standings:=y}}) (λs=>some s.vsq)) (pC (·.vDq)))
def FY:Gs:=ak sv
 (ak sr
 (ak sn
 sm))
def GC(c:PostT)(b:Int)(a:Int):OutC S_w9 Unit:=bx (some ()) (FY ⟨c,b,a⟩)
theorem Tt:Cl.TJ Cp eN KF FY:=aa (aj (ni (λ_=>rfl) (λ_ _=>rfl) (aY br (aQ xp xp))))
 (aa (aj (ni (λ_=>rfl) (λ_ _=>rfl) (aY br (aQ xp xp))))
 (aa (aj (ni (λ_=>rfl) (λ_ _=>rfl) (aY br (aQ xp xp))))
 (aj (yt (UI (λ_=>rfl) (nE (λ_=>rfl))) (Vv (λ_=>rfl) (λ_ _=>rfl) (nE (λ_=>rfl))) xp))))
theorem Lp(c:PostT)(b:Int)(a:Int):SimO Cp eN (IM [aP c,D.int b,D.int a]) (GC c b a):=cY (d:=()) rfl Tt rfl
structure S_bc9 where
 vwq:PostT
 vDq:Int
 vsq:Int
 vtq:Option (Option (List Int))
def yl:S_bc9->P1:=λs=>[some (aP s.vwq),some (D.int s.vDq),some (D.int s.vsq),s.vtq.map (eO (eL D.int))]
abbrev qO:=S_bc9->FlC S_bc9 Unit
def oZ:qO:=bK (λa s=>{s with vtq:=some a}) (aN (aI ja (aJ (λg=>.ok g.roads) (pC (·.vwq))) (pC (·.vDq))))
def kB:qO:=J0 ()
def oY:qO:=ic (aN (aI (mD false) (aI Lm (aJ (λg=>.ok g.written_last) (pC (·.vwq))) (aJ b9 (g7 (pC (·.vDq)) (pC (·.vsq))))) (vC (·.vtq))))
 kB
 bz
def vf:qO:=kh (λs=>some s.vwq.written_last) (λs y=>{s with vwq:={s.vwq with written_last:=y}}) (aJ b9 (g7 (pC (·.vDq)) (pC (·.vsq)))) (aN (vC (·.vtq)))
def ve:qO:=kh (λs=>some s.vwq.letters) (λs y=>{s with vwq:={s.vwq with letters:=y}}) (aJ b9 (g7 (pC (·.vDq)) (pC (·.vsq)))) (aN (vC (·.vtq)))
def xy:qO:=ak oZ
 (ak oY
 (ak vf
 ve))
def qS(c:PostT)(b:Int)(a:Int):OutC S_bc9 Unit:=bx (some ()) (xy ⟨c,b,a,none⟩)
theorem Pv:Cl.TJ yl eN Ea xy:=aa (xs (ac (ae dg (aD fP xp) xp)))
 (aa (bf (ac (ar (ae (DC (FG (yY jd) (n5 _)) (by decide) false) (Fo (aD ip xp) (aY br (aQ xp xp))) xv)))
 (GU rfl)
 aG)
 (aa (fo (λ_=>rfl) (λ_ _=>rfl) (aY br (aQ xp xp)) (ac xv))
 (fo (λ_=>rfl) (λ_ _=>rfl) (aY br (aQ xp xp)) (ac xv))))
theorem xa(c:PostT)(b:Int)(a:Int):SimO yl eN (ud [aP c,D.int b,D.int a]) (qS c b a):=cY (d:=()) rfl Pv rfl
structure S_bi9 where
 vuq:(List Int)
 veq:Int
def yg:S_bi9->P1:=λs=>[some (eS s.vuq),some (D.int s.veq)]
abbrev zU:=S_bi9->FlC S_bi9 Int
def km:zU:=bB (aN (aI ja (pC (·.vuq)) (pC (·.veq))))
def u7:zU:=ic (aN (aI La (pC (·.veq)) (aJ i5 (pC (·.vuq)))))
 km
 bz
def u6:zU:=bB (aN (kC (0:Int)))
def xq:zU:=ak u7
 u6
def kM(a:List Int)(b:Int):OutC S_bi9 Int:=bx none (xq ⟨a,b⟩)
theorem Pp:Cl.TJ yg D.int D4 xq:=aa (bf (ac (ar (ae Dz xp (aD NW xp))))
 (aC (ac (bH (λ_=>rfl) (ae Sk xp xp))))
 aG)
 (aC (ac xk))
theorem pe(a:List Int)(b:Int):SimO yg D.int (nr [eS a,D.int b]) (kM a b):=ci Pp rfl
structure S_bn9 where
 v4q:Int
 vyq:Int
 vvq:Option Int
 vBq:Option P0
 veq:Option Int
 v0q:Option Int
 v1q:Option Int
def yb:S_bn9->P1:=λs=>[some (D.int s.v4q),some (D.int s.vyq),s.vvq.map D.int,s.vBq.map (eL (pJ D.int D.int)),s.veq.map D.int,s.v0q.map D.int,s.v1q.map D.int]
abbrev iP:=S_bn9->FlC S_bn9 P0
def uV:iP:=bK (λa s=>{s with vvq:=some a}) (aN (aI iw (aI AQ (aI iw (aI AQ (aI i7 (pC (·.v4q)) (kC (1:Int))) (kC (48271:Int))) (kC (2147483647:Int))) (kC (16807:Int))) (kC (2147483647:Int))))
def uU:iP:=bK (λa s=>{s with vBq:=some a}) (aN (vM (i3:_->Res P0)))
def uT:iP:=bK (λa s=>{s with veq:=some a}) (aN (kC (0:Int)))
def gh:iP:=aA (E3 (λs=>s.vBq) (λs y=>{s with vBq:=some y}) pq (g7 (vC (·.v0q)) (vC (·.v1q))))
def gJ:iP:=ic (aN (aI (mD false) (aI iw (aI QP (vC (·.vvq)) (aI iw (vC (·.veq)) (kC (29:Int)))) (kC (2:Int))) (kC (1:Int))))
 gh
 bz
def gH:iP:=bK (λa s=>{s with veq:=some a}) (aN (aI i7 (vC (·.veq)) (kC (1:Int))))
def gU:iP:=ak gJ
 gH
def jr:iP:=dP (aI kT (aI i7 (vC (·.v0q)) (kC (1:Int))) (pC (·.vyq))) (λa s=>{s with v1q:=some a})
 gU
def uS:iP:=dP (aJ (kT 0) (pC (·.vyq))) (λa s=>{s with v0q:=some a})
 jr
def uR:iP:=bB (N5 (λs=>s.vBq) (λs=>{s with vBq:=none}))
def xj:iP:=ak uV
 (ak uU
 (ak uT
 (ak uS
 uR)))
def z5(b:Int)(a:Int):OutC S_bn9 P0:=bx none (xj ⟨b,a,none,none,none,none,none⟩)
theorem Pj:Cl.TJ yb (eL (pJ D.int D.int)) DZ xj:=aa (xs (ac (ae d6 (ae tT (ae d6 (ae tT (ae fB xp xk) xk) xk) xk) xk)))
 (aa (xs (ac (cO cN)))
 (aa (xs (ac xk))
 (aa (bY (ke xp) (λ_ _=>rfl)
 (bY (wX (ae fB xv xk) xp) (λ_ _=>rfl)
 (aa (bf (ac (ar (ae (dN false) (ae d6 (ae Sj xv (ae d6 xv xk)) xk) xk)))
 (aj (jS (λ_=>rfl) (λ_ _=>rfl) nO (aQ xv xv)))
 aG)
 (xs (ac (ae fB xv xk))))))
 (aC (tZ (λ_=>rfl) (λ_=>rfl))))))
theorem PM(b:Int)(a:Int):SimO yb (eL (pJ D.int D.int)) (Ep [D.int b,D.int a]) (z5 b a):=iH Pj rfl
structure S_bo9 where
 vaq:Int
def ya:S_bo9->P1:=λs=>[some (D.int s.vaq)]
abbrev Lz:=S_bo9->FlC S_bo9 Bool
def uQ:Lz:=bB (aN (lG (aJ (VA true) (pC (·.vaq))) (aJ tV (aJ (VA false) (pC (·.vaq))))))
def xi:Lz:=uQ
def vG(a:Int):OutC S_bo9 Bool:=bx none (xi ⟨a⟩)
theorem Pi:Cl.TJ ya D.bl DY xi:=aC (ac (Fp (Fn (e:=D.int) (n := "int") (b:=true) (λ_=>rfl) xp) (aD Ks (Fn (e:=D.int) (n := "bool") (b:=false) (λ_=>rfl) xp))))
theorem FP(a:Int):SimO ya D.bl (yy [D.int a]) (vG a):=ci Pi rfl
structure S_bp9 where
 v4q:Int
 vyq:Int
 vBq:Option P0
 vhq:Option Int
 v1q:Option Int
 v0q:Option Int
 v8q:Option Int
def x9:S_bp9->P1:=λs=>[some (D.int s.v4q),some (D.int s.vyq),s.vBq.map (eL (pJ D.int D.int)),s.vhq.map D.int,s.v1q.map D.int,s.v0q.map D.int,s.v8q.map D.int]
abbrev dW:=S_bp9->FlC S_bp9 P0
def oh:dW:=bK (λa s=>{s with vBq:=some a}) (aN (vM (i3:_->Res P0)))
def og:dW:=bK (λa s=>{s with vhq:=some a}) (aN (aI i7 (kC (1:Int)) (aI iw (aI j8 (pC (·.v4q)) (kC (5:Int))) (aI GY (pC (·.vyq)) (kC (1:Int))))))
def dF:dW:=bK (λa s=>{s with v0q:=some a}) (aN (aI iw (aI i7 (aI AQ (vC (·.v1q)) (kC (7:Int))) (pC (·.v4q))) (vC (·.v1q))))
def dE:dW:=bK (λa s=>{s with v8q:=some a}) (aN (aI iw (aI i7 (aI AQ (vC (·.v1q)) (kC (3:Int))) (aI j8 (pC (·.v4q)) (kC (7:Int)))) (vC (·.v1q))))
def fh:dW:=aA (E3 (λs=>s.vBq) (λs y=>{s with vBq:=some y}) pq (g7 (kC (0:Int)) (vC (·.v1q))))
def fg:dW:=bK (λa s=>{s with v0q:=some a}) (aN (aI wD (vC (·.vhq)) (vC (·.v1q))))
def ff:dW:=bK (λa s=>{s with v8q:=some a}) (aN (aI wE (vC (·.vhq)) (vC (·.v1q))))
def fc:dW:=aA (E3 (λs=>s.vBq) (λs y=>{s with vBq:=some y}) pq (g7 (vC (·.v0q)) (vC (·.v8q))))
def fe:dW:=ic (aN (aI (mD true) (vC (·.vhq)) (vC (·.v1q))))
 fc
 bz
def c7:dW:=aA (E3 (λs=>s.vBq) (λs y=>{s with vBq:=some y}) pq (g7 (vC (·.v0q)) (vC (·.v1q))))
def fi:dW:=aA (E3 (λs=>s.vBq) (λs y=>{s with vBq:=some y}) pq (g7 (vC (·.v8q)) (vC (·.v1q))))
def c6:dW:=ic (aN (lG (aI (mD false) (aI iw (aI i7 (aI AQ (vC (·.v1q)) (kC (5:Int))) (pC (·.v4q))) (kC (3:Int))) (kC (0:Int))) (aI (mD true) (vC (·.v8q)) (vC (·.v0q)))))
 fi
 bz
def dD:dW:=ic (aN (aI (mD false) (aI iw (pC (·.v4q)) (kC (5:Int))) (kC (2:Int))))
 (ak fh
 (ak fg
 (ak ff
 fe)))
 (ak c7
 c6)
def c8:dW:=ak dF
 (ak dE
 dD)
def uP:dW:=dP (aI kT (kC (1:Int)) (pC (·.vyq))) (λa s=>{s with v1q:=some a})
 c8
def uO:dW:=bB (N5 (λs=>s.vBq) (λs=>{s with vBq:=none}))
def xh:dW:=ak oh
 (ak og
 (ak uP
 uO))
def zZ(b:Int)(a:Int):OutC S_bp9 P0:=bx none (xh ⟨b,a,none,none,none,none,none⟩)
theorem Ph:Cl.TJ x9 (eL (pJ D.int D.int)) DX xh:=aa (xs (ac (cO cN)))
 (aa (xs (ac (ae fB xk (ae d6 (ae ir xp xk) (ae Dx xp xk)))))
 (aa (bY (wX xk xp) (λ_ _=>rfl)
 (aa (xs (ac (ae d6 (ae fB (ae tT xv xk) xp) xv)))
 (aa (xs (ac (ae d6 (ae fB (ae tT xv xk) (ae ir xp xk)) xv)))
 (bf (ac (ar (ae (dN false) (ae d6 xp xk) xk)))
 (aa (aj (jS (λ_=>rfl) (λ_ _=>rfl) nO (aQ xk xv)))
 (aa (xs (ac (ae qh xv xv)))
 (aa (xs (ac (ae qi xv xv)))
 (bf (ac (ar (ae (dN true) xv xv)))
 (aj (jS (λ_=>rfl) (λ_ _=>rfl) nO (aQ xv xv)))
 aG))))
 (aa (aj (jS (λ_=>rfl) (λ_ _=>rfl) nO (aQ xv xv)))
 (bf (ac (gE (ar (ae (dN false) (ae d6 (ae fB (ae tT xv xk) xp) xk) xk)) (ar (ae (dN true) xv xv))))
 (aj (jS (λ_=>rfl) (λ_ _=>rfl) nO (aQ xv xv)))
 aG))))))
 (aC (tZ (λ_=>rfl) (λ_=>rfl)))))
theorem PL(b:Int)(a:Int):SimO x9 (eL (pJ D.int D.int)) (Eo [D.int b,D.int a]) (zZ b a):=iH Ph rfl
structure S_be9 where
 vcq:Int
 vzq:(List (Int×Int×(List Int)))
 v2q:Option (Option (Int×Int×(List Int)))
def yk:S_be9->P1:=λs=>[some (D.int s.vcq),some ((eL (wZ D.int D.int (eL D.int))) s.vzq),s.v2q.map (eO (wZ D.int D.int (eL D.int)))]
abbrev pD:=S_be9->FlC S_be9 (Option (List Int))
def ky:pD:=bB (λs=>Bw ((aN (vM (d9 (kC (0:Int)) (i3:_->Res (List Int))))) s) λa s=>bndO (lJ a) s λb=>.ok b s)
def kA:pD:=ic (aN (aI (mD false) (pC (·.vcq)) (kC (0:Int))))
 ky
 bz
def oX:pD:=bK (λa s=>{s with v2q:=some a}) (aN (aJ Ky (pC (·.vzq))))
def gP:pD:=bB (λs=>Bw ((aN (kC ())) s) λa s=>bndO ((DE:Unit->Res (Option (List Int))) a) s λb=>.ok b s)
def oW:pD:=ic (aN (aJ (lm false kY) (vC (·.v2q))))
 gP
 bz
def vc:pD:=bB (λs=>Bw ((aN (aJ QL (aJ fN (vC (·.v2q))))) s) λa s=>bndO (lJ a) s λb=>.ok b s)
def xw:pD:=ak kA
 (ak oX
 (ak oW
 vc))
def Aa(b:Int)(a:List (Int×Int×(List Int))):OutC S_be9 (Option (List Int)):=bx (some none) (xw ⟨b,a,none⟩)
theorem Pt:Cl.TJ yk (eO (eL D.int)) D8 xw:=aa (bf (ac (ar (ae (dN false) xp xk)))
 (aC (jT lF (ac (cO (bS xk cN)))))
 aG)
 (aa (xs (ac (uw NT xp)))
 (aa (bf (ac (ar (d5 (hC (λ_=>rfl)) xv)))
 (aC (jT zS (ac xk)))
 aG)
 (aC (jT lF (ac (uw Vl (aY bq xv)))))))
theorem PX(b:Int)(a:List (Int×Int×(List Int))):SimO yk (eO (eL D.int)) (Ey [D.int b,(eL (wZ D.int D.int (eL D.int))) a]) (Aa b a):=cY (d:=none) rfl Pt rfl
structure S_bf9 where
 vtq:(Option (List Int))
def yj:S_bf9->P1:=λs=>[some ((eO (eL D.int)) s.vtq)]
abbrev zV:=S_bf9->FlC S_bf9 (Option (List Int))
def ku:zV:=bB (λs=>Bw ((aN (kC ())) s) λa s=>bndO ((DE:Unit->Res (Option (List Int))) a) s λb=>.ok b s)
def oV:zV:=ic (aN (aJ (lm false kY) (pC (·.vtq))))
 ku
 bz
def va:zV:=bB (λs=>Bw ((aN (aJ OY (aJ fN (pC (·.vtq))))) s) λa s=>bndO (lJ a) s λb=>.ok b s)
def xu:zV:=ak oV
 va
def qQ(a:Option (List Int)):OutC S_bf9 (Option (List Int)):=bx (some none) (xu ⟨a⟩)
theorem Ps:Cl.TJ yj (eO (eL D.int)) D7 xu:=aa (bf (ac (ar (d5 (hC (λ_=>rfl)) xp)))
 (aC (jT zS (ac xk)))
 aG)
 (aC (jT lF (ac (aD NU (aY bq (nT (L4 (we (λ_=>rfl))) xp))))))
theorem FR(a:Option (List Int)):SimO yj (eO (eL D.int)) (yA [(eO (eL D.int)) a]) (qQ a):=cY (d:=none) rfl Ps rfl
structure S_bs9 where
 vdq:(List Int)
 v5q:Int
def x6:S_bs9->P1:=λs=>[some ((eL D.int) s.vdq),some (D.int s.v5q)]
abbrev Ly:=S_bs9->FlC S_bs9 Unit
def uK:Ly:=ic (aN (Dq (aI La (aI EG (pC (·.vdq)) (kC (0:Int))) (kC (0:Int))) (aI Vw (aI Kw (pC (·.vdq)) (kC (0:Int))) (pC (·.v5q)))))
 pU
 bz
def xc:Ly:=uK
def zX(a:List Int)(b:Int):OutC S_bs9 Unit:=bx (some ()) (xc ⟨a,b⟩)
theorem Pe:Cl.TJ x6 eN DU xc:=bf (ac (fS (ar (ae Dz (ae Iw xp xk) xk)) (ar (ae Sl (ae NS xp xk) xp))))
 gv
 aG
theorem PB(a:List Int)(b:Int):SimO x6 eN (El [(eL D.int) a,D.int b]) (zX a b):=cY (d:=()) rfl Pe rfl
structure S_i9 where
 vwq:GΩ
 vdq:(List Int)
def CB:S_i9->P1:=λs=>[some (ag s.vwq),some ((eL D.int) s.vdq)]
abbrev Uo:=S_i9->FlC S_i9 Unit
def zt:Uo:=aA (aN (da zX (pC (·.vdq)) (aJ (λg=>.ok g.hω) (pC (·.vwq)))))
def Gc:Uo:=zt
def pY(b:GΩ)(a:List Int):OutC S_i9 Unit:=bx (some ()) (Gc ⟨b,a⟩)
theorem TN:Cl.TJ CB eN K1 Gc:=aj (ac (fQ (λb a=>PB b a) xp (bH (λ_=>rfl) (aD bF xp))))
theorem o9(b:GΩ)(a:List Int):SimO CB eN (rH [ag b,(eL D.int) a]) (pY b a):=cY (d:=()) rfl TN rfl
structure S_bb9 where
 vwq:PostT
def ym:S_bb9->P1:=λs=>[some (aP s.vwq)]
abbrev LA:=S_bb9->FlC S_bb9 (List (Int×Int×(Option (List Int))))
def vg:LA:=bB (aN (kE (aJ qq (aJ (λg=>.ok g.letters) (pC (·.vwq)))) (λ_=>.ok true) (g7 (aI ja (pC λp=>p.1) (kC (0:Int))) (g7 (aI ja (pC λp=>p.1) (kC (1:Int))) (mw qQ (aI QE (aJ (λg=>.ok g.letters) (pC λp=>p.2.vwq)) (pC λp=>p.1)))))))
def xz:LA:=vg
def vI(a:PostT):OutC S_bb9 (List (Int×Int×(Option (List Int)))):=bx none (xz ⟨a⟩)
theorem Pw:Cl.TJ ym (eL (wZ D.int D.int (eO (eL D.int)))) Eb xz:=aC (ac (rZ (Jh (aD cK xp)) Fl (yS (ae kX xp xk) (ae kX xp xk) (nR (λa=>FR a) (ae wy (aD cK xp) xp)))))
theorem FT(a:PostT):SimO ym (eL (wZ D.int D.int (eO (eL D.int)))) (yB [aP a]) (vI a):=iH Pw rfl
structure S_bh9 where
 vtq:(Option (List Int))
 vcq:Int
 vBq:P0
 veq:Option Int
 vmq:Option (Int×Int)
def yh:S_bh9->P1:=λs=>[some ((eO (eL D.int)) s.vtq),some (D.int s.vcq),some ((eL (pJ D.int D.int)) s.vBq),s.veq.map D.int,s.vmq.map (pJ D.int D.int)]
abbrev kL:=S_bh9->FlC S_bh9 Bool
def sW:kL:=bB (aN (kC false))
def oM:kL:=ic (aN (Dq (aJ tV (aJ (Si false true) (pC (·.vtq)))) (Dq (aI (mD false) (aJ i5 (aJ fN (pC (·.vtq)))) (kC (0:Int))) (Dq (aI (mD true) (aI ja (aJ fN (pC (·.vtq))) (kC (0:Int))) (pC (·.vcq))) (aI (mD true) (aI ja (aJ fN (pC (·.vtq))) (aJ IB (kC (1:Int)))) (kC (0:Int)))))))
 sW
 bz
def oJ:kL:=bK (λa s=>{s with vmq:=some a}) (aN (g7 (aI wD (aI ja (aJ fN (pC (·.vtq))) (vC (·.veq))) (aI ja (aJ fN (pC (·.vtq))) (aI i7 (vC (·.veq)) (kC (1:Int))))) (aI wE (aI ja (aJ fN (pC (·.vtq))) (vC (·.veq))) (aI ja (aJ fN (pC (·.vtq))) (aI i7 (vC (·.veq)) (kC (1:Int)))))))
def oH:kL:=bB (aN (kC false))
def oI:kL:=ic (aN (Dq (aJ tV (mw vG (aI ja (aJ fN (pC (·.vtq))) (vC (·.veq))))) (aI (Tc true) (vC (·.vmq)) (pC (·.vBq)))))
 oH
 bz
def o6:kL:=ak oJ
 oI
def oK:kL:=dP (aJ (kT 0) (aI GY (aJ i5 (aJ fN (pC (·.vtq)))) (kC (1:Int)))) (λa s=>{s with veq:=some a})
 o6
def u8:kL:=bB (aN (kC true))
def xr:kL:=ak oM
 (ak oK
 u8)
def z9(c:Option (List Int))(a:Int)(b:P0):OutC S_bh9 Bool:=bx none (xr ⟨c,a,b,none,none⟩)
theorem Pq:Cl.TJ yh D.bl D5 xr:=aa (bf (ac (fS (mR (ar (uw (NP (e:=(eL D.int)) rfl (λ_=>rfl)) xp))) (fS (ar (ae (dN false) (aD dZ (aY bq xp)) xk)) (fS (ar (ae (dN true) (ae dg (aY bq xp) xk) xp)) (ar (ae (dN true) (ae dg (aY bq xp) (aD Dy xk)) xk))))))
 (aC (ac xk))
 aG)
 (aa (bY (ke (ae Dx (aD dZ (aY bq xp)) xk)) (λ_ _=>rfl)
 (aa (xs (ac (aQ (ae qh (ae dg (aY bq xp) xv) (ae dg (aY bq xp) (ae fB xv xk))) (ae qi (ae dg (aY bq xp) xv) (ae dg (aY bq xp) (ae fB xv xk))))))
 (bf (ac (fS (mR (ar (nR (λa=>FP a) (ae dg (aY bq xp) xv)))) (ar (ae (NR (w6 jd jd) (by decide)) xv xp))))
 (aC (ac xk))
 aG)))
 (aC (ac xk)))
theorem PU(c:Option (List Int))(a:Int)(b:P0):SimO yh D.bl (Ev [(eO (eL D.int)) c,D.int a,(eL (pJ D.int D.int)) b]) (z9 c a b):=ci Pq rfl
structure S_bq9 where
 vbq:GΩ
 vcq:Int
 vtq:(Option (List Int))
def x8:S_bq9->P1:=λs=>[some (ag s.vbq),some (D.int s.vcq),some ((eO (eL D.int)) s.vtq)]
abbrev zT:=S_bq9->FlC S_bq9 Bool
def cZ:zT:=bB (aN (kC false))
def iM:zT:=ic (aN (Dq (aJ (lm false kY) (pC (·.vtq))) (Dq (aI (mD false) (pC (·.vcq)) (kC (0:Int))) (aI (Tc false) (pC (·.vcq)) (aJ fN (pC (·.vtq)))))))
 cZ
 bz
def uN:zT:=bB (aN (aJ tV (kW JL (pC (·.vbq)) (pC (·.vcq)) (aJ fN (pC (·.vtq))))))
def xg:zT:=ak iM
 uN
def vF(b:GΩ)(a:Int)(c:Option (List Int)):OutC S_bq9 Bool:=bx none (xg ⟨b,a,c⟩)
theorem Pg:Cl.TJ x8 D.bl DW xg:=aa (bf (ac (fS (ar (d5 (hC (λ_=>rfl)) xp)) (fS (ar (ae (dN false) xp xk)) (ar (ae (Kt jd (by decide)) xp (aY bq xp))))))
 (aC (ac xk))
 aG)
 (aC (ac (aD Ks (lA (λ_=>rfl) (λc b a=>T7 c b a) xp xp (aY bq xp)))))
theorem PF(b:GΩ)(a:Int)(c:Option (List Int)):SimO x8 D.bl (En [ag b,D.int a,(eO (eL D.int)) c]) (vF b a c):=ci Pg rfl
structure S_e9 where
 vwq:GΩ
 v0q:Int
 v1q:Int
 vqq:Int
def CG:S_e9->P1:=λs=>[some (ag s.vwq),some (D.int s.v0q),some (D.int s.v1q),some (D.int s.vqq)]
abbrev Qq:=S_e9->FlC S_e9 Unit
def zB:Qq:=aA (aN (da pY (pC (·.vwq)) (vM (d9 (pC (·.v0q)) (d9 (pC (·.v1q)) (i3:_->Res (List Int)))))))
def zA:Qq:=kh (λs=>some s.vwq.lω) (λs y=>{s with vwq:={s.vwq with lω:=y}}) (aJ b9 (g7 (pC (·.v0q)) (pC (·.v1q)))) (aN (pC (·.vqq)))
def Gh:Qq:=ak zB
 zA
def JP(a:GΩ)(d:Int)(c:Int)(b:Int):OutC S_e9 Unit:=bx (some ()) (Gh ⟨a,d,c,b⟩)
theorem TV:Cl.TJ CG eN K5 Gh:=aa (aj (ac (cC (λ_=>rfl) (λb a=>o9 b a) xp (cO (bS xp (bS xp cN))))))
 (fo (λ_=>rfl) (λ_ _=>rfl) (aY br (aQ xp xp)) (ac xp))
theorem Ub(a:GΩ)(e:Int)(c:Int)(b:Int):SimO CG eN (OG [ag a,D.int e,D.int c,D.int b]) (JP a e c b):=cY (d:=()) rfl TV rfl
structure S_f9 where
 vwq:GΩ
 v0q:Int
 v1q:Int
def CF:S_f9->P1:=λs=>[some (ag s.vwq),some (D.int s.v0q),some (D.int s.v1q)]
abbrev Qp:=S_f9->FlC S_f9 Int
def zz:Qp:=aA (aN (da pY (pC (·.vwq)) (vM (d9 (pC (·.v0q)) (d9 (pC (·.v1q)) (i3:_->Res (List Int)))))))
def zx:Qp:=bB (aN (Le (aJ (λg=>.ok g.lω) (pC (·.vwq))) (aJ b9 (g7 (pC (·.v0q)) (pC (·.v1q)))) (kC (0:Int))))
def Gg:Qp:=ak zz
 zx
def JO(a:GΩ)(c:Int)(b:Int):OutC S_f9 Int:=bx none (Gg ⟨a,c,b⟩)
theorem TU:Cl.TJ CF D.int K4 Gg:=aa (aj (ac (cC (λ_=>rfl) (λb a=>o9 b a) xp (cO (bS xp (bS xp cN))))))
 (aC (ac (bH (λ_=>rfl) (Ji (aD fY xp) (aY br (aQ xp xp)) xk))))
theorem Ua(a:GΩ)(c:Int)(b:Int):SimO CF D.int (OF [ag a,D.int c,D.int b]) (JO a c b):=ci TU rfl
structure S_g9 where
 vwq:GΩ
 v0q:Int
def CD:S_g9->P1:=λs=>[some (ag s.vwq),some (D.int s.v0q)]
abbrev Qo:=S_g9->FlC S_g9 (List Int)
def zw:Qo:=aA (aN (da pY (pC (·.vwq)) (vM (d9 (pC (·.v0q)) (i3:_->Res (List Int))))))
def zu:Qo:=bB (aN (kW JR (pC (·.vwq)) (aJ (λg=>.ok g.U) (pC (·.vwq))) (pC (·.v0q))))
def Gf:Qo:=ak zw
 zu
def GG(a:GΩ)(b:Int):OutC S_g9 (List Int):=bx none (Gf ⟨a,b⟩)
theorem TR:Cl.TJ CD (eL D.int) K3 Gf:=aa (aj (ac (cC (λ_=>rfl) (λb a=>o9 b a) xp (cO (bS xp cN)))))
 (aC (ac (lA (λ_=>rfl) (λb a c=>Ue b a c) xp (aD dI xp) xp)))
theorem Lu(a:GΩ)(b:Int):SimO CD (eL D.int) (IT [ag a,D.int b]) (GG a b):=iH TR rfl
structure S_j9 where
 vwq:GΩ
 vtq:(List Int)
def CA:S_j9->P1:=λs=>[some (ag s.vwq),some ((eL D.int) s.vtq)]
abbrev Gv:=S_j9->FlC S_j9 Unit
def zr:Gv:=aA (aN (da pY (pC (·.vwq)) (pC (·.vtq))))
def zq:Gv:=ic (aN (aI La (aJ i5 (pC (·.vtq))) (kC (2:Int))))
 pU
 bz
def zp:Gv:=ic (aN (aI (mD true) (aI ja (pC (·.vtq)) (aJ IB (kC (1:Int)))) (kC (0:Int))))
 pU
 bz
def zo:Gv:=ic (aN (aI (mD true) (aJ rL (pC (·.vtq))) (aJ i5 (pC (·.vtq)))))
 pU
 bz
def Gb:Gv:=ak zr
 (ak zq
 (ak zp
 zo))
def GF(a:GΩ)(b:List Int):OutC S_j9 Unit:=bx (some ()) (Gb ⟨a,b⟩)
theorem TM:Cl.TJ CA eN K0 Gb:=aa (aj (ac (cC (λ_=>rfl) (λb a=>o9 b a) xp xp)))
 (aa (bf (ac (ar (ae Dz (aD dZ xp) xk)))
 gv
 aG)
 (aa (bf (ac (ar (ae (dN true) (ae dg xp (aD Dy xk)) xk)))
 gv
 aG)
 (bf (ac (ar (ae (dN true) (aD DA xp) (aD dZ xp))))
 gv
 aG)))
theorem Ls(a:GΩ)(b:List Int):SimO CA eN (IS [ag a,(eL D.int) b]) (GF a b):=cY (d:=()) rfl TM rfl
structure S_k9 where
 vwq:GΩ
 v0q:Int
 v1q:Int
def Cz:S_k9->P1:=λs=>[some (ag s.vwq),some (D.int s.v0q),some (D.int s.v1q)]
abbrev Qn:=S_k9->FlC S_k9 Unit
def zn:Qn:=aA (aN (da pY (pC (·.vwq)) (vM (d9 (pC (·.v0q)) (d9 (pC (·.v1q)) (i3:_->Res (List Int)))))))
def zm:Qn:=ic (aN (aI (mD false) (pC (·.v0q)) (pC (·.v1q))))
 pU
 bz
def Ga:Qn:=ak zn
 zm
def BD(a:GΩ)(c:Int)(b:Int):OutC S_k9 Unit:=bx (some ()) (Ga ⟨a,c,b⟩)
theorem TL:Cl.TJ Cz eN KZ Ga:=aa (aj (ac (cC (λ_=>rfl) (λb a=>o9 b a) xp (cO (bS xp (bS xp cN))))))
 (bf (ac (ar (ae (dN false) xp xp)))
 gv
 aG)
theorem FO(a:GΩ)(c:Int)(b:Int):SimO Cz eN (Ei [ag a,D.int c,D.int b]) (BD a c b):=cY (d:=()) rfl TL rfl
structure S_o9 where
 vwq:GΩ
 vlq:Option GΩ
def rh:S_o9->P1:=λs=>[some (ag s.vwq),s.vlq.map ag]
abbrev xL:=S_o9->FlC S_o9 GΩ
def sQ:xL:=bK (λa s=>{s with vlq:=some a}) (aN (HP f7 (aJ (λg=>.ok g.hω) (pC (·.vwq)))))
def sP:xL:=aA (qV (λs=>s.vlq.map (·.U)) (λs y=>{s with vlq:=s.vlq.map λo=>{o with U:=y}}) (aJ (λg=>.ok g.U) (pC (·.vwq))))
def sO:xL:=aA (qV (λs=>s.vlq.map (·.lω)) (λs y=>{s with vlq:=s.vlq.map λo=>{o with lω:=y}}) (aJ (λg=>.ok g.lω) (pC (·.vwq))))
def sN:xL:=aA (qV (λs=>s.vlq.map (·.sω)) (λs y=>{s with vlq:=s.vlq.map λo=>{o with sω:=y}}) (aJ (λg=>.ok g.sω) (pC (·.vwq))))
def sM:xL:=aA (qV (λs=>s.vlq.map (·.wω)) (λs y=>{s with vlq:=s.vlq.map λo=>{o with wω:=y}}) (aJ (λg=>.ok g.wω) (pC (·.vwq))))
def Jn:xL:=bB (N5 (λs=>s.vlq) (λs=>{s with vlq:=none}))
def F6:xL:=ak sQ
 (ak sP
 (ak sO
 (ak sN
 (ak sM
 Jn))))
def GE(a:GΩ):OutC S_o9 GΩ:=bx none (F6 ⟨a,none⟩)
theorem TD:Cl.TJ rh ag KS F6:=aa (xs (ac (wY jb (bH (λ_=>rfl) (aD bF xp)))))
 (aa (aj (rD (λs=>by cases s with|mk b a=>cases a<;>rfl) (λs y=>by cases s with|mk b a=>cases a<;>rfl) (λ_=>rfl) (aD dI xp)))
 (aa (aj (rD (λs=>by cases s with|mk b a=>cases a<;>rfl) (λs y=>by cases s with|mk b a=>cases a<;>rfl) (λ_=>rfl) (aD fY xp)))
 (aa (aj (rD (λs=>by cases s with|mk b a=>cases a<;>rfl) (λs y=>by cases s with|mk b a=>cases a<;>rfl) (λ_=>rfl) (aD iq xp)))
 (aa (aj (rD (λs=>by cases s with|mk b a=>cases a<;>rfl) (λs y=>by cases s with|mk b a=>cases a<;>rfl) (λ_=>rfl) (aD lP xp)))
 (aC (tZ (λ_=>rfl) (λ_=>rfl)))))))
theorem T6(a:GΩ):SimO rh ag (wJ [ag a]) (GE a):=iH TD rfl
structure S_z9 where
 vwq:PostT
 v0q:Int
def Cj:S_z9->P1:=λs=>[some (aP s.vwq),some (D.int s.v0q)]
abbrev Qj:=S_z9->FlC S_z9 (Option (List Int))
def y6:Qj:=aA (aN (da pY (aJ (λg=>.ok g.guild) (pC (·.vwq))) (vM (d9 (pC (·.v0q)) (i3:_->Res (List Int))))))
def yZ:Qj:=bB (aN (mw qQ (aI ja (aJ (λg=>.ok g.roads) (pC (·.vwq))) (pC (·.v0q)))))
def FV:Qj:=ak y6
 yZ
def xM(a:PostT)(b:Int):OutC S_z9 (Option (List Int)):=bx (some none) (FV ⟨a,b⟩)
theorem Tq:Cl.TJ Cj (eO (eL D.int)) KA FV:=aa (aj (ac (cC (λ_=>rfl) (λa b=>o9 a b) (aD cH xp) (cO (bS xp cN)))))
 (aC (ac (nR (λa=>FR a) (ae dg (aD fP xp) xp))))
theorem zP(a:PostT)(b:Int):SimO Cj (eO (eL D.int)) (AW [aP a,D.int b]) (xM a b):=cY (d:=none) rfl Tq rfl
structure S_c9 where
 vwq:GΩ
 v0q:Int
 v1q:Int
def CI:S_c9->P1:=λs=>[some (ag s.vwq),some (D.int s.v0q),some (D.int s.v1q)]
abbrev Gy:=S_c9->FlC S_c9 Unit
def zJ:Gy:=aA (aN (kW BD (pC (·.vwq)) (pC (·.v0q)) (pC (·.v1q))))
def zI:Gy:=ic (aN (aI (uA false) (aJ b9 (g7 (pC (·.v0q)) (pC (·.v1q)))) (aJ (λg=>.ok g.U) (pC (·.vwq)))))
 pU
 bz
def zH:Gy:=kh (λs=>some s.vwq.U) (λs y=>{s with vwq:={s.vwq with U:=y}}) (aJ b9 (g7 (pC (·.v0q)) (pC (·.v1q)))) (aN (kC true))
def zG:Gy:=kh (λs=>some s.vwq.U) (λs y=>{s with vwq:={s.vwq with U:=y}}) (aJ b9 (g7 (pC (·.v1q)) (pC (·.v0q)))) (aN (kC true))
def Gj:Gy:=ak zJ
 (ak zI
 (ak zH
 zG))
def GH(a:GΩ)(c:Int)(b:Int):OutC S_c9 Unit:=bx (some ()) (Gj ⟨a,c,b⟩)
theorem TX:Cl.TJ CI eN K7 Gj:=aa (aj (ac (lA (λ_=>rfl) (λc b a=>FO c b a) xp xp xp)))
 (aa (bf (ac (ar (ae (tU false) (aY br (aQ xp xp)) (aD dI xp))))
 gv
 aG)
 (aa (fo (λ_=>rfl) (λ_ _=>rfl) (aY br (aQ xp xp)) (ac xk))
 (fo (λ_=>rfl) (λ_ _=>rfl) (aY br (aQ xp xp)) (ac xk))))
theorem Lv(a:GΩ)(c:Int)(b:Int):SimO CI eN (IV [ag a,D.int c,D.int b]) (GH a c b):=cY (d:=()) rfl TX rfl
structure S_d9 where
 vwq:GΩ
 v0q:Int
 v1q:Int
def CH:S_d9->P1:=λs=>[some (ag s.vwq),some (D.int s.v0q),some (D.int s.v1q)]
abbrev Gx:=S_d9->FlC S_d9 Unit
def zF:Gx:=aA (aN (kW BD (pC (·.vwq)) (pC (·.v0q)) (pC (·.v1q))))
def zE:Gx:=ic (aN (aI (uA true) (aJ b9 (g7 (pC (·.v0q)) (pC (·.v1q)))) (aJ (λg=>.ok g.U) (pC (·.vwq)))))
 pU
 bz
def zD:Gx:=aA (uz (λs=>some s.vwq.U) (λs y=>{s with vwq:={s.vwq with U:=y}}) (aJ b9 (g7 (pC (·.v0q)) (pC (·.v1q)))))
def zC:Gx:=aA (uz (λs=>some s.vwq.U) (λs y=>{s with vwq:={s.vwq with U:=y}}) (aJ b9 (g7 (pC (·.v1q)) (pC (·.v0q)))))
def Gi:Gx:=ak zF
 (ak zE
 (ak zD
 zC))
def JQ(a:GΩ)(c:Int)(b:Int):OutC S_d9 Unit:=bx (some ()) (Gi ⟨a,c,b⟩)
theorem TW:Cl.TJ CH eN K6 Gi:=aa (aj (ac (lA (λ_=>rfl) (λc b a=>FO c b a) xp xp xp)))
 (aa (bf (ac (ar (ae (tU true) (aY br (aQ xp xp)) (aD dI xp))))
 gv
 aG)
 (aa (aj (rE (λ_=>rfl) (λ_ _=>rfl) (aY br (aQ xp xp))))
 (aj (rE (λ_=>rfl) (λ_ _=>rfl) (aY br (aQ xp xp))))))
theorem Ud(a:GΩ)(c:Int)(b:Int):SimO CH eN (OJ [ag a,D.int c,D.int b]) (JQ a c b):=cY (d:=()) rfl TW rfl
structure S_h9 where
 vwq:GΩ
 vtq:(List Int)
 vCq:Option (Option Int)
def CC:S_h9->P1:=λs=>[some (ag s.vwq),some ((eL D.int) s.vtq),s.vCq.map (eO D.int)]
abbrev Bz:=S_h9->FlC S_h9 Int
def sV:Bz:=aA (aN (da GF (pC (·.vwq)) (pC (·.vtq))))
def sT:Bz:=bK (λa s=>{s with vCq:=some a}) (aN (aI Tn (aJ (λg=>.ok g.wω) (pC (·.vwq))) (aJ OY (pC (·.vtq)))))
def iL:Bz:=bB (aN (kW JO (pC (·.vwq)) (aI ja (pC (·.vtq)) (kC (0:Int))) (aI ja (pC (·.vtq)) (kC (1:Int)))))
def sS:Bz:=ic (aN (aJ (lm false kY) (vC (·.vCq))))
 iL
 bz
def sR:Bz:=bB (λs=>Bw ((aN (vC (·.vCq))) s) λa s=>bndO (fN a) s λb=>.ok b s)
def Ge:Bz:=ak sV
 (ak sT
 (ak sS
 sR))
def JN(a:GΩ)(b:List Int):OutC S_h9 Int:=bx none (Ge ⟨a,b,none⟩)
theorem TQ:Cl.TJ CC D.int K2 Ge:=aa (aj (ac (cC (λ_=>rfl) (λb a=>Ls b a) xp xp)))
 (aa (xs (ac (bH (E8 (λ_=>rfl)) (Jj (aD lP xp) (aD Ko (nT (we (λ_=>rfl)) xp))))))
 (aa (bf (ac (ar (d5 (hC (λ_=>rfl)) xv)))
 (aC (ac (lA (λ_=>rfl) (λb a c=>Ua b a c) xp (bH (λ_=>rfl) (ae dg xp xk)) (bH (λ_=>rfl) (ae dg xp xk)))))
 aG)
 (aC (jT bq (ac xv)))))
theorem T9(a:GΩ)(b:List Int):SimO CC D.int (OE [ag a,(eL D.int) b]) (JN a b):=ci TQ rfl
structure S_l9 where
 vwq:GΩ
 v0q:Int
 v1q:Int
def Cy:S_l9->P1:=λs=>[some (ag s.vwq),some (D.int s.v0q),some (D.int s.v1q)]
abbrev Qm:=S_l9->FlC S_l9 Unit
def zk:Qm:=aA (aN (kW BD (pC (·.vwq)) (pC (·.v0q)) (pC (·.v1q))))
def zj:Qm:=kh (λs=>some s.vwq.sω) (λs y=>{s with vwq:={s.vwq with sω:=y}}) (aJ b9 (g7 (pC (·.v0q)) (pC (·.v1q)))) (aN (kC true))
def F9:Qm:=ak zk
 zj
def JM(a:GΩ)(c:Int)(b:Int):OutC S_l9 Unit:=bx (some ()) (F9 ⟨a,c,b⟩)
theorem TK:Cl.TJ Cy eN KY F9:=aa (aj (ac (lA (λ_=>rfl) (λc b a=>FO c b a) xp xp xp)))
 (fo (λ_=>rfl) (λ_ _=>rfl) (aY br (aQ xp xp)) (ac xk))
theorem T8(a:GΩ)(c:Int)(b:Int):SimO Cy eN (OD [ag a,D.int c,D.int b]) (JM a c b):=cY (d:=()) rfl TK rfl
structure S_p9 where
 vwq:GΩ
 vtq:(List Int)
 vqq:Int
def Cv:S_p9->P1:=λs=>[some (ag s.vwq),some ((eL D.int) s.vtq),some (D.int s.vqq)]
abbrev Ql:=S_p9->FlC S_p9 Unit
def zg:Ql:=aA (aN (da GF (pC (·.vwq)) (pC (·.vtq))))
def zf:Ql:=kh (λs=>some s.vwq.wω) (λs y=>{s with vwq:={s.vwq with wω:=y}}) (aJ OY (pC (·.vtq))) (aN (pC (·.vqq)))
def F5:Ql:=ak zg
 zf
def JJ(a:GΩ)(b:List Int)(c:Int):OutC S_p9 Unit:=bx (some ()) (F5 ⟨a,b,c⟩)
theorem TC:Cl.TJ Cv eN KQ F5:=aa (aj (ac (cC (λ_=>rfl) (λb a=>Ls b a) xp xp)))
 (fo (λ_=>rfl) (λ_ _=>rfl) (aD Ko (nT (we (λ_=>rfl)) xp)) (ac xp))
theorem T5(a:GΩ)(b:List Int)(c:Int):SimO Cv eN (OA [ag a,(eL D.int) b,D.int c]) (JJ a b c):=cY (d:=()) rfl TC rfl
structure S_bd9 where
 vwq:PostT
 vDq:Int
 vsq:Option Int
def mK:S_bd9->P1:=λs=>[some (aP s.vwq),some (D.int s.vDq),s.vsq.map D.int]
abbrev Gz:=S_bd9->FlC S_bd9 Unit
def jE:Gz:=aA (k9 qS (λa s=>{s with vwq:=a.vwq}) (pC (·.vwq)) (pC (·.vDq)) (vC (·.vsq)))
def vd:Gz:=dP (da GG (aJ (λg=>.ok g.guild) (pC (·.vwq))) (pC (·.vDq))) (λa s=>{s with vsq:=some a})
 jE
def xx:Gz:=vd
def qR(b:PostT)(a:Int):OutC S_bd9 Unit:=bx (some ()) (xx ⟨b,a,none⟩)
theorem Pu:Cl.TJ mK eN D9 xx:=bY (eC (cC (λ_=>rfl) (λb a=>Lu b a) (aD cH xp) xp)) (λ_ _=>rfl)
 (aj (d4 (λ_=>rfl) (λ_ _=>rfl) (λb a c=>xa b a c) xp xp xv))
theorem FS(b:PostT)(a:Int):SimO mK eN (g9 [aP b,D.int a]) (qR b a):=cY (d:=()) rfl Pu rfl
structure S_bk9 where
 vpq:PostT
 vBq:P0
 vyq:Int
 v0q:Option Int
 vtq:Option (Option (List Int))
 v1q:Option Int
 vkq:Option (Option (List Int))
 vlq:Option (Option (List Int))
def ye:S_bk9->P1:=λs=>[some (aP s.vpq),some ((eL (pJ D.int D.int)) s.vBq),some (D.int s.vyq),s.v0q.map D.int,s.vtq.map (eO (eL D.int)),s.v1q.map D.int,s.vkq.map (eO (eL D.int)),s.vlq.map (eO (eL D.int))]
abbrev dX:=S_bk9->FlC S_bk9 Bool
def gM:dX:=bK (λa s=>{s with vtq:=some a}) (aN (da xM (pC (·.vpq)) (vC (·.v0q))))
def oA:dX:=bB (aN (kC false))
def gL:dX:=ic (aN (lG (aI (mD false) (vC (·.v0q)) (kC (0:Int))) (aI (mD true) (vC (·.vtq)) (aJ lJ (vM (d9 (kC (0:Int)) (i3:_->Res (List Int))))))))
 oA
 bz
def oz:dX:=bB (aN (kC false))
def gK:dX:=ic (aN (lG (aJ (lm true kY) (vC (·.vtq))) (aJ tV (kW z9 (vC (·.vtq)) (vC (·.v0q)) (pC (·.vBq))))))
 oz
 bz
def iN:dX:=ak gM
 (ak gL
 gK)
def oB:dX:=dP (aJ (kT 0) (pC (·.vyq))) (λa s=>{s with v0q:=some a})
 iN
def jC:dX:=bK (λa s=>{s with vkq:=some a}) (aN (da xM (pC (·.vpq)) (vC (·.v0q))))
def jB:dX:=bK (λa s=>{s with vlq:=some a}) (aN (da xM (pC (·.vpq)) (vC (·.v1q))))
def ox:dX:=bB (aN (kC false))
def jA:dX:=ic (aN (aI (mD true) (aJ (lm false kY) (vC (·.vkq))) (aJ (lm false kY) (vC (·.vlq)))))
 ox
 bz
def ou:dX:=bB (aN (kC false))
def jz:dX:=ic (aN (lG (aJ (lm true kY) (vC (·.vkq))) (aI GO (aJ Ui (aI GY (aJ i5 (aJ fN (vC (·.vkq)))) (aJ i5 (aJ fN (vC (·.vlq)))))) (kC (1:Int)))))
 ou
 bz
def kG:dX:=ak jC
 (ak jB
 (ak jA
 jz))
def oy:dX:=dP (pC (·.vBq)) (λa s=>{s with v0q:=some a.1,v1q:=some a.2})
 kG
def u5:dX:=bB (aN (kC true))
def xn:dX:=ak oB
 (ak oy
 u5)
def z7(c:PostT)(a:P0)(b:Int):OutC S_bk9 Bool:=bx none (xn ⟨c,a,b,none,none,none,none,none⟩)
theorem Pm:Cl.TJ ye D.bl D2 xn:=aa (bY (ke xp) (λ_ _=>rfl)
 (aa (xs (ac (cC (λ_=>rfl) (λb a=>zP b a) xp (bH (λ_=>rfl) xv))))
 (aa (bf (ac (gE (ar (ae (dN false) xv xk)) (ar (ae (DC (FG (yY jd) (n5 _)) (by decide) true) xv (aY lF (cO (bS xk cN)))))))
 (aC (ac xk))
 aG)
 (bf (ac (gE (ar (d5 (hC (λ_=>rfl)) xv)) (mR (ar (rY (λb a c=>PU b a c) xv (bH (λ_=>rfl) xv) xp)))))
 (aC (ac xk))
 aG))))
 (aa (bY (eC xp) (λ_ _=>rfl)
 (aa (xs (ac (cC (λ_=>rfl) (λb a=>zP b a) xp (bH (λ_=>rfl) xv))))
 (aa (xs (ac (cC (λ_=>rfl) (λb a=>zP b a) xp (bH (λ_=>rfl) xv))))
 (aa (bf (ac (ar (ae (Ku true) (d5 (hC (λ_=>rfl)) xv) (d5 (hC (λ_=>rfl)) xv))))
 (aC (ac xk))
 aG)
 (bf (ac (gE (ar (d5 (hC (λ_=>rfl)) xv)) (ar (ae AI (aD Sq (ae Dx (aD dZ (aY bq xv)) (aD dZ (aY bq xv)))) xk))))
 (aC (ac xk))
 aG)))))
 (aC (ac xk)))
theorem PP(c:PostT)(a:P0)(b:Int):SimO ye D.bl (Et [aP c,(eL (pJ D.int D.int)) a,D.int b]) (z7 c a b):=ci Pm rfl
structure S_bm9 where
 vpq:PostT
 vAq:(List (Option Int))
 vyq:Int
 v0q:Option Int
 vtq:Option (Option (List Int))
def yc:S_bm9->P1:=λs=>[some (aP s.vpq),some ((eL (eO D.int)) s.vAq),some (D.int s.vyq),s.v0q.map D.int,s.vtq.map (eO (eL D.int))]
abbrev kK:=S_bm9->FlC S_bm9 Bool
def ju:kK:=bK (λa s=>{s with vtq:=some a}) (aN (da xM (pC (·.vpq)) (vC (·.v0q))))
def om:kK:=bB (aN (kC false))
def jt:kK:=ic (aN (aI (mD true) (aJ (lm false kY) (vC (·.vtq))) (aJ (lm false kY) (aI ja (pC (·.vAq)) (vC (·.v0q))))))
 om
 bz
def oj:kK:=bB (aN (kC false))
def js:kK:=ic (aN (lG (aJ (lm true kY) (vC (·.vtq))) (aI (mD true) (aJ i5 (aJ fN (vC (·.vtq)))) (aI i7 (aJ fN (aI ja (pC (·.vAq)) (vC (·.v0q)))) (kC (1:Int))))))
 oj
 bz
def kF:kK:=ak ju
 (ak jt
 js)
def oq:kK:=dP (aJ (kT 0) (pC (·.vyq))) (λa s=>{s with v0q:=some a})
 kF
def uW:kK:=bB (aN (kC true))
def xl:kK:=ak oq
 uW
def z6(c:PostT)(a:List (Option Int))(b:Int):OutC S_bm9 Bool:=bx none (xl ⟨c,a,b,none,none⟩)
theorem Pk:Cl.TJ yc D.bl D0 xl:=aa (bY (ke xp) (λ_ _=>rfl)
 (aa (xs (ac (cC (λ_=>rfl) (λb a=>zP b a) xp xv)))
 (aa (bf (ac (ar (ae (Ku true) (d5 (hC (λ_=>rfl)) xv) (d5 (hC (λ_=>rfl)) (ae dg xp xv)))))
 (aC (ac xk))
 aG)
 (bf (ac (gE (ar (d5 (hC (λ_=>rfl)) xv)) (ar (ae (dN true) (aD dZ (aY bq xv)) (ae fB (aY bq (ae dg xp xv)) xk)))))
 (aC (ac xk))
 aG))))
 (aC (ac xk))
theorem PN(c:PostT)(a:List (Option Int))(b:Int):SimO yc D.bl (Er [aP c,(eL (eO D.int)) a,D.int b]) (z6 c a b):=ci Pk rfl
structure S_br9 where
 vbq:GΩ
 v6q:Option (List (Option Int))
 vrq:Option (List Int)
 vcq:Option Int
 vjq:Option Int
def rj:S_br9->P1:=λs=>[some (ag s.vbq),s.v6q.map (eL (eO D.int)),s.vrq.map (eL D.int),s.vcq.map D.int,s.vjq.map D.int]
abbrev ia:=S_br9->FlC S_br9 (List (Option Int))
def oe:ia:=bK (λa s=>{s with v6q:=some a}) (λs=>Bw ((aN (aI CK (vM (d9 (kC ()) (i3:_->Res (List Unit)))) (mw JK (pC (·.vbq))))) s) λa s=>bndO ((LC:List Unit->Res (List (Option Int))) a) s λb=>.ok b s)
def n8:ia:=yE (λs=>s.v6q) (λs y=>{s with v6q:=some y}) (kC (0:Int)) (λs=>Bw ((aN (kC (0:Int))) s) λa s=>bndO (lJ a) s λb=>.ok b s)
def n6:ia:=bK (λa s=>{s with vrq:=some a}) (aN (vM (d9 (kC (0:Int)) (i3:_->Res (List Int)))))
def gG:ia:=bK (λa s=>{s with vcq:=some a}) (E3 (λs=>s.vrq) (λs y=>{s with vrq:=some y}) Ax (kC (0:Int)))
def gg:ia:=yE (λs=>s.v6q) (λs y=>{s with v6q:=some y}) (vC (·.vjq)) (λs=>Bw ((aN (aI i7 (aJ fN (aI ja (vC (·.v6q)) (vC (·.vcq)))) (kC (1:Int)))) s) λa s=>bndO (lJ a) s λb=>.ok b s)
def gf:ia:=aA (E3 (λs=>s.vrq) (λs y=>{s with vrq:=some y}) pq (vC (·.vjq)))
def eD:ia:=ic (aN (aJ (lm false kY) (aI ja (vC (·.v6q)) (vC (·.vjq)))))
 (ak gg
 gf)
 bz
def jq:ia:=dP (da GG (pC (·.vbq)) (vC (·.vcq))) (λa s=>{s with vjq:=some a})
 eD
def vp:ia:=ak gG
 jq
def uM:ia:=BH (aN (aI GO (aJ i5 (vC (·.vrq))) (kC (0:Int))))
 vp 100000
def uL:ia:=bB (N5 (λs=>s.v6q) (λs=>{s with v6q:=none}))
def xf:ia:=ak oe
 (ak n8
 (ak n6
 (ak uM
 uL)))
def zY(a:GΩ):OutC S_br9 (List (Option Int)):=bx none (xf ⟨a,none,none,none,none⟩)
theorem Pf:Cl.TJ rj (eL (eO D.int)) DV xf:=aa (xs (jT Jw (ac (ae Kq (cO (bS xk cN)) (rX (λ_=>rfl) (λa=>Lr a) xp)))))
 (aa (qW (λ_=>rfl) (λ_ _=>rfl) xk (jT lF (ac xk)))
 (aa (xs (ac (cO (bS xk cN))))
 (aa (xS (rep:=rj) (ac (ar (ae AI (aD dZ xv) xk)))
 (aa (xs (jS (λ_=>rfl) (λ_ _=>rfl) Tk xk))
 (bY (eC (cC (λ_=>rfl) (λa b=>Lu a b) xp xv)) (λ_ _=>rfl)
 (bf (ac (ar (d5 (hC (λ_=>rfl)) (ae dg xv xv))))
 (aa (qW (λ_=>rfl) (λ_ _=>rfl) xv (jT lF (ac (ae fB (aY bq (ae dg xv xv)) xk))))
 (aj (jS (λ_=>rfl) (λ_ _=>rfl) nO xv)))
 aG))) 100000)
 (aC (tZ (λ_=>rfl) (λ_=>rfl))))))
theorem PD(a:GΩ):SimO rj (eL (eO D.int)) (Em [ag a]) (zY a):=iH Pf rfl
def dq(t:GΩ)(n:Nat):PostT:=⟨t,(List.replicate n none).set 0 (some [0]),[],[],[],List.replicate n []⟩
noncomputable def jU(g:GΩ):Res PostT:=match GE g with
 | .ok t _=>if 1<=g.hω/\g.hω<=60 then (match qR (dq t g.hω.toNat) 0 with
   |.ok _ s=>.ok s.vwq
   |.exc c _=>.exc c
   |.bad=>.bad) else .bad
 |.exc c _=>.exc c
 |.bad=>.bad
theorem Aq{n:Nat}:∀k,a7 (λ_=>.ok true) (ax (.dK [] [])) [] ((List.range k).map λi:Nat=>D.int (n+i))=.ok (List.replicate k (.dK [] [])):=by
 intro k
 have a:∀l:List D,a7 (λ_=>.ok true) (ax (.dK [] [])) [] l=.ok (List.replicate l.length (.dK [] [])):=by
  intro l
  induction l with
  |nil=>rfl
  |cons d l b=>rw[a7,b];rfl
 rw[a,VO,XW]
theorem rR(g:GΩ):SimR aP (f8 1 wI [ag g]) (jU g):=by
 have a:=T6 g;have hsz:my [ag g]=.ok (.int g.hω) (wp ⟨g⟩):=Lr g;have j:a8 0 "twin" (ag g)=true:=rfl;have b:a8 0 "size" (ag g)=true:=rfl;unfold jU;cases q:GE g with
 |bad=>trivial
 |exc c s=>
   rw[q]at a;have a:wJ [ag g]=.exc c (rh s):=a;show f8 1 wI [ag g]=.exc c;unfold f8 wI Mi.run;rw[uc];simp[ah,b6,av,pm,vr,rg,aE,fk,a,j]
 |ok t s=>
   rw[q]at a;have a:wJ [ag g]=.ok (ag t) (rh s):=a;dsimp only;by_cases C:1<=g.hω/\g.hω<=60
   · rw[VL C];obtain⟨n,l⟩:∃n:Nat,g.hω=n:=⟨g.hω.toNat,by omega⟩;have L:1<=n:=by omega
     have K:n<=60:=by omega
     have A:1<=af:=by decide +kernel
     have E:60<af:=by decide +kernel
     have e1:b6 1 "guild" 0 (av (pm 0 "twin" wJ (vr 1) aE)) [some (.obj 1 [] []),some (ag g)]=.nx [some (.obj 1 ["guild"] [ag t]),some (ag g)]:=by
      simp[b6,av,pm,vr,rg,aE,fk,a,j,lO,bV]
     have X:b6 1 "roads" 0 (av (bn tN (lQ (am (ax .non) aE)) (pm 0 "size" my (vr 1) aE))) [some (.obj 1 ["guild"] [ag t]),some (ag g)]=.nx [some (.obj 1 ["guild","roads"] [ag t,.lst (List.replicate n .non)]),some (ag g)]:=by
      have J:tN (.lst [.non]) (.int g.hω)=.ok (.lst (List.replicate n .non)):=by
       have this:=Kq (e:=eN) [()] g.hω;rw[wm (by omega) (by omega) (by rw[XD];omega)]at this;have this:tN (.lst [.non]) (.int g.hω)=.ok (eL eN _):=this;rw[this,l];show Res.ok (D.lst _)=Res.ok (D.lst _);rw[show(Int.toNat (n:Int))=n from rfl]
       have r:∀k:Nat,((List.replicate k [()]).flatten.map eN)=List.replicate k D.non:=λk=>by
        induction k with
        |zero=>rfl
        |succ k H=>rw[Wn,WF,Wm,H];rfl
       rw[r]
      simp[b6,av,pm,vr,rg,aE,am,lQ,bn,ax,fk,hsz,b,J,lO,bV,A];decide
     have W:i9 (dR 1 "roads" 0) (dk "roads" 0) (ax (.int 0)) (av (lQ (am (ax (.int 0)) aE))) [some (.obj 1 ["guild","roads"] [ag t,.lst (List.replicate n .non)]),some (ag g)]=.nx [some (.obj 1 ["guild","roads"] [ag t,.lst ((List.replicate n .non).set 0 (.lst [.int 0]))]),some (ag g)]:=by
      have hi:nF n 0=some 0:=by unfold nF;simp;omega
      have v:¬ (Str.ofString "guild" = Str.ofString "roads"):=by decide
      simp[i9,dR,dk,yD,av,rg,aE,am,lQ,ax,A,aZ,cW,v,hi]
     have z:∀(ns:List Str) (vs:List D) (f:Str),ns.length<900->bV ns f=false->b6 1 f 0 (av (ax (.dT [] []))) [some (.obj 1 ns vs),some (ag g)]=.nx [some (.obj 1 (ns++[f]) (vs++[.dT [] []])),some (ag g)]:=by
      intro ns vs f y w;simp only[b6,av,ax,Res.up,fW,rg,lO];simp[y,w]
     have V:∀(ns:List Str) (vs:List D) (f:Str),ns.length<900->bV ns f=false->b6 1 f 0 (av (i6 (fq (pm 0 "size" my (vr 1) aE)) [] (λ_=>.ok true) (ax (.dK [] [])))) [some (.obj 1 ns vs),some (ag g)]=.nx [some (.obj 1 (ns++[f]) (vs++[.lst (List.replicate n (.dK [] []))])),some (ag g)]:=by
      intro ns vs f y w
      have N:i6 (fq (pm 0 "size" my (vr 1) aE)) [] (λ_=>.ok true) (ax (.dK [] [])) [some (.obj 1 ns vs),some (ag g)]=.ok (.lst (List.replicate n (.dK [] []))):=by
       have I:fq (pm 0 "size" my (vr 1) aE) [some (.obj 1 ns vs),some (ag g)]=.ok (rng 0 n):=by
        simp[fq,v7,pm,vr,rg,aE,fk,hsz,b,ax,l];omega
       unfold i6;rw[I];have M:(rng 0 (n:Int)).length=n:=by unfold rng;simp
       show(if (rng 0 (n:Int)).length<af then (a7 _ _ [] (rng 0 (n:Int))).bind λG=>Res.ok (D.lst G) else .bad)=_;rw[M,VL (by omega)]
       have:=Aq (n:=0) n
       unfold rng;rw[show((n:Int)-0).toNat=n by omega];have e0:((List.range n).map λi:Nat=>D.int ((0:Int)+i))=(List.range n).map λi:Nat=>D.int (((0:Nat):Int)+i):=rfl;rw[e0,this];rfl
      simp only[b6,av,N,Res.up,fW,rg,lO];simp[y,w]
     have P:aP (dq t n)=.obj 1 ["guild","roads","told_last","written_last","letters","standings"] [ag t,.lst ((List.replicate n .non).set 0 (.lst [.int 0])),.dT [] [],.dT [] [],.dT [] [],.lst (List.replicate n (.dK [] []))]:=by
      show D.obj 1 _ [ag t,.lst (((List.replicate n none).set 0 (some [0])).map (eO (eL D.int))),.dT [] [],.dT [] [],.dT [] [],.lst ((List.replicate n []).map (lx eK))]=_;rw[ZA,List.map_replicate,List.map_replicate];rfl
     have m:=FS (dq t n) 0;have p:a8 1 "write_to_all" (aP (dq t n))=true:=rfl
     have Q:∀o x:D,a8 1 "write_to_all" o=true->aB (mm 1 "write_to_all" [(.O 0),.F] g9 (vr 0) (am (ax (.int 0)) aE)) [some o,some x]=(match g9 [o,.int 0] with | .ok d T=>.nx (bZ [(.O 0),.F] 0 T [some o,some x]) | .exc c T=>.exc c (bZ [(.O 0),.F] 0 T [some o,some x]) | .bad=>.bad):=by
      intro o x h;simp[aB,mm,vr,rg,am,aE,ax,h,bN];cases g9 [o,.int 0]<;>rfl
     have U:f8 1 wI [ag g]=(match g9 [aP (dq t n),.int 0] with | .ok d T=>(match rg (bZ [(.O 0),.F] 0 T [some (aP (dq t n)),some (ag g)]) 0 with|some d=>.ok d|none=>.bad) | .exc c _=>.exc c | .bad=>.bad):=by
      unfold f8 wI Mi.run;rw[uc];have S:([D.obj 1 [] [],ag g].map some++List.replicate (2-[D.obj 1 [] [],ag g].length) none)=[some (.obj 1 [] []),some (ag g)]:=rfl;rw[S];simp only[ah,e1,X,W];rw[z _ _ _ (by decide) (by decide)];dsimp only;rw[z _ _ _ (by decide) (by decide)];dsimp only;rw[z _ _ _ (by decide) (by decide)];dsimp only;rw[V _ _ _ (by decide) (by decide)];have R:(D.obj 1 (((((["guild","roads"]:List Str)++[("told_last" : Str)])++[("written_last" : Str)])++[("letters" : Str)])++[("standings" : Str)]) (((([ag t,D.lst ((List.replicate n .non).set 0 (.lst [.int 0]))]++[.dT [] []])++[.dT [] []])++[.dT [] []])++[.lst (List.replicate n (.dK [] []))]))=aP (dq t n):=P.symm;dsimp only;rw[R];rw[Q _ _ p];cases g9 [aP (dq t n),.int 0] with
      |ok d T=>rfl
      |exc c T=>rfl
      |bad=>rfl
     rw[U,show g.hω.toNat=n by omega];cases B:qR (dq t n) 0 with
     |bad=>trivial
     |exc c s=>
       rw[B]at m;rw[show g9 [aP (dq t n),.int 0]=_ from m];exact rfl
     |ok u s=>
       rw[B]at m;rw[show g9 [aP (dq t n),.int 0]=_ from m];exact rfl
   ·rw[on C];trivial
structure S_t9 where
 vwq:PostT
 vcq:Int
 vtq:Option (Option (List Int))
def Cs:S_t9->P1:=λs=>[some (aP s.vwq),some (D.int s.vcq),s.vtq.map (eO (eL D.int))]
abbrev xK:=S_t9->FlC S_t9 Bool
def sG:xK:=bK (λa s=>{s with vtq:=some a}) (aN (da Aa (pC (·.vcq)) (aJ JS (vC (gI (λs=>some s.vwq.standings) (λs=>some s.vcq))))))
def mf:xK:=bB (aN (kC false))
def sF:xK:=ic (aN (aI (mD false) (vC (·.vtq)) (aI ja (aJ (λg=>.ok g.roads) (pC (·.vwq))) (pC (·.vcq)))))
 mf
 bz
def zc:xK:=yE (λs=>some s.vwq.roads) (λs y=>{s with vwq:={s.vwq with roads:=y}}) (pC (·.vcq)) (aN (vC (·.vtq)))
def y9:xK:=aA (AV qR (λa s=>{s with vwq:=a.vwq}) (pC (·.vwq)) (pC (·.vcq)))
def y8:xK:=bB (aN (kC true))
def F2:xK:=ak sG
 (ak sF
 (ak zc
 (ak y9
 y8)))
def BC(b:PostT)(a:Int):OutC S_t9 Bool:=bx none (F2 ⟨b,a,none⟩)
theorem Tw:Cl.TJ Cs D.bl KJ F2:=aa (xs (ac (fQ (λb a=>PX b a) xp (aD NQ (O7 (UI (λ_=>rfl) (nE (λ_=>rfl))))))))
 (aa (bf (ac (ar (ae (DC (FG (yY jd) (n5 _)) (by decide) false) xv (ae dg (aD fP xp) xp))))
 (aC (ac xk))
 aG)
 (aa (qW (λ_=>rfl) (λ_ _=>rfl) xp (ac xv))
 (aa (aj (nj (λ_=>rfl) (λ_ _=>rfl) (λb a=>FS b a) xp xp))
 (aC (ac xk)))))
theorem FN(b:PostT)(a:Int):SimO Cs D.bl (Eg [aP b,D.int a]) (BC b a):=ci Tw rfl
structure S_y9 where
 vwq:PostT
 v0q:Int
 v1q:Int
def Ck:S_y9->P1:=λs=>[some (aP s.vwq),some (D.int s.v0q),some (D.int s.v1q)]
abbrev JA:=S_y9->FlC S_y9 Unit
def si:JA:=aA (UF (λs=>some s.vwq.guild) (λs y=>{s with vwq:={s.vwq with guild:=y}}) (λs=>s.vwq) (ML (λb a=>.ok (b,a)) (pC (·.v0q)) (pC (·.v1q))) (λo r=>GH o r.1 r.2))
def sf:JA:=aA (k9 qS (λa s=>{s with vwq:=a.vwq}) (pC (·.vwq)) (aI wD (pC (·.v0q)) (pC (·.v1q))) (aI wE (pC (·.v0q)) (pC (·.v1q))))
def r9:JA:=aA (k9 qS (λa s=>{s with vwq:=a.vwq}) (pC (·.vwq)) (aI wE (pC (·.v0q)) (pC (·.v1q))) (aI wD (pC (·.v0q)) (pC (·.v1q))))
def FW:JA:=ak si
 (ak sf
 r9)
def JE(a:PostT)(c:Int)(b:Int):OutC S_y9 Unit:=bx (some ()) (FW ⟨a,c,b⟩)
theorem Tr:Cl.TJ Ck eN KD FW:=aa (aj (Kv (λ_=>rfl) (λ_ _=>rfl) (λ_=>rfl) (Ra (eR:=(λ(r:Int×Int)=>[D.int r.1,D.int r.2])) (k:=.ok) (f:=λe d=>.ok (e,d)) (e0:=D.int) (e1:=D.int) (λ_ _=>rfl) xp xp) (λo r=>Lv o r.1 r.2) (λ_=>rfl)))
 (aa (aj (d4 (λ_=>rfl) (λ_ _=>rfl) (λc b a=>xa c b a) xp (ae qh xp xp) (ae qi xp xp)))
 (aj (d4 (λ_=>rfl) (λ_ _=>rfl) (λc b a=>xa c b a) xp (ae qi xp xp) (ae qh xp xp))))
theorem TZ(a:PostT)(c:Int)(b:Int):SimO Ck eN (Ou [aP a,D.int c,D.int b]) (JE a c b):=cY (d:=()) rfl Tr rfl
structure S_bl9 where
 vyq:Int
 vBq:P0
 v9q:(DI Int)
 v7q:(DI Int)
 vxq:P0
 vbq:Option GΩ
 v0q:Option Int
 v1q:Option Int
 vmq:Option (List Int)
 vfq:Option (List Int)
def yd:S_bl9->P1:=λs=>[some (D.int s.vyq),some ((eL (pJ D.int D.int)) s.vBq),some ((bp D.int) s.v9q),some ((bp D.int) s.v7q),some ((eL (pJ D.int D.int)) s.vxq),s.vbq.map ag,s.v0q.map D.int,s.v1q.map D.int,s.vmq.map (kg D.int),s.vfq.map (kg D.int)]
abbrev iQ:=S_bl9->FlC S_bl9 GΩ
def ot:iQ:=bK (λa s=>{s with vbq:=some a}) (aN (HP f7 (pC (·.vyq))))
def jy:iQ:=aA (k9 GH (λa s=>{s with vbq:=some a.vwq}) (vC (·.vbq)) (vC (·.v0q)) (vC (·.v1q)))
def u4:iQ:=dP (pC (·.vBq)) (λa s=>{s with v0q:=some a.1,v1q:=some a.2})
 jy
def jx:iQ:=aA (IK JP (λa s=>{s with vbq:=some a.vwq}) (vC (·.vbq)) (aI ja (vC (·.vmq)) (kC (0:Int))) (aI ja (vC (·.vmq)) (kC (1:Int))) (aI QE (pC (·.v9q)) (vC (·.vmq))))
def u3:iQ:=dP (aJ qq (pC (·.v9q))) (λa s=>{s with vmq:=some a})
 jx
def jw:iQ:=aA (k9 JJ (λa s=>{s with vbq:=some a.vwq}) (vC (·.vbq)) (aJ OY (vC (·.vfq))) (aI QE (pC (·.v7q)) (vC (·.vfq))))
def uZ:iQ:=dP (aJ qq (pC (·.v7q))) (λa s=>{s with vfq:=some a})
 jw
def jv:iQ:=aA (k9 JM (λa s=>{s with vbq:=some a.vwq}) (vC (·.vbq)) (vC (·.v0q)) (vC (·.v1q)))
def uY:iQ:=dP (pC (·.vxq)) (λa s=>{s with v0q:=some a.1,v1q:=some a.2})
 jv
def uX:iQ:=bB (N5 (λs=>s.vbq) (λs=>{s with vbq:=none}))
def xm:iQ:=ak ot
 (ak u4
 (ak u3
 (ak uZ
 (ak uY
 uX))))
def vH(b:Int)(a:P0)(c:DI Int)(d:DI Int)(e:P0):OutC S_bl9 GΩ:=bx none (xm ⟨b,a,c,d,e,none,none,none,none,none⟩)
theorem Pl:Cl.TJ yd ag D1 xm:=aa (xs (ac (wY jb xp)))
 (aa (bY (eC xp) (λ_ _=>rfl)
 (aj (d4 (λ_=>rfl) (λ_ _=>rfl) (λc b a=>Lv c b a) xv (bH (λ_=>rfl) xv) (bH (λ_=>rfl) xv))))
 (aa (bY (eC (aD DB xp)) (λ_ _=>rfl)
 (aj (NX (λ_=>rfl) (λ_ _=>rfl) (λc b a d=>Ub c b a d) xv (bH (λ_=>rfl) (ae kX xv xk)) (bH (λ_=>rfl) (ae kX xv xk)) (bH (λ_=>rfl) (ae wy xp xv)))))
 (aa (bY (eC (aD DB xp)) (λ_ _=>rfl)
 (aj (d4 (λ_=>rfl) (λ_ _=>rfl) (λc b a=>T5 c b a) xv (aD Iv (nT (Hn (λ_=>rfl)) xv)) (bH (λ_=>rfl) (ae wy xp xv)))))
 (aa (bY (eC xp) (λ_ _=>rfl)
 (aj (d4 (λ_=>rfl) (λ_ _=>rfl) (λc b a=>T8 c b a) xv (bH (λ_=>rfl) xv) (bH (λ_=>rfl) xv))))
 (aC (tZ (λ_=>rfl) (λ_=>rfl)))))))
theorem FQ(b:Int)(a:P0)(c:DI Int)(d:DI Int)(e:P0):SimO yd ag (yz [D.int b,(eL (pJ D.int D.int)) a,(bp D.int) c,(bp D.int) d,(eL (pJ D.int D.int)) e]) (vH b a c d e):=iH Pl rfl
structure S_bt9 where
 vbq:GΩ
 vtq:(List Int)
def x5:S_bt9->P1:=λs=>[some (ag s.vbq),some ((eL D.int) s.vtq)]
abbrev Lx:=S_bt9->FlC S_bt9 (Int×Int×(List Int))
def uJ:Lx:=bB (aN (g7 (aJ IB (da JN (pC (·.vbq)) (pC (·.vtq)))) (g7 (aJ i5 (pC (·.vtq))) (pC (·.vtq)))))
def xb:Lx:=uJ
def zW(a:GΩ)(b:List Int):OutC S_bt9 (Int×Int×(List Int)):=bx none (xb ⟨a,b⟩)
theorem Pd:Cl.TJ x5 (wZ D.int D.int (eL D.int)) DT xb:=aC (ac (yS (aD Dy (cC (λ_=>rfl) (λb a=>T9 b a) xp xp)) (aD dZ xp) xp))
theorem Pz(a:GΩ)(b:List Int):SimO x5 (wZ D.int D.int (eL D.int)) (Ek [ag a,(eL D.int) b]) (zW a b):=ci Pd rfl
structure S_u9 where
 vwq:PostT
 v0q:Int
 v1q:Int
def Cr:S_u9->P1:=λs=>[some (aP s.vwq),some (D.int s.v0q),some (D.int s.v1q)]
abbrev By:=S_u9->FlC S_u9 Unit
def sE:By:=aA (UF (λs=>some s.vwq.guild) (λs y=>{s with vwq:={s.vwq with guild:=y}}) (λs=>s.vwq) (ML (λb a=>.ok (b,a)) (pC (·.v0q)) (pC (·.v1q))) (λo r=>JQ o r.1 r.2))
def sD:By:=aA (k9 GC (λa s=>{s with vwq:=a.vwq}) (pC (·.vwq)) (pC (·.v0q)) (pC (·.v1q)))
def sC:By:=aA (k9 GC (λa s=>{s with vwq:=a.vwq}) (pC (·.vwq)) (pC (·.v1q)) (pC (·.v0q)))
def sy:By:=aA (AV BC (λa s=>{s with vwq:=a.vwq}) (pC (·.vwq)) (aI wD (pC (·.v0q)) (pC (·.v1q))))
def sx:By:=aA (AV BC (λa s=>{s with vwq:=a.vwq}) (pC (·.vwq)) (aI wE (pC (·.v0q)) (pC (·.v1q))))
def F1:By:=ak sE
 (ak sD
 (ak sC
 (ak sy
 sx)))
def JH(a:PostT)(c:Int)(b:Int):OutC S_u9 Unit:=bx (some ()) (F1 ⟨a,c,b⟩)
theorem Tv:Cl.TJ Cr eN KH F1:=aa (aj (Kv (λ_=>rfl) (λ_ _=>rfl) (λ_=>rfl) (Ra (eR:=(λ(r:Int×Int)=>[D.int r.1,D.int r.2])) (k:=.ok) (f:=λe d=>.ok (e,d)) (e0:=D.int) (e1:=D.int) (λ_ _=>rfl) xp xp) (λo r=>Ud o r.1 r.2) (λ_=>rfl)))
 (aa (aj (d4 (λ_=>rfl) (λ_ _=>rfl) (λb a c=>Lp b a c) xp xp xp))
 (aa (aj (d4 (λ_=>rfl) (λ_ _=>rfl) (λb a c=>Lp b a c) xp xp xp))
 (aa (aj (nj (λ_=>rfl) (λ_ _=>rfl) (λb a=>FN b a) xp (ae qh xp xp)))
 (aj (nj (λ_=>rfl) (λ_ _=>rfl) (λb a=>FN b a) xp (ae qi xp xp))))))
theorem T3(a:PostT)(c:Int)(b:Int):SimO Cr eN (Oy [aP a,D.int c,D.int b]) (JH a c b):=cY (d:=()) rfl Tv rfl
structure S_x9 where
 vwq:PostT
 vDq:Int
 vsq:Int
 vtq:(Option (List Int))
def Co:S_x9->P1:=λs=>[some (aP s.vwq),some (D.int s.vDq),some (D.int s.vsq),some ((eO (eL D.int)) s.vtq)]
abbrev Gr:=S_x9->FlC S_x9 Unit
def sk:Gr:=kh (λs=>some s.vwq.told_last) (λs y=>{s with vwq:={s.vwq with told_last:=y}}) (aJ b9 (g7 (pC (·.vDq)) (pC (·.vsq)))) (aN (pC (·.vtq)))
def l8:Gr:=Lc (gI (λs=>some s.vwq.standings) (λs=>some s.vsq)) (pI (λs=>some s.vwq.standings) (λs y=>{s with vwq:={s.vwq with standings:=y}}) (λs=>some s.vsq)) (pC (·.vDq)) (aN (da zW (aJ (λg=>.ok g.guild) (pC (·.vwq))) (aI P5 (vM (d9 (pC (·.vsq)) (i3:_->Res (List Int)))) (aJ fN (pC (·.vtq))))))
def l9:Gr:=aA (qt (gI (λs=>some s.vwq.standings) (λs=>some s.vsq)) (pI (λs=>some s.vwq.standings) (λs y=>{s with vwq:={s.vwq with standings:=y}}) (λs=>some s.vsq)) (pC (·.vDq)))
def sj:Gr:=ic (aN (kW vF (aJ (λg=>.ok g.guild) (pC (·.vwq))) (pC (·.vsq)) (pC (·.vtq))))
 l8
 l9
def FX:Gr:=ak sk
 sj
def JF(c:PostT)(b:Int)(a:Int)(d:Option (List Int)):OutC S_x9 Unit:=bx (some ()) (FX ⟨c,b,a,d⟩)
theorem Ts:Cl.TJ Co eN KE FX:=aa (fo (λ_=>rfl) (λ_ _=>rfl) (aY br (aQ xp xp)) (ac xp))
 (bf (ac (ar (rY (λb a c=>PF b a c) (aD cH xp) xp xp)))
 (GV (UI (λ_=>rfl) (nE (λ_=>rfl))) (Vv (λ_=>rfl) (λ_ _=>rfl) (nE (λ_=>rfl))) xp (ac (fQ (λb a=>Pz b a) (aD cH xp) (ae Sm (cO (bS xp cN)) (aY bq xp)))))
 (aj (yt (UI (λ_=>rfl) (nE (λ_=>rfl))) (Vv (λ_=>rfl) (λ_ _=>rfl) (nE (λ_=>rfl))) xp)))
theorem T1(c:PostT)(b:Int)(a:Int)(e:Option (List Int)):SimO Co eN (Ov [aP c,D.int b,D.int a,(eO (eL D.int)) e]) (JF c b a e):=cY (d:=()) rfl Ts rfl
structure S_r9 where
 vwq:PostT
 v0q:Int
 v1q:Int
def Cu:S_r9->P1:=λs=>[some (aP s.vwq),some (D.int s.v0q),some (D.int s.v1q)]
abbrev Gu:=S_r9->FlC S_r9 Bool
def sL:Gu:=aA (aN (da pY (aJ (λg=>.ok g.guild) (pC (·.vwq))) (vM (d9 (pC (·.v0q)) (d9 (pC (·.v1q)) (i3:_->Res (List Int)))))))
def sK:Gu:=ic (aN (aI (uA true) (aJ b9 (g7 (pC (·.v0q)) (pC (·.v1q)))) (aJ (λg=>.ok g.letters) (pC (·.vwq)))))
 pU
 bz
def sJ:Gu:=aA (Vo JF (λa s=>{s with vwq:=a.vwq}) (λs=>some s.vwq) (pC (·.v0q)) (pC (·.v1q)) (uz (λs=>some s.vwq.letters) (λs y=>{s with vwq:={s.vwq with letters:=y}}) (aJ b9 (g7 (pC (·.v0q)) (pC (·.v1q))))))
def ze:Gu:=bB (AV BC (λa s=>{s with vwq:=a.vwq}) (pC (·.vwq)) (pC (·.v1q)))
def F4:Gu:=ak sL
 (ak sK
 (ak sJ
 ze))
def GD(a:PostT)(c:Int)(b:Int):OutC S_r9 Bool:=bx none (F4 ⟨a,c,b⟩)
theorem TB:Cl.TJ Cu D.bl KN F4:=aa (aj (ac (cC (λ_=>rfl) (λb a=>o9 b a) (aD cH xp) (cO (bS xp (bS xp cN))))))
 (aa (bf (ac (ar (ae (tU true) (aY br (aQ xp xp)) (aD cK xp))))
 gv
 aG)
 (aa (aj (Sr (λ_=>rfl) (λ_ _=>rfl) (λ_=>rfl) (λb a d c=>T1 b a d c) xp xp (rE (λ_=>rfl) (λ_ _=>rfl) (aY br (aQ xp xp)))))
 (aC (nj (λ_=>rfl) (λ_ _=>rfl) (λb a=>FN b a) xp xp))))
theorem Lq(a:PostT)(c:Int)(b:Int):SimO Cu D.bl (IN [aP a,D.int c,D.int b]) (GD a c b):=ci TB rfl
structure S_s9 where
 vwq:PostT
 vmq:Option (List Int)
def Ct:S_s9->P1:=λs=>[some (aP s.vwq),s.vmq.map (kg D.int)]
abbrev Qk:=S_s9->FlC S_s9 Bool
def sI:Qk:=bK (λa s=>{s with vmq:=some a}) (aN (mw JG (pC (·.vwq))))
def zd:Qk:=bB (k9 GD (λa s=>{s with vwq:=a.vwq}) (pC (·.vwq)) (aI ja (vC (·.vmq)) (kC (0:Int))) (aI ja (vC (·.vmq)) (kC (1:Int))))
def F3:Qk:=ak sI
 zd
def JI(a:PostT):OutC S_s9 Bool:=bx none (F3 ⟨a,none⟩)
theorem Tz:Cl.TJ Ct D.bl KM F3:=aa (xs (ac (rX (λ_=>rfl) (λa=>T2 a) xp)))
 (aC (d4 (λ_=>rfl) (λ_ _=>rfl) (λa c b=>Lq a c b) xp (ae kX xv xk) (ae kX xv xk)))
theorem T4(a:PostT):SimO Ct D.bl (Oz [aP a]) (JI a):=ci Tz rfl
structure S_bj9 where
 vpq:PostT
 vBq:P0
 vyq:Int
 v4q:Int
 v0q:Option Int
 v1q:Option Int
 vgq:Option (List (Int×Int×(Option (List Int))))
 vmq:Option (Int×Int)
 voq:Option (Int×Int×(Option (List Int)))
def yf:S_bj9->P1:=λs=>[some (aP s.vpq),some ((eL (pJ D.int D.int)) s.vBq),some (D.int s.vyq),some (D.int s.v4q),s.v0q.map D.int,s.v1q.map D.int,s.vgq.map (eL (wZ D.int D.int (eO (eL D.int)))),s.vmq.map (pJ D.int D.int),s.voq.map (wZ D.int D.int (eO (eL D.int)))]
abbrev fK:=S_bj9->FlC S_bj9 Unit
def oG:fK:=bK (λa s=>{s with v0q:=some a}) (aN (aI iw (aI j8 (pC (·.v4q)) (kC (5:Int))) (pC (·.vyq))))
def oE:fK:=bK (λa s=>{s with v1q:=some a}) (aN (aI iw (aI j8 (aI j8 (pC (·.v4q)) (kC (5:Int))) (pC (·.vyq))) (pC (·.vyq))))
def oC:fK:=bK (λa s=>{s with vgq:=some a}) (aN (mw vI (pC (·.vpq))))
def gO:fK:=bK (λa s=>{s with vmq:=some a}) (aN (g7 (aI wD (vC (·.v0q)) (vC (·.v1q))) (aI wE (vC (·.v0q)) (vC (·.v1q)))))
def gj:fK:=aA (k9 JH (λa s=>{s with vpq:=a.vwq}) (pC (·.vpq)) (vC (·.v0q)) (vC (·.v1q)))
def gi:fK:=aA (E3 (λs=>some s.vBq) (λs y=>{s with vBq:=y}) wq (vC (·.vmq)))
def gm:fK:=aA (k9 JE (λa s=>{s with vpq:=a.vwq}) (pC (·.vpq)) (vC (·.v0q)) (vC (·.v1q)))
def gk:fK:=aA (E3 (λs=>some s.vBq) (λs y=>{s with vBq:=y}) pq (vC (·.vmq)))
def gN:fK:=ic (aN (aI (Tc false) (vC (·.vmq)) (pC (·.vBq))))
 (ak gj
 gi)
 (ak gm
 gk)
def gr:fK:=bK (λa s=>{s with voq:=some a}) (aN (aI ja (vC (·.vgq)) (aI iw (aI j8 (pC (·.v4q)) (kC (5:Int))) (aJ i5 (vC (·.vgq))))))
def gp:fK:=aA (k9 GD (λa s=>{s with vpq:=a.vwq}) (pC (·.vpq)) (aJ Th (vC (·.voq))) (aJ Kz (vC (·.voq))))
def cy:fK:=ic (aN (aI GO (aJ i5 (vC (·.vgq))) (kC (0:Int))))
 (ak gr
 gp)
 bz
def fj:fK:=ic (aN (lG (aI GO (aI iw (pC (·.v4q)) (kC (5:Int))) (kC (2:Int))) (aI (mD true) (vC (·.v0q)) (vC (·.v1q)))))
 (ak gO
 gN)
 cy
def xo:fK:=ak oG
 (ak oE
 (ak oC
 fj))
def z8(c:PostT)(a:P0)(b:Int)(d:Int):OutC S_bj9 Unit:=bx (some ()) (xo ⟨c,a,b,d,none,none,none,none,none⟩)
theorem Pn:Cl.TJ yf eN D3 xo:=aa (xs (ac (ae d6 (ae ir xp xk) xp)))
 (aa (xs (ac (ae d6 (ae ir (ae ir xp xk) xp) xp)))
 (aa (xs (ac (rX (λ_=>rfl) (λa=>FT a) xp)))
 (bf (ac (gE (ar (ae AI (ae d6 xp xk) xk)) (ar (ae (dN true) xv xv))))
 (aa (xs (ac (aQ (ae qh xv xv) (ae qi xv xv))))
 (bf (ac (ar (ae (Kt (w6 jd jd) (by decide)) xv xp)))
 (aa (aj (d4 (λ_=>rfl) (λ_ _=>rfl) (λa c b=>T3 a c b) xp xv xv))
 (aj (jS (λ_=>rfl) (λ_ _=>rfl) (Tj (w6 jd jd) (by decide)) xv)))
 (aa (aj (d4 (λ_=>rfl) (λ_ _=>rfl) (λa c b=>TZ a c b) xp xv xv))
 (aj (jS (λ_=>rfl) (λ_ _=>rfl) nO xv)))))
 (bf (ac (ar (ae AI (aD dZ xv) xk)))
 (aa (xs (ac (ae dg xv (ae d6 (ae ir xp xk) (aD dZ xv)))))
 (aj (d4 (λ_=>rfl) (λ_ _=>rfl) (λa c b=>Lq a c b) xp (uw Vn xv) (uw Vm xv))))
 aG))))
theorem PQ(c:PostT)(a:P0)(b:Int)(e:Int):SimO yf eN (Eu [aP c,(eL (pJ D.int D.int)) a,D.int b,D.int e]) (z8 c a b e):=cY (d:=()) rfl Pn rfl
structure S_ba9 where
 vwq:PostT
 viq:Int
 v3q:Option Int
def rk:S_ba9->P1:=λs=>[some (aP s.vwq),some (D.int s.viq),s.v3q.map D.int]
abbrev pE:=S_ba9->FlC S_ba9 Int
def o5:pE:=bK (λa s=>{s with v3q:=some a}) (aN (kC (0:Int)))
def o3:pE:=aA (S3 JI (λa s=>{s with vwq:=a.vwq}) (pC (·.vwq)))
def o0:pE:=bK (λa s=>{s with v3q:=some a}) (aN (aI i7 (vC (·.v3q)) (kC (1:Int))))
def kH:pE:=ak o3
 o0
def o4:pE:=BH (aN (lG (aI La (vC (·.v3q)) (pC (·.viq))) (aI GO (aJ yF (aJ (λg=>.ok g.letters) (pC (·.vwq)))) (kC (0:Int)))))
 kH 100000
def vh:pE:=bB (aN (vC (·.v3q)))
def xA:pE:=ak o5
 (ak o4
 vh)
def vJ(a:PostT)(b:Int):OutC S_ba9 Int:=bx none (xA ⟨a,b,none⟩)
theorem Px:Cl.TJ rk D.int Ec xA:=aa (xs (ac xk))
 (aa (xS (rep:=rk) (ac (gE (ar (ae Dz xv xp)) (ar (ae AI (aD NV (aD cK xp)) xk))))
 (aa (aj (NY (λ_=>rfl) (λ_ _=>rfl) (λa=>T4 a) xp))
 (xs (ac (ae fB xv xk)))) 100000)
 (aC (ac xv)))
theorem PY(a:PostT)(b:Int):SimO rk D.int (Ez [aP a,D.int b]) (vJ a b):=ci Px rfl
structure S_bg9 where
 vuq:(List Int)
 vyq:Option Int
 vBq:Option P0
 vpq:Option PostT
 v4q:Option Int
 vaq:Option Int
 vAq:Option (List (Option Int))
def yi:S_bg9->P1:=λs=>[some (eS s.vuq),s.vyq.map D.int,s.vBq.map (eL (pJ D.int D.int)),s.vpq.map aP,s.v4q.map D.int,s.vaq.map D.int,s.vAq.map (eL (eO D.int))]
abbrev fL:=S_bg9->FlC S_bg9 Bool
def oU:fL:=bK (λa s=>{s with vyq:=some a}) (aN (aI i7 (kC (1:Int)) (aI iw (da kM (pC (·.vuq)) (kC (0:Int))) (kC (7:Int)))))
def oT:fL:=bK (λa s=>{s with vBq:=some a}) (aN (da z5 (da kM (pC (·.vuq)) (kC (1:Int))) (vC (·.vyq))))
def ko:fL:=bK (λa s=>{s with vyq:=some a}) (aN (aI i7 (kC (8:Int)) (aI iw (aI j8 (da kM (pC (·.vuq)) (kC (0:Int))) (kC (56:Int))) (kC (13:Int)))))
def kn:fL:=bK (λa s=>{s with vBq:=some a}) (aN (da zZ (da kM (pC (·.vuq)) (kC (1:Int))) (vC (·.vyq))))
def kq:fL:=ic (aN (aI (mD false) (aI iw (aI j8 (da kM (pC (·.vuq)) (kC (0:Int))) (kC (7:Int))) (kC (8:Int))) (kC (1:Int))))
 (ak ko
 kn)
 bz
def oR:fL:=bK (λa s=>{s with vpq:=some a}) (aN (HP jU (M4 vH (vC (·.vyq)) (vC (·.vBq)) (kC ([]:DI Int)) (kC ([]:DI Int)) (vM (i3:_->Res P0)))))
def jD:fL:=aA (IK z8 (λa s=>{s with vpq:=some a.vpq,vBq:=some a.vBq}) (vC (·.vpq)) (vC (·.vBq)) (vC (·.vyq)) (vC (·.v4q)))
def oQ:fL:=dP (aI Lk (pC (·.vuq)) (kC (2:Int))) (λa s=>{s with v4q:=some a})
 jD
def oP:fL:=bK (λa s=>{s with vaq:=some a}) (AV vJ (λb s=>{s with vpq:=some b.vwq}) (vC (·.vpq)) (kC (5000:Int)))
def sX:fL:=bB (aN (kC false))
def oO:fL:=ic (aN (Dq (aJ tV (mw vG (vC (·.vaq)))) (Dq (aI La (vC (·.vaq)) (kC (0:Int))) (Dq (aI Vw (vC (·.vaq)) (kC (5000:Int))) (aI GO (aJ i5 (mw vI (vC (·.vpq)))) (kC (0:Int)))))))
 sX
 bz
def oN:fL:=bK (λa s=>{s with vAq:=some a}) (aN (mw zY (M4 vH (vC (·.vyq)) (vC (·.vBq)) (kC ([]:DI Int)) (kC ([]:DI Int)) (vM (i3:_->Res P0)))))
def u9:fL:=bB (aN (lG (kW z7 (vC (·.vpq)) (vC (·.vBq)) (vC (·.vyq))) (kW z6 (vC (·.vpq)) (vC (·.vAq)) (vC (·.vyq)))))
def xt:fL:=ak oU
 (ak oT
 (ak kq
 (ak oR
 (ak oQ
 (ak oP
 (ak oO
 (ak oN
 u9)))))))
def GI(a:List Int):OutC S_bg9 Bool:=bx none (xt ⟨a,none,none,none,none,none,none⟩)
theorem Pr:Cl.TJ yi D.bl D6 xt:=aa (xs (ac (ae fB xk (ae d6 (fQ (λa b=>pe a b) xp xk) xk))))
 (aa (xs (ac (fQ (λa b=>PM a b) (fQ (λa b=>pe a b) xp xk) xv)))
 (aa (bf (ac (ar (ae (dN false) (ae d6 (ae ir (fQ (λa b=>pe a b) xp xk) xk) xk) xk)))
 (aa (xs (ac (ae fB xk (ae d6 (ae ir (fQ (λa b=>pe a b) xp xk) xk) xk))))
 (xs (ac (fQ (λa b=>PL a b) (fQ (λa b=>pe a b) xp xk) xv))))
 aG)
 (aa (xs (ac (wY rR (Fm (λa b c d e=>FQ a b c d e) xv xv (lB rfl) (lB rfl) (cO cN)))))
 (aa (bY (eC (ae Iy (nT L3 xp) xk)) (λ_ _=>rfl)
 (aj (NZ (λ_ _=>rfl) (λa b c d=>PQ a b c d) xv xv xv xv)))
 (aa (xs (nj (λ_=>rfl) (λ_ _=>rfl) (λa b=>PY a b) xv xk))
 (aa (bf (ac (fS (mR (ar (nR (λa=>FP a) xv))) (fS (ar (ae Dz xv xk)) (fS (ar (ae Sl xv xk)) (ar (ae AI (aD dZ (rX (λ_=>rfl) (λa=>FT a) xv)) xk))))))
 (aC (ac xk))
 aG)
 (aa (xs (ac (nR (λa=>PD a) (Fm (λa b c d e=>FQ a b c d e) xv xv (lB rfl) (lB rfl) (cO cN)))))
 (aC (ac (Fp (rY (λa b c=>PP a b c) xv xv xv) (rY (λa b c=>PN a b c) xv xv xv)))))))))))
theorem PV(a:List Int):SimO yi D.bl (Ew [eS a]) (GI a):=ci Pr rfl
end
def cD(ns:List Int)(k:Int):Int:=(ns[k.toNat]?).getD 0
theorem Hj(ns:List Int)(k:Int)(a:0<=k):(kM ns k).res=.ok (cD ns k):=by
 unfold kM xq u7 u6 km cD;by_cases h:k<ns.length
 ·obtain⟨v,e⟩:∃v,ns[k.toNat]?=some v:=⟨_,V4 (by omega)⟩;simp[h,fU ns a,e]
 ·have e:ns[k.toNat]?=none:=Wb (by omega);simp[h,e]
def PairOk(sz:Int)(k:List Int):Prop:=∃a b,k=[a,b]/\0<=a/\a<sz/\0<=b/\b<sz
structure RoadOk (sz:Int) (r:List Int):Prop where
 two:2<=r.length
 last:r.getLast?=some 0
 nd:r.Nodup
 all:∀x∈r,0<=x/\x<sz
theorem MF{W:Type}{l:List W}{i:Int}(h0:0<=i)(a:i<l.length)(b:l.length<=20000):∃(h:i.toNat<l.length),Ax l i=some (l[i.toNat],l.eraseIdx i.toNat):=by
 have h:i.toNat<l.length:=by omega
 refine⟨h,?_⟩;unfold Ax;rw[if_pos ⟨h0,a,by unfold af;omega⟩,List.getElem?_eq_getElem h];rfl
theorem jG{W:Type}{l:List W}{x:W}(h:l.length<af):pq l x=some ((),l++[x]):=by unfold pq;rw[if_pos h]
theorem cR:∀(n:Nat) (l:List Int),l.Nodup->(∀x∈l,0<=x/\x<n)->l.length<=n:=by
 intro n
 induction n with
 |zero=>
   intro l nd a;cases l with
   |nil=>exact V2 _
   |cons x l=>have:=a x VP;omega
 |succ n d=>
   intro l nd a
   have c:=d (l.erase n) (nd.erase _) λx e=>by
    have b:=(nd.mem_erase_iff).mp e
    have:=a x b.2
    have f:=b.1;omega
   rw[List.length_erase]at c;split at c<;>omega
theorem RoadOk.len{sz:Int}{r:List Int}(h:RoadOk sz r):(r.length:Int)<=sz:=by
 have:=cR sz.toNat r h.nd λx a=>by have:=h.all x a;omega
 obtain⟨x,a⟩:=Yl r (λz=>by have:=h.two;rw[z]at this;simp at this)
 have:=h.all x a
 omega
def LB(sz:Int)(p:Int×Int):Prop:=0<=p.1/\p.1<sz/\0<=p.2/\p.2<sz/\p.1≠p.2
theorem cc{W:Type}{l:List W}{a:W}(h:l.Nodup)(d:a∉l):(l++[a]).Nodup:=
 Wq.mpr ⟨h,by simp,λx c y b=>by rw[VU.mp b];rintro rfl;exact d c⟩
structure WaysOk (sz:Int) (W:P0):Prop where
 nd:W.Nodup
 all:∀p∈W,0<=p.1/\p.1<p.2/\p.2<sz
 len:W.length<=10000
theorem G4(c sz:Int)(S:1<=sz)(R:sz<=60):∃W:P0,(z5 c sz).res=.ok W/\WaysOk sz W:=by
 generalize j:(c+1)*48271%2147483647*16807%2147483647=d
 obtain⟨M,e,k,C,g,W,rfl,y,n,m,v⟩:=cJ (u:=λa s=>{s with v0q:=some a}) (c:=jr) (λp (s:S_bn9)=>∃k C g W,s=⟨c,sz,some d,some W,some k,C,g⟩/\0<=k/\W.Nodup/\(∀q∈W,0<=q.1/\q.1<q.2/\q.2<sz/\q.1<(p.length:Int))/\W.length<=p.length*100)
  (c9 0 sz) ⟨c,sz,some d,some [],some 0,none,none⟩ ⟨0,none,none,[],rfl,by omega,by simp,λ_ h=>(nomatch h),by simp⟩ (by
    rintro p a r s H ⟨k,C,g,W,rfl,y,n,m,v⟩;have Q:=mJ H;have F:(p.length:Int)=a:=by omega
    obtain⟨L,I,E,J,K,rfl,w,t,B,G⟩:=cJ (u:=λa s=>{s with v1q:=some a}) (c:=gU) (λq (s:S_bn9)=>∃k g W,s=⟨c,sz,some d,some W,some k,some a,g⟩/\0<=k/\W.Nodup/\(∀x∈W,0<=x.1/\x.1<x.2/\x.2<sz/\(x.1<a\/x.1=a/\x.2<a+1+(q.length:Int)))/\W.length<=p.length*100+q.length)
     (c9 (a+1) sz) ⟨c,sz,some d,some W,some k,some a,g⟩ ⟨k,g,W,rfl,y,n,λx i=>by have:=m x i;omega,by simpa using v⟩ (by
       rintro q b N s o ⟨k,g,W,rfl,y,n,m,v⟩;have P:=mJ o
       have O:q.length<60:=by
        have:=dQ (a+1) sz
        rw[o,VQ,VV]at this;omega
       have f:0<=k%29:=Xk _ (by omega);by_cases D:d / 2 ^ (k%29).toNat%2=1
       · have A:=jG (l:=W) (x:=(a,b)) (by unfold af;omega);refine⟨_,.inl ?_,k+1,some b,W++[(a,b)],rfl,by omega,cc n (λz=>by have:=m _ z;omega),λx i=>?_,by rw[List.length_append,List.length_append];simp;omega⟩
         ·simp[gU,gJ,gh,gH,f,D,A]
         · rw[VQ];rcases VW.mp i with z|z
           ·have:=m x z;simp;omega
           ·rw[VU.mp z];simp;omega
       · refine⟨_,.inl ?_,k+1,some b,W,rfl,by omega,n,λx i=>?_,by rw[VQ];omega⟩
         ·simp[gU,gJ,gH,f,D]
         ·have:=m x i;rw[VQ];simp;omega)
    refine⟨_,.inl ?_,E,some a,J,K,rfl,w,t,λx i=>?_,?_⟩
    ·simp only[jr,dP,aI,i7,vC,pC,kC,Res.bind];rw[fy (by omega) (by omega) (by omega) (by omega)];exact I
    ·have:=B x i;rw[VQ];simp;omega
    ·have:=dQ (a+1) sz;rw[VQ];simp;omega)
 refine⟨W,?_,n,λp hp=>by have:=m p hp;omega,by have:=dQ 0 sz;omega⟩;unfold z5 xj;simp[uV,uU,uT,uS,uR,j,af,fy (lo:=0) (hi:=sz) (by omega) (by omega) (by omega) (by omega),e]
def dY(W:P0)(sz a:Int):List Int:=(c9 0 sz).filter λb=>decide ((min a b,max a b)∈W)
theorem EF(l:List Int)(m:Int):0<=cX l m↔0<=m/\∀x∈l,0<=x:=by
 obtain⟨e,f,d⟩:=iE l m;constructor
 ·intro h;exact⟨by omega,λx c=>by have:=d x c;omega⟩
 · rintro⟨a,b⟩;rcases e with z|z
   ·omega
   ·exact b _ z
theorem Aj(b:List Int)(n:Int)(h:∀x∈b,0<=x/\x<n)(h0:0<n):(zX b n).res=.ok ():=by
 unfold zX xc
 first | unfold uK | skip
 cases b with
 |nil=>
   have q:¬ n<=0:=by omega
   simp[q]
 |cons a l=>
   have g:0<=cX l a:=(EF l a).mpr ⟨(h a VP).1,λx e=>(h x (VR _ e)).1⟩
   have f:fZ l a<n:=by
    obtain⟨z|z,_⟩:=jl l a
    ·rw[z];exact(h a VP).2
    ·exact(h _ (VR _ z)).2
   have d:¬ cX l a<0:=by omega
   have c:¬ n<=fZ l a:=by omega
   simp[d,c]
theorem jj(g:GΩ)(a:List Int)(h:∀x∈a,0<=x/\x<g.hω)(h0:0<g.hω):(pY g a).res=.ok ():=by
 have e:=Aj a g.hω h h0;unfold pY Gc
 first | unfold zt | skip
 simp[e]
theorem in1{a n:Int}(c:0<=a/\a<n):∀x∈[a],0<=x/\x<n:=λx b=>by rw[VU.mp b];exact c
theorem UH{a b n:Int}(e:0<=a/\a<n)(d:0<=b/\b<n):∀x∈[a,b],0<=x/\x<n:=λx c=>by
 rcases VY.mp c with z|z
 ·rw[z];exact e
 ·rw[VU.mp z];exact d
theorem v8(g:GΩ)(a b:Int)(f:0<=a/\a<g.hω)(d:0<=b/\b<g.hω)(c:a≠b):(BD g a b).res=.ok ():=by
 have e:=jj g [a,b] (UH f d) (by omega);unfold BD Ga;simp[zn,zm,e,c,af]
theorem Am(g:GΩ)(a b:Int)(d:0<=a/\a<g.hω)(c:0<=b/\b<g.hω):(JO g a b).res=.ok ((g.lω.get [a,b]).getD 0):=by
 have e:=jj g [a,b] (UH d c) (by omega);unfold JO Gg;simp[zz,zx,e,af]
theorem xW(g:GΩ)(r:List Int)(a:RoadOk g.hω r)(h:g.hω<=1000):(GF g r).res=.ok ():=by
 have f:=a.len;have two:=a.two;have e:=jj g r a.all (by omega);have d:¬ (r.length:Int)<2:=by omega
 have b:r.length<4000:=by omega
 have c:=a.last;unfold GF Gb;simp[zr,zq,zp,zo,e,d,b,Cl.pp,c,FF a.nd]
def kU(L Q:DI Int)(r:List Int):Int:=(Q.get r).getD (match r with|a::b::_=>(L.get [a,b]).getD 0|_=>0)
def bA(L Q:DI Int)(r:List Int):Int×Int×List Int:=(0-kU L Q r,(r.length:Int),r)
theorem Gq{W:Type}(a b:W)(t:List W):iZ (a::b::t) 0=some a:=by rw[fU _ (by omega)];rfl
theorem UL{W:Type}(a b:W)(t:List W):iZ (a::b::t) 1=some b:=by rw[fU _ (by omega)];rfl
theorem Ha(g:GΩ)(r:List Int)(c:RoadOk g.hω r)(i:g.hω<=1000):(JN g r).res=.ok (kU g.lω g.wω r):=by
 have e:=xW g r c i
 obtain⟨a,b,t,rfl⟩:∃a b t,r=a::b::t:=by
  match r,c.two with
  |a::b::t,_=>exact⟨a,b,t,rfl⟩
 have h:=c.all a (by simp);have f:=c.all b (by simp);have d:=Am g a b h f;unfold JN Ge kU;cases q:g.wω.get (a::b::t) with
 |none=>simp[sV,sT,sS,iL,sR,e,q,Gq,UL,d]
 |some v=>simp[sV,sT,sS,iL,sR,e,q]
theorem uj{L d Q c:DI Int}(f:∀k,L.get k=d.get k)(e:∀k,Q.get k=c.get k)(r:List Int):bA L Q r=bA d c r:=by
 unfold bA kU;rw[e];cases r with
 |nil=>rfl
 | cons a r=>cases r with
   |nil=>rfl
   |cons b r=>simp only[f]
theorem LZ(g:GΩ)(r:List Int)(a:RoadOk g.hω r)(b:g.hω<=1000):(zW g r).res=.ok (bA g.lω g.wω r):=by
 have e:=Ha g r a b;unfold zW xb bA
 first | unfold uJ | skip
 simp[e,Int.zero_sub]
theorem G6(g:GΩ):(JK g).res=.ok g.hω:=by
 unfold JK F7
 first | unfold zh | skip
 simp
theorem Hf(g:GΩ)(a b v:Int)(f:0<=a/\a<g.hω)(d:0<=b/\b<g.hω)(c:g.lω.length<af):JP g a b v=.ok () ⟨{g with lω:=g.lω.put [a,b] v},a,b,v⟩:=by
 have e:=jj g [a,b] (UH f d) (by omega);unfold JP Gh;simp[zB,zA,e,c,af]<;>(unfold af at c;simp[c])
theorem G7(g:GΩ)(a b:Int)(h:0<=a/\a<g.hω)(f:0<=b/\b<g.hω)(c:a≠b)(d:g.sω.length<af):JM g a b=.ok () ⟨{g with sω:=g.sω.put [a,b] true},a,b⟩:=by
 have e:=v8 g a b h f c;unfold JM F9;simp[zk,zj,e,d]
theorem G1(g:GΩ)(r:List Int)(v:Int)(a:RoadOk g.hω r)(c:g.hω<=1000)(b:g.wω.length<af):JJ g r v=.ok () ⟨{g with wω:=g.wω.put r v},r,v⟩:=by
 have e:=xW g r a c;unfold JJ F5;simp[zg,zf,e,b]
theorem B6(g:GΩ)(a b:Int)(j:0<=a/\a<g.hω)(i:0<=b/\b<g.hω)(c:a≠b)(f:g.U.get [a,b]=none)(h:g.U.length+1<af):GH g a b=.ok () ⟨{g with U:=(g.U.put [a,b] true).put [b,a] true},a,b⟩:=by
 have e:=v8 g a b j i c;have d:g.U.length<af:=by omega
 have l2:(g.U.put [a,b] true).length<af:=Nat.lt_of_le_of_lt iS h;unfold GH Gj;simp[zJ,zI,zH,zG,e,f,d,l2]
theorem Hg(g:GΩ)(a b:Int)(k:0<=a/\a<g.hω)(j:0<=b/\b<g.hω)(c:a≠b)(i:(g.U.get [a,b]).isSome=true)(d:(g.U.get [b,a]).isSome=true):JQ g a b=.ok () ⟨{g with U:=(g.U.del [a,b]).del [b,a]},a,b⟩:=by
 have e:=v8 g a b k j c;obtain⟨x,ex⟩:=Xm.mp i;obtain⟨y,l⟩:=Xm.mp d
 have f:(g.U.del [a,b]).get [b,a]=some y:=by
  rw[iW,on (by intro z;injection z with h m;exact c h.symm)];exact l
 unfold JQ Gi;simp[zF,zE,zD,zC,e,ex,f]
structure GuildIs (g:GΩ) (sz:Int) (U:P0) (Z Y:DI Int) (X:P0):Prop where
 count:g.hω=sz
 way:∀x y,(g.U.get [x,y]).isSome=true↔(x,y)∈U\/(y,x)∈U
 lik:∀k,g.lω.get k=Z.get k
 wsh:∀k,g.wω.get k=Y.get k
 shn:∀x y,(g.sω.get [x,y]).isSome=true↔(x,y)∈X
def Few(g:GΩ):Prop:=g.U.length<=30000/\g.lω.length<=30000/\g.wω.length<=30000/\g.sω.length<=30000
structure DrawOk (sz:Int) (U:P0) (Z Y:DI Int) (X:P0):Prop where
 size:1<=sz/\sz<=60
 U:WaysOk sz U
 Z:Z.length<=100/\DI.nd Z/\∀p∈Z,PairOk sz p.1
 Y:Y.length<=100/\DI.nd Y/\∀p∈Y,RoadOk sz p.1
 X:X.length<=100/\X.Nodup/\∀p∈X,LB sz p
theorem yP{X:Type}(k:List Int):DI.get ([]:DI X) k=none:=rfl
theorem rO{X:Type}{F:DI X}(a:DI.nd F){k:List Int}(b:k∈F.map (·.1)):∃v,F.get k=some v/\(k,v)∈F:=by
 obtain⟨p,hp,rfl⟩:=We.mp b;exact⟨p.2,dC a hp,hp⟩
theorem iG{X:Type}{F:DI X}{k:List Int}(a:k∉F.map (·.1)):F.get k=none:=by
 cases q:F.get k with
 |none=>rfl
 |some v=>exact absurd (We.mpr ⟨(k,v),nJ q,rfl⟩) a
structure Wf (sz:Int) (g:GΩ):Prop where
 count:g.hω=sz
 U:DI.nd g.U/\∀p∈g.U,PairOk sz p.1
 lik:DI.nd g.lω/\∀p∈g.lω,PairOk sz p.1
 shn:DI.nd g.sω/\∀p∈g.sω,PairOk sz p.1
 wsh:DI.nd g.wω/\∀p∈g.wω,RoadOk sz p.1
theorem kZ{X:Type}{F:DI X}{k:List Int}(h:DI.nd F):DI.nd (F.del k):=by
 unfold DI.nd DI.del at *;exact h.sublist (List.Sublist.map _ List.filter_sublist)
theorem fD{X:Type}{F:DI X}{k:List Int}{p:List Int×X}(h:p∈F.del k):p∈F:=(WS.mp h).1
theorem Wf.lay{sz:Int}{g:GΩ}(h:Wf sz g){a b:Int}(d:0<=a/\a<sz)(c:0<=b/\b<sz):Wf sz {g with U:=(g.U.put [a,b] true).put [b,a] true}:=
 ⟨h.count,⟨iu (iu h.U.1),fA (P:=PairOk sz) (fA (P:=PairOk sz) h.U.2 ⟨a,b,rfl,d.1,d.2,c.1,c.2⟩) ⟨b,a,rfl,c.1,c.2,d.1,d.2⟩⟩,h.lik,h.shn,h.wsh⟩
theorem Wf.lift{sz:Int}{g:GΩ}(h:Wf sz g)(a b:Int):Wf sz {g with U:=(g.U.del [a,b]).del [b,a]}:=
 ⟨h.count,⟨kZ (kZ h.U.1),λp hp=>h.U.2 p (fD (fD hp))⟩,h.lik,h.shn,h.wsh⟩
theorem Wf.like{sz:Int}{g:GΩ}(h:Wf sz g){a b:Int}(v:Int)(d:0<=a/\a<sz)(c:0<=b/\b<sz):Wf sz {g with lω:=g.lω.put [a,b] v}:=
 ⟨h.count,h.U,⟨iu h.lik.1,fA (P:=PairOk sz) h.lik.2 ⟨a,b,rfl,d.1,d.2,c.1,c.2⟩⟩,h.shn,h.wsh⟩
theorem Wf.shun{sz:Int}{g:GΩ}(h:Wf sz g){a b:Int}(d:0<=a/\a<sz)(c:0<=b/\b<sz):Wf sz {g with sω:=g.sω.put [a,b] true}:=
 ⟨h.count,h.U,h.lik,⟨iu h.shn.1,fA (P:=PairOk sz) h.shn.2 ⟨a,b,rfl,d.1,d.2,c.1,c.2⟩⟩,h.wsh⟩
theorem Wf.wish{sz:Int}{g:GΩ}(h:Wf sz g){k:List Int}(v:Int)(a:RoadOk sz k):Wf sz {g with wω:=g.wω.put k v}:=
 ⟨h.count,h.U,h.lik,h.shn,⟨iu h.wsh.1,fA (P:=RoadOk sz) h.wsh.2 a⟩⟩
theorem Wf.new{sz:Int}:Wf sz ⟨sz,[],[],[],[]⟩:=⟨rfl,⟨by unfold DI.nd;simp,by simp⟩,⟨by unfold DI.nd;simp,by simp⟩,⟨by unfold DI.nd;simp,by simp⟩,⟨by unfold DI.nd;simp,by simp⟩⟩
theorem CT{F:DI Bool}{a b x y:Int}{p:P0}(h:(F.get [x,y]).isSome=true↔(x,y)∈p\/(y,x)∈p):((((F.put [a,b] true).put [b,a] true).get [x,y])).isSome=true↔(x,y)∈p++[(a,b)]\/(y,x)∈p++[(a,b)]:=by
 rw[cL,cL,VW,VW,VU,VU];by_cases e:[x,y]=[b,a]
 ·rw[VL e];injection e with e c;injection c with c;subst e c;simp
 · rw[on e];by_cases c:[x,y]=[a,b]
   ·rw[VL c];injection c with c d;injection d with d;subst c d;simp
   · rw[on c,h];constructor
     · rintro(z|z)
       ·exact .inl (.inl z)
       ·exact .inr (.inl z)
     · rintro((z|z) | (z|z))
       ·exact .inl z
       ·injection z with d f;subst d f;exact absurd rfl c
       ·exact .inr z
       ·injection z with d f;subst d f;exact absurd rfl e
theorem CQ{F:DI Bool}{a b x y:Int}{p:P0}(h:(F.get [x,y]).isSome=true↔(x,y)∈p):((F.put [a,b] true).get [x,y]).isSome=true↔(x,y)∈p++[(a,b)]:=by
 rw[cL,VW,VU];by_cases c:[x,y]=[a,b]
 ·rw[VL c];injection c with c d;injection d with d;subst c d;simp
 · rw[on c,h];constructor
   ·exact .inl
   · rintro(z|z)
     ·exact z
     ·injection z with f e;subst f e;exact absurd rfl c
theorem ur{F G:DI Int}{p:List (List Int)}{k:List Int}{v:Int}(h:∀j,F.get j=if j∈p then G.get j else none)(e:G.get k=some v)(j:List Int):(F.put k v).get j=if j∈p++[k] then G.get j else none:=by
 rw[cL,h j];by_cases z:j=k
 ·subst z;rw[VL rfl,VL (by simp),e]
 · rw[on z];by_cases b:j∈p
   ·rw[VL b,VL (V0 _ b)]
   · rw[on b,on (λa=>by
      rcases VW.mp a with a|a
      ·exact b a
      ·exact z (VU.mp a))]
theorem p7{sz:Int}{U:P0}{Z Y:DI Int}{X:P0}(h:DrawOk sz U Z Y X):∃g,(vH sz U Z Y X).res=.ok g/\GuildIs g sz U Z Y X/\Few g/\Wf sz g:=by
 obtain⟨W,V⟩:=h.size
 have e1:ot ⟨sz,U,Z,Y,X,none,none,none,none,none⟩=.nx ⟨sz,U,Z,Y,X,some ⟨sz,[],[],[],[]⟩,none,none,none,none⟩:=by
  simp[ot,f7,W,V]
 obtain⟨s2,e2,g2,C,B,rfl,c2,l2,w2,n2,y2,len2⟩:=cJ (u:=λa s=>{s with v0q:=some a.1,v1q:=some a.2}) (c:=jy) (λp (s:S_bl9)=>∃g N M,s=⟨sz,U,Z,Y,X,some g,N,M,none,none⟩/\Wf sz g/\g.lω=[]/\g.wω=[]/\g.sω=[]/\(∀x y,(g.U.get [x,y]).isSome=true↔(x,y)∈p\/(y,x)∈p)/\g.U.length<=2*p.length)
  U ⟨sz,U,Z,Y,X,some ⟨sz,[],[],[],[]⟩,none,none,none,none⟩ ⟨_,none,none,rfl,Wf.new,rfl,rfl,rfl,λx y=>by simp[yP],by simp⟩ (by
   rintro p ⟨a,b⟩ r s d ⟨g,N,M,rfl,f,hl,T,K,i,l⟩;have P:=f.count;have n:(a,b)∈U:=by rw[d];simp
   have A:=h.U.all _ n;have J:=h.U.nd;rw[d]at J;have S:=Wq.mp J;have hp1:(a,b)∉p:=λz=>S.2.2 _ z _ VP rfl
   have hp2:(b,a)∉p:=λz=>by
    have:(b,a)∈U:=by rw[d];exact V0 _ z
    have:=h.U.all _ this
    simp only at A this;omega
   have m:p.length<=10000:=by
    have:=h.U.len
    rw[d,VQ]at this;omega
   simp only at A
   have gn:g.U.get [a,b]=none:=by
    cases q:g.U.get [a,b] with
    |none=>rfl
    |some v=>
      rcases(i a b).mp (by rw[q];rfl) with z|z
      ·exact absurd z hp1
      ·exact absurd z hp2
   have sp:=B6 g a b (by omega) (by omega) (by omega) gn (by unfold af;omega);refine⟨_,.inl (by simp[jy,sp]),{g with U:=(g.U.put [a,b] true).put [b,a] true},some a,some b,rfl,f.lay (by omega) (by omega),hl,T,K,λx y=>?_,?_⟩
   ·exact CT (i x y)
   · show((g.U.put [a,b] true).put [b,a] true).length<=_
     have:=iS (F:=g.U.put [a,b] true) (k:=[b,a]) (v:=true)
     have:=iS (F:=g.U) (k:=[a,b]) (v:=true)
     rw[VQ];simp;omega)
 have hwl:=h.U.len
 obtain⟨s3,e3,g3,O,rfl,c3,w3,n3,q3,y3,k3,G⟩:=cJ (u:=λa s=>{s with vmq:=some a}) (c:=jx) (λp (s:S_bl9)=>∃g p0,s=⟨sz,U,Z,Y,X,some g,C,B,p0,none⟩/\Wf sz g/\g.wω=[]/\g.sω=[]/\g.U.length<=30000/\(∀x y,(g.U.get [x,y]).isSome=true↔(x,y)∈U\/(y,x)∈U)/\(∀k,g.lω.get k=if k∈p then Z.get k else none)/\g.lω.length<=p.length)
  (Z.map (·.1)) ⟨sz,U,Z,Y,X,some g2,C,B,none,none⟩ ⟨g2,none,rfl,c2,w2,n2,by omega,y2,λk=>by rw[l2];rfl,by rw[l2];simp⟩ (by
    rintro p k r s d ⟨g,p0,rfl,f,T,K,I,i,L,l⟩;have P:=f.count;obtain⟨v,H,n⟩:=rO h.Z.2.1 (k:=k) (by rw[d];simp);obtain⟨a,b,rfl,ha1,ha2,hb1,hb2⟩:=h.Z.2.2 _ n
    have m:p.length<=100:=by
     have:=h.Z.1
     have e:(Z.map (·.1)).length=Z.length:=VO ..;rw[d,VQ]at e;omega
    have sp:=Hf g a b v (by omega) (by omega) (by unfold af;omega);refine⟨_,.inl (by simp[jx,Gq,UL,H,sp]),{g with lω:=g.lω.put [a,b] v},some [a,b],rfl,f.like v (by omega) (by omega),T,K,I,i,λj=>?_,?_⟩
    ·exact ur L H j
    · show(g.lω.put [a,b] v).length<=_
      rw[VQ];exact Wl iS (by simp;omega))
 obtain⟨s4,e4,g4,p4,rfl,c4,n4,q4,y4,k4,E,f4,w⟩:=cJ (u:=λa s=>{s with vfq:=some a}) (c:=jw) (λp (s:S_bl9)=>∃g k0,s=⟨sz,U,Z,Y,X,some g,C,B,O,k0⟩/\Wf sz g/\g.sω=[]/\g.U.length<=30000/\(∀x y,(g.U.get [x,y]).isSome=true↔(x,y)∈U\/(y,x)∈U)/\(∀k,g.wω.get k=if k∈p then Y.get k else none)/\g.wω.length<=p.length/\(∀k,g.lω.get k=Z.get k)/\g.lω.length<=30000)
  (Y.map (·.1)) ⟨sz,U,Z,Y,X,some g3,C,B,O,none⟩ ⟨g3,none,rfl,c3,n3,q3,y3,λk=>by rw[w3];rfl,by rw[w3];simp,λk=>by
    rw[k3 k];by_cases z:k∈Z.map (·.1)
    ·rw[VL z]
    ·rw[on z,iG z],by have:=h.Z.1;rw[VO]at G;omega⟩ (by
    rintro p k r s d ⟨g,k0,rfl,f,K,I,i,L,l,hf,o⟩;have P:=f.count;obtain⟨v,H,n⟩:=rO h.Y.2.1 (k:=k) (by rw[d];simp);have hr:=h.Y.2.2 _ n
    have m:p.length<=100:=by
     have:=h.Y.1
     have e:(Y.map (·.1)).length=Y.length:=VO ..;rw[d,VQ]at e;omega
    have sp:=G1 g k v (by rw[P];exact hr) (by omega) (by unfold af;omega);refine⟨_,.inl (by simp[jw,H,sp]),{g with wω:=g.wω.put k v},some k,rfl,f.wish v hr,K,I,i,λj=>?_,?_,hf,o⟩
    ·exact ur L H j
    · show(g.wω.put k v).length<=_
      rw[VQ];exact Wl iS (by simp;omega))
 obtain⟨s5,e5,g5,a5,b5,rfl,c5,q5,y5,k5,D,f5,t,R,Q⟩:=cJ (u:=λa s=>{s with v0q:=some a.1,v1q:=some a.2}) (c:=jv) (λp (s:S_bl9)=>∃g N M,s=⟨sz,U,Z,Y,X,some g,N,M,O,p4⟩/\Wf sz g/\g.U.length<=30000/\(∀x y,(g.U.get [x,y]).isSome=true↔(x,y)∈U\/(y,x)∈U)/\(∀k,g.wω.get k=Y.get k)/\g.wω.length<=30000/\(∀k,g.lω.get k=Z.get k)/\g.lω.length<=30000/\(∀x y,(g.sω.get [x,y]).isSome=true↔(x,y)∈p)/\g.sω.length<=p.length)
  X ⟨sz,U,Z,Y,X,some g4,C,B,O,p4⟩ ⟨g4,C,B,rfl,c4,q4,y4,λk=>by
   rw[k4 k];by_cases z:k∈Y.map (·.1)
   ·rw[VL z]
   ·rw[on z,iG z],by have:=h.Y.1;rw[VO]at E;omega,f4,w,λx y=>by rw[n4];simp[yP],by rw[n4];simp⟩ (by
   rintro p ⟨a,b⟩ r s d ⟨g,N,M,rfl,f,I,i,L,hkl,hf,o,hs,hsl⟩;have P:=f.count;have n:(a,b)∈X:=by rw[d];simp
   have A:=h.X.2.2 _ n;unfold LB at A;simp only at A
   have m:p.length<=100:=by
    have:=h.X.1
    rw[d,VQ]at this;omega
   have sp:=G7 g a b (by omega) (by omega) A.2.2.2.2 (by unfold af;omega);refine⟨_,.inl (by simp[jv,sp]),{g with sω:=g.sω.put [a,b] true},some a,some b,rfl,f.shun (by omega) (by omega),I,i,L,hkl,hf,o,λx y=>?_,?_⟩
   ·exact CQ (hs x y)
   · show(g.sω.put [a,b] true).length<=_
     rw[VQ];exact Wl iS (by simp;omega))
 refine⟨g5,?_,⟨c5.count,y5,f5,k5,R⟩,⟨q5,t,D,by have:=h.X.1;omega⟩,c5⟩;unfold vH xm;simp only[ak,e1];simp[u4,u3,uZ,uY,uX,e2,e3,e4,e5]
structure PathOk (sz:Int) (r:List Int):Prop where
 ne:r≠[]
 last:r.getLast?=some 0
 nd:r.Nodup
 all:∀x∈r,0<=x/\x<sz
theorem PathOk.len{sz:Int}{r:List Int}(p:PathOk sz r):(r.length:Int)<=sz:=by
 have:=cR sz.toNat r p.nd λx a=>by have:=p.all x a;omega
 obtain⟨x,a⟩:=Yl r p.ne
 have:=p.all x a
 omega
theorem PathOk.road{sz h:Int}{r:List Int}(p:PathOk sz r)(c:0<=h/\h<sz)(b:h∉r):RoadOk sz (h::r):=by
 obtain⟨q,t,rfl⟩:∃q t,r=q::t:=by
  cases r with
  |nil=>exact absurd rfl p.ne
  |cons q t=>exact⟨q,t,rfl⟩
 refine⟨by simp,?_,Wc.mpr ⟨b,p.nd⟩,λx a=>?_⟩
 ·rw[List.getLast?_cons_cons];exact p.last
 · rcases VY.mp a with z|z
   ·rw[z];exact c
   ·exact p.all x z
theorem RoadOk.path{sz:Int}{r:List Int}(h:RoadOk sz r):PathOk sz r:=⟨λz=>by have:=h.two;rw[z]at this;simp at this,h.last,h.nd,h.all⟩
def nq(sh:Int->Bool)(h:Int)(r:List Int):Bool:=!decide (h∈r)&&!r.any sh
def wc(g:GΩ)(h b:Int):Bool:=(g.sω.get [h,b]).isSome
theorem pz{W:Type}(f:W->Bool):∀l:List W,(l.map f).any id=l.any f
 |[]=>rfl
 |a::l=>by rw[VN,XC,XC,pz f l];rfl
theorem B0(g:GΩ)(a:Int)(c:List Int)(h:c.length<af):(JL g a c).res=.ok (c.any (wc g a)):=by
 have e:∀s:S_m9,s=⟨g,a,c⟩->kE (pC (·.vdq)) (λ_=>.ok true) (aI (uA false) (aJ b9 (g7 (pC λp=>p.2.v0q) (pC λp=>p.1))) (aJ (λg=>.ok g.sω) (pC λp=>p.2.vwq))) s=.ok (c.map (wc g a)):=by
  rintro s rfl;exact vk (l:=c) (wc g a) rfl h λb _=>by simp[wc]
 unfold JL F8 zi;simp only[bB,aN,aJ];rw[e _ rfl];simp[pz]
def rG(sh:Int->Bool)(h:Int)(o:Option (List Int)):Bool:=match o with
 |none=>false
 |some r=>decide (h≠0)&&nq sh h r
theorem LY(g:GΩ)(h:Int)(o:Option (List Int))(b:∀r,o=some r->r.length<af):(vF g h o).res=.ok (rG (wc g h) h o):=by
 unfold vF xg rG;cases o with
 |none=>simp[iM,cZ]
 |some r=>
   by_cases h0:h=0
   ·simp[iM,cZ,h0]
   · by_cases a:h∈r
     ·simp[iM,cZ,h0,a,nq]
     ·simp[iM,cZ,uN,h0,a,nq,B0 g h r (b r rfl)]
theorem tJ(h:Int)(a:List (Int×Int×List Int)):(Aa h a).res=.ok (if h=0 then some [0] else (jV a).map (·.2.2)):=by
 unfold Aa xw;by_cases h0:h=0
 ·simp[kA,ky,h0,af]
 · cases q:jV a with
   |none=>simp[kA,oX,oW,gP,h0,q]
   |some k=>simp[kA,oX,oW,gP,vc,h0,q]
theorem t9:∀{c:List (Int×Int×List Int)} {k:Int×Int×List Int},jV c=some k->k∈c:=by
 intro c;cases c with
 |nil=>intro k h;cases h
 |cons a r=>
   intro k h
   have d:∀(r:List (Int×Int×List Int)) (a:Int×Int×List Int),r.foldl (λb x=>if bj x b=true then x else b) a∈a::r:=by
    intro r
    induction r with
    |nil=>intro a;simp
    |cons x r e=>
      intro a;rw[XA]
      have:=e (if bj x a=true then x else a)
      rcases VY.mp this with z|z
      · rw[z];split
        ·simp
        ·simp
      ·exact VR _ (VR _ z)
   injection h with h
   rw[<-h];exact d r a
def aL(sz:Int)(P:DI Bool)(a:Int):List Int:=(c9 0 sz).filter λb=>(P.get [a,b]).isSome
theorem Al(g:GΩ)(P:DI Bool)(a:Int)(h0:0<=g.hω)(c:g.hω<=1000):(JR g P a).res=.ok (aL g.hω P a):=by
 have e:∀s:S_b9,s=⟨g,P,a⟩->kE (aJ (kT 0) (aJ (λg=>.ok g.hω) (pC (·.vwq)))) (aI (uA false) (aJ b9 (g7 (pC λp=>p.2.v0q) (pC λp=>p.1))) (pC λp=>p.2.vnq)) (pC λp=>p.1) s=.ok (aL g.hω P a):=by
  rintro s rfl;rw[zL (l:=c9 0 g.hω) (λb=>(P.get [a,b]).isSome) (λx=>x) (by simp[fy (lo:=0) (hi:=g.hω) (by omega) (by omega) (by omega) (by omega)]) (by rw[dQ];unfold af;omega) (λb _=>by simp) (λb _ _=>by simp)];simp[aL]
 unfold JR Gk zK;simp only[bB,aN];rw[e _ rfl];rfl
theorem i8(g:GΩ)(a:Int)(b:0<=a/\a<g.hω)(c:g.hω<=1000):(GG g a).res=.ok (aL g.hω g.U a):=by
 have e:=jj g [a] (in1 b) (by omega);have d:=Al g g.U a (by omega) c;unfold GG Gf;simp[zw,zu,e,d,af]
def ai(T:List (Option (List Int)))(h:Int):Option (List Int):=T.getD h.toNat none
theorem Qf{T:List (Option (List Int))}{b:Int}(h0:0<=b)(a:b<T.length):iZ T b=some (ai T b):=by
 rw[fU T h0,List.getElem?_eq_getElem (by omega)];unfold ai;rw[List.getD_eq_getElem?_getD,List.getElem?_eq_getElem (by omega)];rfl
theorem iX{T:List (Option (List Int))}{b:Int}{r:List Int}(h:ai T b=some r):some r∈T:=by
 unfold ai at h;rw[List.getD_eq_getElem?_getD]at h;cases q:T[b.toNat]? with
 |none=>rw[q]at h;cases h
 |some o=>rw[q]at h;have h:o=some r:=h;subst h;exact Wz q
structure TableOk (sz:Int) (T:List (Option (List Int))):Prop where
 len:(T.length:Int)=sz
 all:∀r,some r∈T->PathOk sz r
theorem jm{sz:Int}{P:DI Bool}{a b:Int}(h:b∈aL sz P a):0<=b/\b<sz:=ce.mp (WS.mp h).1
theorem J9{sz:Int}(h:0<sz):PathOk sz [0]:=⟨by simp,rfl,by simp,λx a=>by rw[VU.mp a];omega⟩
theorem TableOk.set{sz:Int}{T:List (Option (List Int))}(h:TableOk sz T)(j:Nat)(o:Option (List Int))(b:∀r,o=some r->PathOk sz r):TableOk sz (T.set j o):=⟨by rw[Wd];exact h.len,λr a=>by
 rcases Xi a with z|z
 ·exact h.all r z
 ·exact b r z.symm⟩
theorem tH(x:Int):(vG x).res=.ok true:=by
 unfold vG xi uQ;simp
theorem cQ{W:P0}{sz:Int}(c:WaysOk sz W)(a b:Int):((a,b)∈W\/(b,a)∈W)↔(min a b,max a b)∈W:=by
 constructor
 · rintro(z|z)
   · have:=(c.all _ z).2.1
     rw[show min a b=a by simp only at this;omega,show max a b=b by simp only at this;omega];exact z
   · have:=(c.all _ z).2.1
     rw[show min a b=b by simp only at this;omega,show max a b=a by simp only at this;omega];exact z
 · intro z;by_cases q:a<=b
   ·rw[show min a b=a by omega,show max a b=b by omega]at z;exact .inl z
   ·rw[show min a b=b by omega,show max a b=a by omega]at z;exact .inr z
theorem tS{g:GΩ}{sz:Int}{W:P0}{L Q:DI Int}{X:P0}(G:GuildIs g sz W L Q X)(c:WaysOk sz W):aL sz g.U=dY W sz:=by
 funext a;unfold aL dY;refine List.filter_congr λb _=>?_;rw[Bool.eq_iff_iff,G.way,cQ c,decide_eq_true_iff]
theorem GuildIs.lay{g:GΩ}{sz:Int}{W:P0}{L Q:DI Int}{X:P0}(G:GuildIs g sz W L Q X)(a b:Int):GuildIs {g with U:=(g.U.put [a,b] true).put [b,a] true} sz (W++[(min a b,max a b)]) L Q X:=by
 refine⟨G.count,λx y=>?_,G.lik,G.wsh,G.shn⟩;show(((g.U.put [a,b] true).put [b,a] true).get [x,y]).isSome=true↔_;rw[cL,cL,VW,VW,VU,VU];by_cases d:[x,y]=[b,a]
 · rw[VL d];injection d with d c;injection c with c;subst d c
   simp only[Yg,true_iff];by_cases q:x<=y
   ·exact .inl (.inr (by rw[show min y x=x by omega,show max y x=y by omega]))
   ·exact .inr (.inr (by rw[show min y x=y by omega,show max y x=x by omega]))
 · rw[on d];by_cases c:[x,y]=[a,b]
   · rw[VL c];injection c with c h;injection h with h;subst c h
     simp only[Yg,true_iff];by_cases q:x<=y
     ·exact .inl (.inr (by rw[show min x y=x by omega,show max x y=y by omega]))
     ·exact .inr (.inr (by rw[show min x y=y by omega,show max x y=x by omega]))
   · rw[on c,G.way];constructor
     · rintro(z|z)
       ·exact .inl (.inl z)
       ·exact .inr (.inl z)
     · have no:∀u v:Int,(u,v)=(min a b,max a b)->[u,v]=[a,b]\/[u,v]=[b,a]:=λu v e=>by
        injection e with e1 f
        by_cases q:a<=b
        ·exact .inl (by rw[e1,f,show min a b=a by omega,show max a b=b by omega])
        ·exact .inr (by rw[e1,f,show min a b=b by omega,show max a b=a by omega])
       have i:∀{u v p q:Int},[u,v]=[p,q]->[v,u]=[q,p]:=λe=>by injection e with e1 f;injection f with f;rw[e1,f]
       rintro((z|z) | (z|z))
       ·exact .inl z
       · rcases no _ _ z with w|w
         ·exact absurd w c
         ·exact absurd w d
       ·exact .inr z
       · rcases no _ _ z with w|w
         ·exact absurd (i w) d
         ·exact absurd (i w) c
theorem GuildIs.lift{g:GΩ}{sz:Int}{W m:P0}{L Q:DI Int}{X:P0}(G:GuildIs g sz W L Q X)(o:WaysOk sz W)(a b:Int)(l:∀p,p∈m↔p∈W/\p≠(min a b,max a b)):GuildIs {g with U:=(g.U.del [a,b]).del [b,a]} sz m L Q X:=by
 refine⟨G.count,λx y=>?_,G.lik,G.wsh,G.shn⟩;show(((g.U.del [a,b]).del [b,a]).get [x,y]).isSome=true↔_;rw[iW,iW,l,l]
 have no:∀u v:Int,(u,v)=(min a b,max a b)->[u,v]=[a,b]\/[u,v]=[b,a]:=λu v e=>by
  injection e with e1 c
  by_cases q:a<=b
  ·exact .inl (by rw[e1,c,show min a b=a by omega,show max a b=b by omega])
  ·exact .inr (by rw[e1,c,show min a b=b by omega,show max a b=a by omega])
 have d:∀u v:Int,(u,v)∈W->[u,v]=[a,b]\/[u,v]=[b,a]->(u,v)=(min a b,max a b):=λu v n e=>by
  have:=(o.all _ n).2.1
  simp only at this;rcases e with e|e<;>(injection e with e1 c;injection c with c;subst e1 c)
  ·rw[show min u v=u by omega,show max u v=v by omega]
  ·rw[show min v u=u by omega,show max v u=v by omega]
 have k:∀{u v p q:Int},[u,v]=[p,q]->[v,u]=[q,p]:=λe=>by injection e with e1 c;injection c with c;rw[e1,c]
 by_cases j:[x,y]=[b,a]
 · rw[VL j];simp only[Option.isSome_none,Xy,false_iff];rintro(⟨h,f⟩|⟨h,f⟩)
   ·exact f (d _ _ h (.inr j))
   ·exact f (d _ _ h (.inl (k j)))
 · rw[on j];by_cases i:[x,y]=[a,b]
   · rw[VL i];simp only[Option.isSome_none,Xy,false_iff];rintro(⟨h,f⟩|⟨h,f⟩)
     ·exact f (d _ _ h (.inl i))
     ·exact f (d _ _ h (.inr (k i)))
   · rw[on i,G.way];constructor
     · rintro(w|w)
       · refine .inl ⟨w,λe=>?_⟩;rcases no _ _ e with v|v
         ·exact i v
         ·exact j v
       · refine .inr ⟨w,λe=>?_⟩;rcases no _ _ e with v|v
         ·exact j (k v)
         ·exact i (k v)
     · rintro(⟨w,_⟩|⟨w,_⟩)
       ·exact .inl w
       ·exact .inr w
theorem CL{W:Type}[DecidableEq W]:∀{xs:List W} {x:W},x∈xs->xs.Nodup->∃b,wq xs x=some ((),b)/\b.Nodup/\b.length<=xs.length/\∀y,y∈b↔y∈xs/\y≠x
 |[],x,h,_=>(nomatch h)
 | z::xs,x,h,nd=>by
   have a:=Wc.mp nd;by_cases e:z=x
   · subst e;refine⟨xs,by unfold wq;simp[List.findIdx?_cons],a.2,by simp,λy=>?_⟩;constructor
     ·exact λd=>⟨VR _ d,λw=>a.1 (w▸d)⟩
     · rintro⟨d,m⟩;rcases VY.mp d with w|w
       ·exact absurd w m
       ·exact w
   · have l:x∈xs:=by
      rcases VY.mp h with w|w
      ·exact absurd w.symm e
      ·exact w
     obtain⟨b,i,p,o,g⟩:=CL l a.2;unfold wq at i;obtain⟨j,n,c⟩:=Option.map_eq_some_iff.mp i;have c:xs.eraseIdx j=b:=by injection c
     refine⟨z::b,?_,Wc.mpr ⟨λw=>a.1 ((g z).mp w).1,p⟩,by simpa using o,λy=>?_⟩
     ·unfold wq;rw[List.findIdx?_cons,decide_eq_false e,n];simp[c]
     · rw[VY,VY,g];constructor
       · rintro(w|⟨k,f⟩)
         ·exact⟨.inl w,by rw[w];exact e⟩
         ·exact⟨.inr k,f⟩
       · rintro⟨w|w,f⟩
         ·exact .inl w
         ·exact .inr ⟨w,f⟩
theorem yK{W X:Type}{f:W->X}:∀{l:List W},(l.map f).Nodup->∀a∈l,∀b∈l,f a=f b->a=b
 |[],_,a,c,_,_,_=>by cases c
 | x::l,h,a,c,b,d,e=>by
   rw[VN,Wc]at h;rcases VY.mp c with z|z<;>rcases VY.mp d with w|w
   ·rw[z,w]
   ·subst z;exact(h.1 (We.mpr ⟨b,w,e.symm⟩)).elim
   ·subst w;exact(h.1 (We.mpr ⟨a,z,e⟩)).elim
   ·exact yK h.2 a z b w e
theorem wB{S:List (List Int)}(j:(S.map cI).Nodup){c:List (List Int)}(f:c.Nodup)(h:∀k∈c,k∈S):(c.map cI).Nodup:=by
 unfold List.Nodup;rw[List.pairwise_map];refine List.Pairwise.imp_of_mem ?_ f;intro a b i g d e;exact d (yK j a (h a i) b (h b g) e)
def Dg(n:Int):List (List Int):=(c9 0 n).flatMap λx=>(c9 0 n).map λy=>[x,y]
theorem AU{n:Int}{k:List Int}(h:PairOk n k):k∈Dg n:=by
 obtain⟨a,b,rfl,f,e,d,c⟩:=h;exact List.mem_flatMap.mpr ⟨a,ce.mpr ⟨f,e⟩,We.mpr ⟨b,ce.mpr ⟨d,c⟩,rfl⟩⟩
theorem PairOk.mono{m n:Int}(c:m<=n){k:List Int}(h:PairOk m k):PairOk n k:=by
 obtain⟨a,b,rfl,e,g,d,f⟩:=h;exact⟨a,b,rfl,e,by omega,d,by omega⟩
theorem AF{sz:Int}(m:sz<=60){g:List (List Int)}(nd:g.Nodup)(h:∀k∈g,PairOk sz k):g.length<=3600:=by
 have:=cR 3600 (g.map λk=>k.getD 0 0*60+k.getD 1 0) (by
  unfold List.Nodup;rw[List.pairwise_map];refine List.Pairwise.imp_of_mem ?_ nd;intro p q hp j f e;obtain⟨a,b,rfl,s,r,o,n⟩:=h p hp;obtain⟨c,d,rfl,y,w,v,u⟩:=h q j;simp at e;have e1:a=c:=by omega
  have t:b=d:=by omega
  rw[e1,t]at f;exact f rfl) (λx i=>by
  obtain⟨k,l,rfl⟩:=We.mp i;obtain⟨a,b,rfl,s,r,o,n⟩:=h k l;simp
  omega)
 rwa [VO]at this
theorem iK{X:Type}{sz:Int}(a:sz<=60){F:DI X}(h:DI.nd F/\∀q∈F,PairOk sz q.1):F.length<=3600:=by
 have nd:(List.map Prod.fst F).Nodup:=h.1
 have:=AF a nd λk c=>by obtain⟨q,b,rfl⟩:=We.mp c;exact h.2 q b
 rwa [VO]at this
theorem IJ{X:Type}{F:DI X}{k:List Int}{v:X}{q:List Int×X}(h:q∈F.put k v):q∈F\/q=(k,v):=by
 unfold DI.put at h;split at h
 · obtain⟨p,hp,e⟩:=We.mp h;by_cases z:p.1=k
   ·rw[VL z]at e;rw[<-e,z];exact .inr rfl
   ·rw[on z]at e;rw[<-e];exact .inl hp
 · rcases VW.mp h with z|z
   ·exact .inl z
   ·exact .inr (VU.mp z)
structure Hs (g:GΩ):Prop where
 U:((g.U.map (·.1)).map cI).Nodup
 lik:((g.lω.map (·.1)).map cI).Nodup
 shn:((g.sω.map (·.1)).map cI).Nodup
 wsh:((g.wω.map (·.1)).map cI).Nodup
theorem LG{Z W:Type}{a:Z->Option (DI W)}{p:Z->DI W->Z}{c:Z->Res (DI W)}{s:Z}{F:DI W}(e:a s=some [])(d:c s=.ok F)(b:((F.map (·.1)).map cI).Nodup):qV a p c s=.ok () (p s F):=by
 unfold qV;rw[e];dsimp only;rw[d];show(if ((F.map (·.1)).map cI).Nodup then OutC.ok () (p s F) else .bad)=_;rw[if_pos b]
theorem mI{Z W X:Type}{a:Z->Option (DI W)}{p:Z->DI W->Z}{c:Z->Res (DI W)}{s:Z}(F:DI W)(e:a s=some [])(d:c s=.ok F)(b:((F.map (·.1)).map cI).Nodup):(aA (qV a p c):Z->FlC Z X) s=.nx (p s F):=by
 unfold aA;rw[LG e d b];rfl
theorem G5{g:GΩ}(c:1<=g.hω)(b:g.hω<=60)(a:Hs g):∃s,GE g=.ok g s:=by
 have e1:sQ ⟨g,none⟩=.nx ⟨g,some ⟨g.hω,[],[],[],[]⟩⟩:=by simp[sQ,f7,c,b]
 have h:sP ⟨g,some ⟨g.hω,[],[],[],[]⟩⟩=.nx ⟨g,some ⟨g.hω,g.U,[],[],[]⟩⟩:=by
  unfold sP;exact mI g.U rfl rfl a.U
 have f:sO ⟨g,some ⟨g.hω,g.U,[],[],[]⟩⟩=.nx ⟨g,some ⟨g.hω,g.U,g.lω,[],[]⟩⟩:=by
  unfold sO;exact mI g.lω rfl rfl a.lik
 have e:sN ⟨g,some ⟨g.hω,g.U,g.lω,[],[]⟩⟩=.nx ⟨g,some ⟨g.hω,g.U,g.lω,g.sω,[]⟩⟩:=by
  unfold sN;exact mI g.sω rfl rfl a.shn
 have d:sM ⟨g,some ⟨g.hω,g.U,g.lω,g.sω,[]⟩⟩=.nx ⟨g,some g⟩:=by
  unfold sM;exact mI g.wω rfl rfl a.wsh
 unfold GE F6;simp only[ak,e1,h,f,e,d];exact⟨_,rfl⟩
abbrev pX:=Int×Int×List Int
def a9(p:PostT)(h:Int):DJ pX:=p.standings.getD h.toNat []
structure PW (sz:Int) (p:PostT):Prop where
 g:Wf sz p.guild
 roads:TableOk sz p.roads
 told:DI.nd p.told_last/\∀q∈p.told_last,PairOk sz q.1
 wrt:DI.nd p.written_last/\∀q∈p.written_last,PairOk sz q.1
 lts:DI.nd p.letters/\∀q∈p.letters,PairOk sz q.1
 ltv:∀q∈p.letters,∀r,q.2=some r->PathOk sz r
 sln:(p.standings.length:Int)=sz
 stn:∀F∈p.standings,DJ.nd F/\∀q∈F,(0<=q.1/\q.1<sz)/\PathOk sz q.2.2.2
def aS(p:PostT)(w r:Int):PostT:=if (p.written_last.get [w,r]).bind id=ai p.roads w then p else {p with written_last:=p.written_last.put [w,r] (ai p.roads w),letters:=p.letters.put [w,r] (ai p.roads w)}
theorem mX{sz:Int}{p:PostT}(P:PW sz p)(a:sz<=60)(w r:Int)(d:0<=w/\w<sz):∃o,qS p w r=.ok () ⟨aS p w r,w,r,o⟩:=by
 have Gq:iZ p.roads w=some (ai p.roads w):=Qf d.1 (by have:=P.roads.len;omega);have e1:oZ ⟨p,w,r,none⟩=.nx ⟨p,w,r,some (ai p.roads w)⟩:=by simp[oZ,Gq]
 have e:=iK a P.wrt;have l2:=iK a P.lts;refine⟨some (ai p.roads w),?_⟩;unfold qS xy aS;simp only[ak,e1];by_cases q:(p.written_last.get [w,r]).bind id=ai p.roads w
 ·rw[VL q];simp[oY,kB,q]
 · rw[if_neg q];have c:p.written_last.length<af:=by unfold af;omega
   have b:p.letters.length<af:=by unfold af;omega
   simp[oY,vf,ve,q,c,b]
theorem PW.write{sz:Int}{p:PostT}(P:PW sz p){w r:Int}(a:0<=w/\w<sz)(b:0<=r/\r<sz):PW sz (aS p w r):=by
 unfold aS;split
 ·exact P
 · have k:PairOk sz [w,r]:=⟨w,r,rfl,a.1,a.2,b.1,b.2⟩;refine⟨P.g,P.roads,P.told,⟨iu P.wrt.1,fA (P:=PairOk sz) P.wrt.2 k⟩,⟨iu P.lts.1,fA (P:=PairOk sz) P.lts.2 k⟩,λq c r e=>?_,P.sln,P.stn⟩;rcases IJ c with z|z
   ·exact P.ltv q z r e
   ·subst z;exact P.roads.all r (iX e)
theorem ij(p:PostT)(w r:Int):(aS p w r).guild=p.guild:=by unfold aS;split<;>rfl
theorem cP(p:PostT)(w r:Int):(aS p w r).roads=p.roads:=by unfold aS;split<;>rfl
theorem kO(p:PostT)(w r:Int):(aS p w r).standings=p.standings:=by unfold aS;split<;>rfl
theorem je(p:PostT)(w r:Int):(aS p w r).told_last=p.told_last:=by unfold aS;split<;>rfl
def writeAll(p:PostT)(w:Int):PostT:=(aL p.guild.hω p.guild.U w).foldl (λp r=>aS p w r) p
theorem eZ{W X:Type}{f:X->W->X}(R:X->Prop):∀(l:List W) (b:X),R b->(∀b a,a∈l->R b->R (f b a))->R (l.foldl f b)
 |[],_,h,_=>h
 |a::l,b,h,st=>eZ R l (f b a) (st b a VP h) λb c d=>st b c (VR _ d)
theorem PW.writeAll{sz:Int}{p:PostT}(P:PW sz p){w:Int}(d:0<=w/\w<sz):PW sz (writeAll p w):=by
 unfold K19.writeAll;exact eZ (PW sz) _ p P λb a c Q=>Q.write d (by rw[P.g.count]at c;exact jm c)
theorem mT(p:PostT)(w:Int):(writeAll p w).guild=p.guild:=eZ (λq=>q.guild=p.guild) _ p rfl λb a _ h=>(ij b w a).trans h
theorem tp(p:PostT)(w:Int):(writeAll p w).roads=p.roads:=eZ (λq=>q.roads=p.roads) _ p rfl λb a _ h=>(cP b w a).trans h
theorem LF(p:PostT)(w:Int):(writeAll p w).standings=p.standings:=eZ (λq=>q.standings=p.standings) _ p rfl λb a _ h=>(kO b w a).trans h
theorem xP(p:PostT)(w:Int):(writeAll p w).told_last=p.told_last:=eZ (λq=>q.told_last=p.told_last) _ p rfl λb a _ h=>(je b w a).trans h
theorem lI{sz:Int}{p:PostT}(P:PW sz p)(d:sz<=60)(w:Int)(b:0<=w/\w<sz):∃o,qR p w=.ok () ⟨writeAll p w,w,o⟩:=by
 have nb:=i8 p.guild w (by rw[P.g.count];exact b) (by rw[P.g.count];omega)
 obtain⟨i,e,o,rfl,_⟩:=lu (u:=λa s=>{s with vsq:=some a}) (c:=jE) (λ(q:PostT) (s:S_bd9)=>∃o,s=⟨q,w,o⟩/\PW sz q) (λq r=>aS q w r) (aL p.guild.hω p.guild.U w) p ⟨p,w,none⟩ ⟨none,rfl,P⟩ (by
  rintro q r s f ⟨o,rfl,Q⟩;obtain⟨j,h⟩:=mX Q d w r b
  exact⟨⟨aS q w r,w,some r⟩,.inl (by simp[jE,h]),some r,rfl,Q.write b (by rw[P.g.count]at f;exact jm f)⟩)
 refine⟨o,?_⟩;unfold qR xx vd writeAll;simp[nb,e]
def bT(h:Int)(F:DJ pX):Option (List Int):=if h=0 then some [0] else (jV (F.map (·.2))).map (·.2.2)
def bc(p:PostT)(h:Int):Bool×PostT:=if bT h (a9 p h)=ai p.roads h then (false,p) else (true,writeAll {p with roads:=p.roads.set h.toNat (bT h (a9 p h))} h)
theorem xV{p:PostT}{h:Int}(h0:0<=h)(a:h<p.standings.length):p.standings[h.toNat]?=some (a9 p h):=by
 unfold a9;rw[List.getD_eq_getElem?_getD,List.getElem?_eq_getElem (by omega)];rfl
theorem ph{sz h:Int}{F:DJ pX}(h0:0<sz)(hF:∀q∈F,PathOk sz q.2.2.2){r:List Int}(e:bT h F=some r):PathOk sz r:=by
 unfold bT at e;split at e
 ·cases e;exact J9 h0
 ·obtain⟨k,b,rfl⟩:=V7.mp e;obtain⟨q,a,rfl⟩:=We.mp (t9 b);exact hF q a
theorem PW.st{sz:Int}{p:PostT}(P:PW sz p){h:Int}(a:0<=h/\h<sz):DJ.nd (a9 p h)/\∀q∈a9 p h,(0<=q.1/\q.1<sz)/\PathOk sz q.2.2.2:=
 P.stn _ (Wz (xV a.1 (by have:=P.sln;omega)))
theorem PW.set{sz:Int}{p:PostT}(P:PW sz p)(j:Nat)(o:Option (List Int))(a:∀r,o=some r->PathOk sz r):PW sz {p with roads:=p.roads.set j o}:=⟨P.g,P.roads.set j o a,P.told,P.wrt,P.lts,P.ltv,P.sln,P.stn⟩
theorem PW.choose{sz:Int}{p:PostT}(P:PW sz p)(h0:0<sz){h:Int}(a:0<=h/\h<sz):PW sz (bc p h).2:=by
 unfold bc;split
 ·exact P
 ·exact(P.set _ _ λr e=>ph h0 (λq b=>((P.st a).2 q b).2) e).writeAll a
theorem kR{sz:Int}{p:PostT}(P:PW sz p)(d:sz<=60)(h:Int)(a:0<=h/\h<sz):∃o,BC p h=.ok (bc p h).1 ⟨(bc p h).2,h,o⟩:=by
 have Gq:iZ p.roads h=some (ai p.roads h):=Qf a.1 (by have:=P.roads.len;omega);have c:p.standings[h.toNat]?=some (a9 p h):=xV a.1 (by have:=P.sln;omega);have b:=tJ h ((a9 p h).map (·.2))
 have e1:sG ⟨p,h,none⟩=.nx ⟨p,h,some (bT h (a9 p h))⟩:=by
  simp[sG,a.1,c,b,bT]
 unfold BC F2 bc;simp only[ak,e1];by_cases q:bT h (a9 p h)=ai p.roads h
 ·rw[VL q];exact⟨some (bT h (a9 p h)),by simp[sF,mf,Gq,q]⟩
 ·rw[on q];have f:nF p.roads.length h=some h.toNat:=wQ a.1 (by have:=P.roads.len;omega);have j:=P.set h.toNat (bT h (a9 p h)) λr e=>ph (sz:=sz) (by omega) (λq g=>((P.st a).2 q g).2) e;obtain⟨o,i⟩:=lI j d h a;exact⟨some (bT h (a9 p h)),by simp[sF,zc,y9,y8,Gq,q,f,i]⟩
def nH(g:GΩ)(F:DJ pX)(w r:Int)(o:Option (List Int)):DJ pX:=if rG (wc g r) r o=true then DJ.put F w (bA g.lω g.wω (r::o.getD [])) else DJ.del F w
def qy(p:PostT)(w r:Int)(o:Option (List Int)):PostT:={p with told_last:=p.told_last.put [w,r] o,standings:=p.standings.set r.toNat (nH p.guild (a9 p r) w r o)}
def aH(p:PostT)(w r:Int):PostT:={p with letters:=p.letters.del [w,r],told_last:=p.told_last.del [w,r],written_last:=p.written_last.del [w,r],standings:=p.standings.set r.toNat (DJ.del (a9 p r) w)}
theorem Bg{X:Type}{F:DJ X}{k:Int}(h:DJ.get F k=none):DJ.del F k=F:=by
 unfold DJ.get at h;unfold DJ.del;rw[Option.map_eq_none_iff,List.find?_eq_none]at h;rw[List.filter_eq_self];exact λp hp=>by simpa using h p hp
theorem FD{X:Type}{F:DI X}{k:List Int}(h:F.get k=none):F.del k=F:=by
 unfold DI.get at h;unfold DI.del;rw[Option.map_eq_none_iff,List.find?_eq_none]at h;rw[List.filter_eq_self];exact λp hp=>by simpa using h p hp
theorem DQ{X:Type}{F:DJ X}{k:Int}{v:X}{q:Int×X}(h:q∈DJ.put F k v):q∈F\/q=(k,v):=by
 unfold DJ.put at h;split at h
 · obtain⟨p,hp,e⟩:=We.mp h;by_cases z:p.1=k
   ·rw[VL z]at e;rw[<-e,z];exact .inr rfl
   ·rw[on z]at e;rw[<-e];exact .inl hp
 · rcases VW.mp h with z|z
   ·exact .inl z
   ·exact .inr (VU.mp z)
theorem xU{p:PostT}{h:Int}(h0:0<=h)(a:h<p.standings.length):p.standings.set h.toNat (a9 p h)=p.standings:=by
 refine Yq λi=>?_;rw[List.getElem?_set];split
 ·rename_i e;subst e;rw[VL (by omega),xV h0 a]
 ·rfl
theorem rB{Z W X:Type}{g:Z->Option (DI (Option W))}{p:Z->DI (Option W)->Z}{ck:Z->Res (List Int)}{s:Z}(F:DI (Option W))(k:List Int)(c:g s=some F)(b:ck s=.ok k)(a:p s F=s):(aA (ji g p ck):Z->FlC Z X) s=.nx (p s (F.del k)):=by
 unfold aA ji;rw[c];dsimp only;rw[b];dsimp only[bndO];cases q:DI.get F k with
 |none=>rw[FD q,a];rfl
 |some x=>rfl
theorem yH{Z W X:Type}{g:Z->Option (DJ W)}{p:Z->DJ W->Z}{ck:Z->Res Int}{s:Z}(F:DJ W)(k:Int)(c:g s=some F)(b:ck s=.ok k)(a:p s F=s):(aA (qt g p ck):Z->FlC Z X) s=.nx (p s (DJ.del F k)):=by
 unfold aA qt;rw[c];dsimp only;rw[b];dsimp only[bndO];cases q:DJ.get F k with
 |none=>rw[Bg q,a];rfl
 |some x=>rfl
theorem Lf{p:PostT}{h:Int}(h0:0<=h)(a:h<p.standings.length):(if 0<=h then p.standings[h.toNat]? else none)=some (a9 p h):=by rw[VL h0,xV h0 a]
theorem GZ{sz:Int}{F:DJ pX}(c:sz<=60)(h:DJ.nd F/\∀q∈F,(0<=q.1/\q.1<sz)/\PathOk sz q.2.2.2):F.length<=60:=by
 have nd:(List.map Prod.fst F).Nodup:=h.1
 have:=cR 60 _ nd λx a=>by
  obtain⟨q,b,rfl⟩:=We.mp a
  have:=(h.2 q b).1
  omega
 rwa [VO]at this
theorem Hh{sz:Int}{p:PostT}(P:PW sz p)(c:sz<=60)(w r:Int)(d:0<=r/\r<sz)(o:Option (List Int))(h:∀t,o=some t->PathOk sz t):JF p w r o=.ok () ⟨qy p w r o,w,r,o⟩:=by
 have A:=iK c P.told;have n:p.told_last.length<af:=by unfold af;omega
 have e1:sk ⟨p,w,r,o⟩=.nx ⟨{p with told_last:=p.told_last.put [w,r] o},w,r,o⟩:=by simp[sk,n]
 have i:r<p.standings.length:=by have:=P.sln;omega
 have j:=Lf d.1 i;have b:=LY p.guild r o λt e=>by have:=(h t e).len;unfold af;omega
 have lst:=GZ c (P.st d);have m:(a9 p r).length<af:=by unfold af;omega
 unfold JF FX qy nH;simp only[ak,e1];by_cases q:rG (wc p.guild r) r o=true
 · rw[VL q];cases o with
   |none=>cases q
   |some t=>
     have hp:=h t rfl
     have v:r∉t:=by
      have a:nq (wc p.guild r) r t=true:=by
       unfold rG at q;revert q;simp
      unfold nq at a;simp at a;exact a.1
     have u:=LZ p.guild (r::t) (by rw[P.g.count];exact hp.road d v) (by rw[P.g.count];omega);have z:=hp.len;have ct:([r]:List Int).length+t.length<=af:=by unfold af;simp;omega
     have l:1<=af:=by unfold af;omega
     have k:1+t.length<=af:=by simpa using ct
     simp[sj,l8,b,q,l,k,u,j,m]
 · rw[on q];have a:rG (wc p.guild r) r o=false:=by simpa using q
   have f:=yH (X:=Unit) (g:=gI (λs:S_x9=>some s.vwq.standings) (λs=>some s.vsq)) (p:=pI (λs:S_x9=>some s.vwq.standings) (λs y=>{s with vwq:={s.vwq with standings:=y}}) (λs=>some s.vsq)) (ck:=pC (·.vDq)) (s:=⟨{p with told_last:=p.told_last.put [w,r] o},w,r,o⟩) (a9 p r) w j rfl (by
    show S_x9.mk _ w r o=_
    rw[xU d.1 i])
   unfold sj l9
   have x:(aN (kW vF (aJ (λg=>.ok g.guild) (pC (·.vwq))) (pC (·.vsq)) (pC (·.vtq))):S_x9->OutC S_x9 Bool) ⟨{p with told_last:=p.told_last.put [w,r] o},w,r,o⟩=.ok false ⟨{p with told_last:=p.told_last.put [w,r] o},w,r,o⟩:=by
    simp[b,a]
   unfold ic;rw[x];show bx (some ()) ((aA _:S_x9->FlC S_x9 Unit) _)=_;rw[f];rfl
theorem PW.hear{sz:Int}{p:PostT}(P:PW sz p){w r:Int}(c:0<=w/\w<sz)(a:0<=r/\r<sz)(o:Option (List Int))(e:∀t,o=some t->PathOk sz t):PW sz (qy p w r o):=by
 have k:PairOk sz [w,r]:=⟨w,r,rfl,c.1,c.2,a.1,a.2⟩;refine⟨P.g,P.roads,⟨iu P.told.1,fA (P:=PairOk sz) P.told.2 k⟩,P.wrt,P.lts,P.ltv,by show((p.standings.set _ _).length:Int)=sz;rw[Wd];exact P.sln,λF hF=>?_⟩;rcases Xi hF with z|z
 ·exact P.stn F z
 · subst z;unfold nH;split
   · rename_i q;cases o with
     |none=>cases q
     |some t=>
       have hp:=e t rfl
       have f:r∉t:=by
        have b:nq (wc p.guild r) r t=true:=by
         unfold rG at q;revert q;simp
        unfold nq at b;simp at b;exact b.1
       refine⟨IC (P.st a).1,λq d=>?_⟩;rcases DQ d with z|z
       ·exact(P.st a).2 q z
       ·subst z;exact⟨c,(hp.road a f).path⟩
   ·exact⟨yu (P.st a).1,λq d=>(P.st a).2 q (WS.mp d).1⟩
theorem p8{sz:Int}{p:PostT}(P:PW sz p)(w r:Int)(a:0<=r/\r<sz):GC p w r=.ok () ⟨aH p w r,w,r⟩:=by
 have b:r<p.standings.length:=by have:=P.sln;omega
 have e1:sv ⟨p,w,r⟩=.nx ⟨{p with letters:=p.letters.del [w,r]},w,r⟩:=by unfold sv;exact rB p.letters [w,r] rfl rfl rfl
 have e:sr ⟨{p with letters:=p.letters.del [w,r]},w,r⟩=.nx ⟨{p with letters:=p.letters.del [w,r],told_last:=p.told_last.del [w,r]},w,r⟩:=by unfold sr;exact rB p.told_last [w,r] rfl rfl rfl
 have d:sn ⟨{p with letters:=p.letters.del [w,r],told_last:=p.told_last.del [w,r]},w,r⟩=.nx ⟨{p with letters:=p.letters.del [w,r],told_last:=p.told_last.del [w,r],written_last:=p.written_last.del [w,r]},w,r⟩:=by unfold sn;exact rB p.written_last [w,r] rfl rfl rfl
 have c:sm ⟨{p with letters:=p.letters.del [w,r],told_last:=p.told_last.del [w,r],written_last:=p.written_last.del [w,r]},w,r⟩=.nx ⟨aH p w r,w,r⟩:=by
  unfold sm
  exact yH (a9 p r) w (Lf a.1 b) rfl (by
   show S_w9.mk _ w r=_
   rw[xU a.1 b])
 unfold GC FY;simp only[ak,e1,e,d,c];rfl
theorem PW.forget{sz:Int}{p:PostT}(P:PW sz p)(w r:Int)(b:0<=r/\r<sz):PW sz (aH p w r):=by
 refine⟨P.g,P.roads,⟨kZ P.told.1,λq a=>P.told.2 q (fD a)⟩,⟨kZ P.wrt.1,λq a=>P.wrt.2 q (fD a)⟩,⟨kZ P.lts.1,λq a=>P.lts.2 q (fD a)⟩,λq a=>P.ltv q (fD a),by show((p.standings.set _ _).length:Int)=sz;rw[Wd];exact P.sln,λF hF=>?_⟩;rcases Xi hF with z|z
 ·exact P.stn F z
 ·subst z;exact⟨yu (P.st b).1,λq a=>(P.st b).2 q (WS.mp a).1⟩
def bW(p:PostT)(a b:Int):Bool×PostT:=bc (qy {p with letters:=p.letters.del [a,b]} a b ((p.letters.get [a,b]).bind id)) b
theorem PW.del{sz:Int}{p:PostT}(P:PW sz p)(k:List Int):PW sz {p with letters:=p.letters.del k}:=⟨P.g,P.roads,P.told,P.wrt,⟨kZ P.lts.1,λq a=>P.lts.2 q (fD a)⟩,λq a=>P.ltv q (fD a),P.sln,P.stn⟩
theorem PW.pair{sz:Int}{p:PostT}(P:PW sz p){a b:Int}{o:Option (List Int)}(h:p.letters.get [a,b]=some o):(0<=a/\a<sz)/\(0<=b/\b<sz)/\∀t,o=some t->PathOk sz t:=by
 have d:=nJ h;obtain⟨x,y,e,j,i,g,f⟩:=P.lts.2 _ d;injection e with e1 c
 injection c with c
 subst e1 c;exact⟨⟨j,i⟩,⟨g,f⟩,λt e=>P.ltv _ d t e⟩
theorem PW.carry{sz:Int}{p:PostT}(P:PW sz p)(h0:0<sz){a b:Int}{o:Option (List Int)}(h:p.letters.get [a,b]=some o):PW sz (bW p a b).2:=by
 obtain⟨e,c,d⟩:=P.pair h;unfold bW;rw[h];exact((P.del [a,b]).hear e c o d).choose h0 c
theorem tI{sz:Int}{p:PostT}(P:PW sz p)(c:sz<=60){a b:Int}{o:Option (List Int)}(h:p.letters.get [a,b]=some o):GD p a b=.ok (bW p a b).1 ⟨(bW p a b).2,a,b⟩:=by
 obtain⟨f,d,e⟩:=P.pair h;have j:=jj p.guild [a,b] (by rw[P.g.count];exact UH f d) (by rw[P.g.count];omega);have i:2<=af:=by unfold af;omega
 have e1:sL ⟨p,a,b⟩=.nx ⟨p,a,b⟩:=by simp[sL,j,i]
 have m:sK ⟨p,a,b⟩=.nx ⟨p,a,b⟩:=by simp[sK,h]
 have k:=Hh (P.del [a,b]) c a b d o e;have l:sJ ⟨p,a,b⟩=.nx ⟨qy {p with letters:=p.letters.del [a,b]} a b o,a,b⟩:=by simp[sJ,h,k]
 obtain⟨n,ch⟩:=kR ((P.del [a,b]).hear f d o e) c b d;unfold GD F4 bW;rw[h];simp only[ak,e1,m,l];simp[ze,ch]
def bM(p:PostT):PostT:=match p.letters with
 |[]=>p
 |q::_=>(bW p (q.1.getD 0 0) (q.1.getD 1 0)).2
theorem PW.first{sz:Int}{p:PostT}(P:PW sz p){q:List Int×Option (List Int)}{t:DI (Option (List Int))}(e:p.letters=q::t):∃a b,q.1=[a,b]/\p.letters.get [a,b]=some q.2:=by
 have c:q∈p.letters:=by rw[e];exact VP
 obtain⟨a,b,d,_⟩:=P.lts.2 q c;exact⟨a,b,d,dC P.lts.1 (by rw[<-d];exact c)⟩
theorem PW.next{sz:Int}{p:PostT}(P:PW sz p)(h0:0<sz):PW sz (bM p):=by
 unfold bM;cases e:p.letters with
 |nil=>exact P
 |cons q t=>
   obtain⟨a,b,d,c⟩:=P.first e;dsimp only;rw[d];exact P.carry h0 c
theorem Hc{sz:Int}{p:PostT}(P:PW sz p)(d:sz<=60)(c:p.letters≠[]):∃b o,JI p=.ok b ⟨bM p,o⟩:=by
 cases e:p.letters with
 |nil=>exact absurd e c
 |cons q t=>
   obtain⟨a,b,f,g⟩:=P.first e
   have h:(JG p).res=.ok [a,b]:=by
    unfold JG FZ;simp[y7,e,f]
   have e1:sI ⟨p,none⟩=.nx ⟨p,some [a,b]⟩:=by simp[sI,h]
   have i:=tI P d g;refine⟨(bW p a b).1,some [a,b],?_⟩;unfold JI F3 bM;rw[e];dsimp only;rw[f];simp only[ak,e1];simp[zd,Gq,UL,i]
def aW:Nat->PostT->Nat×PostT
 |0,p=>(0,p)
 |n+1,p=>if p.letters=[] then (0,p) else ((aW n (bM p)).1+1,(aW n (bM p)).2)
theorem lK{sz:Int}(h0:0<sz)(d:sz<=60)(a:Int):∀(n fuel:Nat) (c:Int) (p:PostT),PW sz p->n<fuel->c+n=a->
 BH (aN (lG (aI La (vC λp:S_ba9=>p.v3q) (pC (·.viq))) (aI GO (aJ yF (aJ (λg=>.ok g.letters) (pC (·.vwq)))) (kC (0:Int))))) kH fuel ⟨p,a,some c⟩=.nx ⟨(aW n p).2,a,some (c+(aW n p).1)⟩
 |n,0,c,p,P,h,i=>absurd h (YO _)
 | 0,f+1,c,p,P,h,i=>by
   have:¬ c<a:=by omega
   unfold BH;simp[this,aW]
 | n+1,f+1,c,p,P,h,i=>by
   have lt:c<a:=by omega
   unfold BH aW;by_cases q:p.letters=[]
   ·rw[VL q];simp[lt,q]
   · rw[on q]
     have l:0<p.letters.length:=by
      cases e:p.letters with
      |nil=>exact absurd e q
      |cons _ _=>simp
     obtain⟨b,o,nx⟩:=Hc P d q;have k:=lK h0 d a n f (c+1) (bM p) (P.next h0) (by omega) (by omega)
     have bd:kH ⟨p,a,some c⟩=.nx ⟨bM p,a,some (c+1)⟩:=by
      unfold kH;simp[o3,o0,nx]
     have j:(aN (lG (aI La (vC λp:S_ba9=>p.v3q) (pC (·.viq))) (aI GO (aJ yF (aJ (λg=>.ok g.letters) (pC (·.vwq)))) (kC (0:Int))))) ⟨p,a,some c⟩=.ok true (⟨p,a,some c⟩:S_ba9):=by
      have:(0:Int)<p.letters.length:=by omega
      simp[lt,l]
     rw[j];dsimp only;rw[bd];dsimp only;rw[k]
     have:c+1+((aW n (bM p)).1:Int)=c+(((aW n (bM p)).1+1:Nat):Int):=by omega
     rw[this]
theorem Ak{sz:Int}{p:PostT}(P:PW sz p)(h0:0<sz)(a:sz<=60)(n:Nat)(d:n<100000):vJ p n=.ok ((aW n p).1:Int) ⟨(aW n p).2,n,some ((aW n p).1:Int)⟩:=by
 have b:=lK h0 a n n 100000 0 p P (by omega) (by omega);rw[Int.zero_add]at b;unfold vJ xA;have e1:o5 ⟨p,n,none⟩=.nx ⟨p,n,some 0⟩:=by simp[o5]
 have c:o4 ⟨p,n,some 0⟩=.nx ⟨(aW n p).2,n,some ((aW n p).1:Int)⟩:=by unfold o4;exact b
 simp only[ak,e1,c];simp[vh]
theorem B8(o:Option (List Int)):(qQ o).res=.ok o:=by
 unfold qQ xu;cases o with
 |none=>simp[oV,ku]
 |some r=>simp[oV,va]
def bJ(p:PostT):List (Int×Int×Option (List Int)):=p.letters.map λq=>(q.1.getD 0 0,q.1.getD 1 0,q.2)
theorem mY{sz:Int}{p:PostT}(P:PW sz p)(d:sz<=60):(vI p).res=.ok (bJ p):=by
 have l2:=iK d P.lts
 have c:=vk (Z:=S_bb9) (src:=aJ qq (aJ (λg=>.ok g.letters) (pC (·.vwq)))) (te:=g7 (aI ja (pC λp=>p.1) (kC (0:Int))) (g7 (aI ja (pC λp=>p.1) (kC (1:Int))) (mw qQ (aI QE (aJ (λg=>.ok g.letters) (pC λp=>p.2.vwq)) (pC λp=>p.1))))) (s:=⟨p⟩) (l:=p.letters.map (·.1)) (λk=>(k.getD 0 0,k.getD 1 0,(p.letters.get k).bind id)) rfl (by rw[List.length_map];unfold af;omega) (λk j=>by
  obtain⟨v,f,i⟩:=rO P.lts.1 j;obtain⟨a,b,e,_⟩:=P.lts.2 _ i;have e:k=[a,b]:=e;subst e
  simp[Gq,UL,f,B8])
 unfold vI xz vg;simp only[bB,aN,c];simp only[Js,bx,Mm];congr 1;unfold bJ;rw[List.map_map];refine List.map_congr_left λq h=>?_
 have:=dC P.lts.1 (show(q.1,q.2)∈p.letters from h)
 show(q.1.getD 0 0,q.1.getD 1 0,(p.letters.get q.1).bind id)=_;rw[this];rfl
theorem gW(p:PostT)(h:Int):(bc p h).2.guild=p.guild:=by
 unfold bc;split
 ·rfl
 ·exact mT _ _
theorem ml(p:PostT)(a b:Int):(bW p a b).2.guild=p.guild:=by unfold bW;rw[gW];rfl
def cf(p:PostT)(a b:Int):PostT:={p with guild:={p.guild with U:=(p.guild.U.del [a,b]).del [b,a]}}
def mz(p:PostT)(a b:Int):PostT:={p with guild:={p.guild with U:=(p.guild.U.put [a,b] true).put [b,a] true}}
def j9(p:PostT)(a b:Int):PostT:=(bc (bc (aH (aH (cf p a b) a b) b a) (min a b)).2 (max a b)).2
def cG(p:PostT)(a b:Int):PostT:=aS (aS (mz p a b) (min a b) (max a b)) (max a b) (min a b)
theorem PW.guild{sz:Int}{p:PostT}(P:PW sz p){g:GΩ}(a:Wf sz g):PW sz {p with guild:=g}:=⟨a,P.roads,P.told,P.wrt,P.lts,P.ltv,P.sln,P.stn⟩
theorem t5{a b sz:Int}(d:0<=a/\a<sz)(c:0<=b/\b<sz):(0<=min a b/\min a b<sz)/\(0<=max a b/\max a b<sz):=by omega
theorem PW.rise{sz:Int}{p:PostT}(P:PW sz p){a b:Int}(f:0<=a/\a<sz)(e:0<=b/\b<sz):PW sz (cG p a b):=by
 obtain⟨d,c⟩:=t5 f e;exact((P.guild (P.g.lay f e)).write d c).write c d
theorem wW(p:PostT)(a b:Int):(j9 p a b).guild=(cf p a b).guild:=by
 unfold j9;rw[gW,gW];rfl
theorem jk(p:PostT)(a b:Int):(cG p a b).guild=(mz p a b).guild:=by
 unfold cG;rw[ij,ij]
theorem Hi{sz:Int}{p:PostT}(P:PW sz p)(c:sz<=60){a b:Int}(e:0<=a/\a<sz)(d:0<=b/\b<sz)(h:a≠b)(o:(p.guild.U.get [a,b]).isSome=true)(f:(p.guild.U.get [b,a]).isSome=true):JH p a b=.ok () ⟨j9 p a b,a,b⟩:=by
 obtain⟨i,n⟩:=t5 e d;have h0:0<sz:=by omega
 have m:=Hg p.guild a b (by rw[P.g.count];exact e) (by rw[P.g.count];exact d) h o f;have W:PW sz (cf p a b):=P.guild (P.g.lift a b);have r:=p8 W a b d;have j:=W.forget a b d;have q:=p8 j b a e;have P3:=j.forget b a e;obtain⟨A,x⟩:=kR P3 c (min a b) i;have y:=P3.choose h0 i;obtain⟨z,w⟩:=kR y c (max a b) n;have l:(if b<a then b else a)=min a b:=by rw[Y8];split<;>split<;>omega
 have k:(if a<b then b else a)=max a b:=by rw[Ys];split<;>split<;>omega
 have e1:sE ⟨p,a,b⟩=.nx ⟨cf p a b,a,b⟩:=by simp[sE,m,cf]
 have v:sD ⟨cf p a b,a,b⟩=.nx ⟨aH (cf p a b) a b,a,b⟩:=by simp[sD,r]
 have u:sC ⟨aH (cf p a b) a b,a,b⟩=.nx ⟨aH (aH (cf p a b) a b) b a,a,b⟩:=by simp[sC,q]
 have t:sy ⟨aH (aH (cf p a b) a b) b a,a,b⟩=.nx ⟨(bc (aH (aH (cf p a b) a b) b a) (min a b)).2,a,b⟩:=by simp[sy,l,x]
 have s:sx ⟨(bc (aH (aH (cf p a b) a b) b a) (min a b)).2,a,b⟩=.nx ⟨j9 p a b,a,b⟩:=by simp[sx,k,w,j9]
 unfold JH F1;simp only[ak,e1,v,u,t,s];rfl
theorem G8{sz:Int}{p:PostT}(P:PW sz p)(c:sz<=60){a b:Int}(f:0<=a/\a<sz)(e:0<=b/\b<sz)(d:a≠b)(m:p.guild.U.get [a,b]=none):JE p a b=.ok () ⟨cG p a b,a,b⟩:=by
 obtain⟨k,j⟩:=t5 f e;have t:=iK c P.g.U;have l:=B6 p.guild a b (by rw[P.g.count];exact f) (by rw[P.g.count];exact e) d m (by unfold af;omega);have W:PW sz (mz p a b):=P.guild (P.g.lay f e);obtain⟨v,r⟩:=mX W c (min a b) (max a b) k;have s:=W.write k j;obtain⟨u,q⟩:=mX s c (max a b) (min a b) j;have i:(if b<a then b else a)=min a b:=by rw[Int.min_def];split<;>split<;>omega
 have h:(if a<b then b else a)=max a b:=by rw[Ys];split<;>split<;>omega
 have e1:si ⟨p,a,b⟩=.nx ⟨mz p a b,a,b⟩:=by simp[si,l,mz]
 have o:sf ⟨mz p a b,a,b⟩=.nx ⟨aS (mz p a b) (min a b) (max a b),a,b⟩:=by simp[sf,i,h,r]
 have n:r9 ⟨aS (mz p a b) (min a b) (max a b),a,b⟩=.nx ⟨cG p a b,a,b⟩:=by simp[r9,i,h,q,cG]
 unfold JE FW;simp only[ak,e1,o,n];rfl
theorem qA{W:Type}(n k:Nat)(d:W):(List.replicate n d).getD k d=d:=by
 rw[V5,Xq];split<;>rfl
theorem PW.new{g:GΩ}{sz:Int}(h:Wf sz g)(c:1<=sz):PW sz (dq g sz.toNat):=by
 refine⟨h,⟨?_,λr b=>?_⟩,⟨by unfold DI.nd;exact List.Pairwise.nil,λq a=>(nomatch a)⟩,⟨by unfold DI.nd;exact List.Pairwise.nil,λq a=>(nomatch a)⟩,⟨by unfold DI.nd;exact List.Pairwise.nil,λq a=>(nomatch a)⟩,λq a=>(nomatch a),?_,λF hF=>?_⟩
 ·show(((List.replicate sz.toNat none).set 0 (some [0])).length:Int)=sz;rw[Wd,WN];omega
 · rcases Xi b with z|z
   ·have:=(XR.mp z).2;cases this
   ·cases z;exact J9 (by omega)
 ·show((List.replicate sz.toNat ([]:DJ pX)).length:Int)=sz;rw[WN];omega
 · have:=(XR.mp hF).2
   subst this;exact⟨by unfold DJ.nd;exact List.Pairwise.nil,λq a=>(nomatch a)⟩
def t4(g:GΩ):PostT:=writeAll (dq g g.hω.toNat) 0
theorem Hb{g:GΩ}{sz:Int}(h:Wf sz g)(d:Hs g)(f:1<=sz)(a:sz<=60):jU g=.ok (t4 g):=by
 have e:=h.count;obtain⟨s,c⟩:=G5 (by omega) (by omega) d;have P:=PW.new h f;obtain⟨o,b⟩:=lI P a 0 (by omega);unfold jU t4;rw[c];dsimp only;rw[if_pos (by omega),e,b]
theorem AO(g:GΩ):(t4 g).guild=g:=by unfold t4;exact mT _ _
theorem BI{sz:Int}(f:sz<=60){W:P0}(nd:W.Nodup)(all:∀p∈W,0<=p.1/\p.1<p.2/\p.2<sz):W.length<=3600:=by
 have:=cR 3600 (W.map λp=>p.1*60+p.2) (by
  unfold List.Nodup;rw[List.pairwise_map];refine List.Pairwise.imp_of_mem ?_ nd;intro p c hp a b e;have g:=all p hp;have h:=all c a;exact b (Prod.ext (by omega) (by omega))) (λx d=>by
  obtain⟨p,hp,rfl⟩:=We.mp d;have g:=all p hp
  omega)
 rwa [VO]at this
theorem GQ{sz:Int}{p:PostT}(P:PW sz p){i:Nat}(hi:i<(bJ p).length):∃a b o,(bJ p)[i]?=some (a,b,o)/\p.letters.get [a,b]=some o:=by
 have c:i<p.letters.length:=by unfold bJ at hi;rwa [List.length_map]at hi
 have d:p.letters[i]∈p.letters:=List.getElem_mem c;obtain⟨a,b,e,_⟩:=P.lts.2 _ d;refine⟨a,b,p.letters[i].2,?_,dC P.lts.1 (by rw[<-e];exact d)⟩;unfold bJ;rw[List.getElem?_map,List.getElem?_eq_getElem c];simp[e]
def bX(p:PostT)(w r:Int):Option (List Int):=(p.told_last.get [w,r]).bind id
def fM(p:PostT)(w r:Int):Option (List Int):=(p.written_last.get [w,r]).bind id
abbrev nb(p:PostT)(w r:Int):Prop:=(p.guild.U.get [w,r]).isSome=true
def wP(g:GΩ)(r:Int)(o:Option (List Int)):Option pX:=if rG (wc g r) r o=true then some (bA g.lω g.wω (r::o.getD [])) else none
structure Mid (sz b c:Int) (p:PostT):Prop where
 pw:PW sz p
 wrt:∀w r,nb p w r->fM p w r=ai p.roads w
 wnb:∀w r t,fM p w r=some t->nb p w r
 lts:∀w r o,p.letters.get [w,r]=some o->nb p w r/\o=ai p.roads w
 told:∀w r,nb p w r->p.letters.get [w,r]=none->bX p w r=ai p.roads w
 tnb:∀w r t,bX p w r=some t->nb p w r
 stn:∀r w,0<=r/\r<sz->DJ.get (a9 p r) w=wP p.guild r (bX p w r)
 best:∀h,0<=h/\h<sz->h≠b->h≠c->ai p.roads h=bT h (a9 p h)
structure Live (sz:Int) (p:PostT):Prop where
 mid:Mid sz (-1) (-1) p
 all:∀h,0<=h/\h<sz->ai p.roads h=bT h (a9 p h)
theorem Live.of{sz:Int}{p:PostT}(M:Mid sz (-1) (-1) p):Live sz p:=⟨M,λh a=>M.best h a (by omega) (by omega)⟩
theorem PW.nb_in{sz:Int}{p:PostT}(P:PW sz p){w r:Int}(h:nb p w r):(0<=w/\w<sz)/\(0<=r/\r<sz):=by
 unfold nb at h;cases q:p.guild.U.get [w,r] with
 |none=>rw[q]at h;cases h
 |some v=>
   obtain⟨x,y,e,f,d,c,b⟩:=P.g.U.2 _ (nJ q);injection e with e1 a
   injection a with a
   subst e1 a;exact⟨⟨f,d⟩,c,b⟩
theorem k8{p:PostT}{w y:Int}:y∈aL p.guild.hω p.guild.U w↔(0<=y/\y<p.guild.hω)/\nb p w y:=by
 unfold aL nb;rw[List.mem_filter,ce]
theorem eJ(p:PostT)(w r:Int)(k:List Int):(aS p w r).written_last.get k=if k=[w,r]/\fM p w r≠ai p.roads w then some (ai p.roads w) else p.written_last.get k:=by
 unfold aS fM;by_cases q:(p.written_last.get [w,r]).bind id=ai p.roads w
 ·rw[VL q,on λz=>z.2 q]
 · rw[on q];show(p.written_last.put [w,r] _).get k=_;rw[cL];by_cases z:k=[w,r]
   ·rw[VL z,VL ⟨z,q⟩]
   ·rw[on z,on λy=>z y.1]
theorem jf(p:PostT)(w r:Int)(k:List Int):(aS p w r).letters.get k=if k=[w,r]/\fM p w r≠ai p.roads w then some (ai p.roads w) else p.letters.get k:=by
 unfold aS fM;by_cases q:(p.written_last.get [w,r]).bind id=ai p.roads w
 ·rw[VL q,on λz=>z.2 q]
 · rw[on q];show(p.letters.put [w,r] _).get k=_;rw[cL];by_cases z:k=[w,r]
   ·rw[VL z,VL ⟨z,q⟩]
   ·rw[on z,on λy=>z y.1]
theorem nM(w:Int):∀(l:List Int) (p:PostT),l.Nodup->(∀y∈l,fM p w y≠ai p.roads w)->∀x y,
 (l.foldl (λp r=>aS p w r) p).written_last.get [x,y]=(if x=w/\y∈l then some (ai p.roads w) else p.written_last.get [x,y])/\(l.foldl (λp r=>aS p w r) p).letters.get [x,y]=(if x=w/\y∈l then some (ai p.roads w) else p.letters.get [x,y])
 |[],p,_,_,x,y=>by simp
 | r::l,p,nd,h,x,y=>by
   have a:=Wc.mp nd;have f:ai (aS p w r).roads w=ai p.roads w:=by rw[cP]
   have d:=nM w l (aS p w r) a.2 (λz hz=>by
    rw[f];unfold fM
    rw[eJ,on λq=>by
     have:=q.1
     injection this with _ e
     injection e with e
     exact a.1 (e▸hz)]
    exact h z (VR _ hz)) x y
   rw[f]at d;rw[XA,d.1,d.2,eJ,jf];have h0:=h r VP;by_cases z:x=w/\y∈l
   ·have m:x=w/\y∈r::l:=⟨z.1,VR _ z.2⟩;simp only[VL z,VL m,and_self]
   · by_cases q:[x,y]=[w,r]
     · have b:x=w/\y=r:=by
        injection q with b c
        injection c with c
        exact⟨b,c⟩
       have m:x=w/\y∈r::l:=⟨b.1,by rw[b.2];exact VP⟩;simp only[on z,VL (And.intro q h0),VL m,and_self]
     · have m:¬ (x=w/\y∈r::l):=λt=>by
        rcases VY.mp t.2 with u|u
        ·exact q (by rw[t.1,u])
        ·exact z ⟨t.1,u⟩
       have g:¬ ([x,y]=[w,r]/\fM p w r≠ai p.roads w):=λt=>q t.1;simp only[on z,on g,on m,and_self]
theorem qD{T:List (Option (List Int))}{h b:Int}(a:0<=h)(c:0<=b/\b<T.length)(o:Option (List Int)):ai (T.set b.toNat o) h=if h=b then o else ai T h:=by
 unfold ai;rw[List.getD_eq_getElem?_getD,List.getD_eq_getElem?_getD,List.getElem?_set];by_cases z:h=b
 ·subst z;rw[VL rfl,VL (by omega),VL rfl];rfl
 ·rw[on (by omega),on z]
theorem Mid.choose{sz b c:Int}{p:PostT}(M:Mid sz b c p)(v:0<=b/\b<sz):Mid sz c (-1) (bc p b).2:=by
 have P:=M.pw;have k:=P.g.count;have J:=P.roads.len;have PC:=P.choose (by omega) v;unfold bc at PC ⊢;by_cases q:bT b (a9 p b)=ai p.roads b
 · rw[VL q]
   exact⟨P,M.wrt,M.wnb,M.lts,M.told,M.tnb,M.stn,λh j k _=>by
    by_cases z:h=b
    ·subst z;exact q.symm
    ·exact M.best h j z k⟩
 · rw[on q]at PC ⊢;have l:∀h,0<=h->ai (p.roads.set b.toNat (bT b (a9 p b))) h=if h=b then bT b (a9 p b) else ai p.roads h:=λh j=>qD j (by omega) _
   have C:ai (p.roads.set b.toNat (bT b (a9 p b))) b=bT b (a9 p b):=by rw[l b v.1,VL rfl]
   generalize d:({p with roads:=p.roads.set b.toNat (bT b (a9 p b))}:PostT)=f at PC ⊢
   have F:=nM b (aL f.guild.hω f.guild.U b) f (List.Pairwise.filter _ (wA 0 _)) (λy G=>by
    subst d;have u:=(k8 (p:=p)).mp G;show fM p b y≠ai (p.roads.set b.toNat (bT b (a9 p b))) b;rw[C,M.wrt b y u.2]
    exact λz=>q z.symm)
   have B:(writeAll f b).guild=p.guild:=by rw[mT];subst d;rfl
   have i:(writeAll f b).roads=p.roads.set b.toNat (bT b (a9 p b)):=by rw[tp];subst d;rfl
   have D:(writeAll f b).told_last=p.told_last:=by rw[xP];subst d;rfl
   have E:(writeAll f b).standings=p.standings:=by rw[LF];subst d;rfl
   have m:∀x y,(writeAll f b).written_last.get [x,y]=if x=b/\nb p b y then some (bT b (a9 p b)) else p.written_last.get [x,y]:=λx y=>by
    have:=(F x y).1
    subst d;rw[show ai _ b=_ from C]at this;refine Eq.trans this ?_;by_cases z:x=b/\nb p b y
    ·rw[VL z,VL ⟨z.1,(k8 (p:=p)).mpr ⟨by rw[k];exact(P.nb_in z.2).2,z.2⟩⟩]
    ·rw[on z,on λt=>z ⟨t.1,((k8 (p:=p)).mp t.2).2⟩]
   have s:∀x y,(writeAll f b).letters.get [x,y]=if x=b/\nb p b y then some (bT b (a9 p b)) else p.letters.get [x,y]:=λx y=>by
    have:=(F x y).2
    subst d;rw[show ai _ b=_ from C]at this;refine Eq.trans this ?_;by_cases z:x=b/\nb p b y
    ·rw[VL z,VL ⟨z.1,(k8 (p:=p)).mpr ⟨by rw[k];exact(P.nb_in z.2).2,z.2⟩⟩]
    ·rw[on z,on λt=>z ⟨t.1,((k8 (p:=p)).mp t.2).2⟩]
   generalize writeAll f b=n at PC B i D E m s ⊢;have a:∀w r,nb n w r↔nb p w r:=λw r=>by unfold nb;rw[B]
   have to:∀w r,bX n w r=bX p w r:=λw r=>by unfold bX;rw[D]
   have sa:∀h,a9 n h=a9 p h:=λh=>by unfold a9;rw[E]
   refine⟨PC,λw r h=>?_,λw r t h=>?_,λw r o h=>?_,λw r h e=>?_,λw r t h=>?_,λr w H=>?_,λh j k _=>?_⟩
   · have h:=(a w r).mp h;unfold fM;rw[m,i,l w (P.nb_in h).1.1];by_cases z:w=b
     ·subst z;rw[VL ⟨rfl,h⟩,VL rfl];rfl
     ·rw[on λt=>z t.1,on z];exact M.wrt w r h
   · unfold fM at h;rw[m]at h;by_cases z:w=b/\nb p b r
     ·rw[z.1];exact(a _ _).mpr z.2
     ·rw[on z]at h;exact(a _ _).mpr (M.wnb w r t h)
   · rw[s]at h;by_cases z:w=b/\nb p b r
     ·rw[VL z]at h;cases h;obtain⟨rfl,u⟩:=z;exact⟨(a _ _).mpr u,by rw[i,l _ v.1,VL rfl]⟩
     ·rw[on z]at h;obtain⟨A,I⟩:=M.lts w r o h;refine⟨(a _ _).mpr A,?_⟩;rw[i,l w (P.nb_in A).1.1,on λt=>z ⟨t,t▸A⟩];exact I
   · have h:=(a w r).mp h;rw[s]at e;by_cases z:w=b
     ·subst z;rw[VL ⟨rfl,h⟩]at e;cases e
     ·rw[on λt=>z t.1]at e;rw[to,i,l w (P.nb_in h).1.1,on z];exact M.told w r h e
   ·rw[to]at h;exact(a _ _).mpr (M.tnb w r t h)
   ·rw[sa,to,B];exact M.stn r w H
   · rw[i,l h j.1,sa];by_cases z:h=b
     ·subst z;rw[VL rfl]
     ·rw[on z];exact M.best h j z k
theorem q8{p:PostT}{r b:Int}(a:0<=r)(c:0<=b/\b<p.standings.length)(F:DJ pX):(p.standings.set b.toNat F).getD r.toNat []=if r=b then F else a9 p r:=by
 unfold a9;rw[List.getD_eq_getElem?_getD,List.getD_eq_getElem?_getD,List.getElem?_set];by_cases z:r=b
 ·subst z;rw[VL rfl,VL (by omega),VL rfl];rfl
 ·rw[on (by omega),on z]
theorem Live.carry{sz:Int}{p:PostT}(L:Live sz p){a b:Int}{o:Option (List Int)}(h:p.letters.get [a,b]=some o):Live sz (bW p a b).2:=by
 have P:=L.mid.pw;obtain⟨A,s,u⟩:=P.pair h;obtain⟨v,B⟩:=L.mid.lts a b o h;have D:=P.sln;unfold bW;rw[h];refine Live.of (Mid.choose (c:=-1) ?_ s);have C:=(P.del [a,b]).hear A s o u;have n:∀x y,(p.letters.del [a,b]).get [x,y]=if [x,y]=[a,b] then none else p.letters.get [x,y]:=λx y=>iW
 have j:∀x y,(p.told_last.put [a,b] o).get [x,y]=if [x,y]=[a,b] then some o else p.told_last.get [x,y]:=λx y=>cL
 refine⟨C,λw r h=>L.mid.wrt w r h,λw r t h=>L.mid.wnb w r t h,λw r m d=>?_,λw r d e=>?_,λw r t d=>?_,λr w k=>?_,λx q l _=>?_⟩
 · have d:(p.letters.del [a,b]).get [w,r]=some m:=d;rw[n]at d;by_cases z:[w,r]=[a,b]
   ·rw[VL z]at d;cases d
   ·rw[on z]at d;exact L.mid.lts w r m d
 · have e:(p.letters.del [a,b]).get [w,r]=none:=e;rw[n]at e;show((p.told_last.put [a,b] o).get [w,r]).bind id=_;rw[j];by_cases z:[w,r]=[a,b]
   · rw[VL z];injection z with i g
     subst i;exact B
   ·rw[on z]at e ⊢;exact L.mid.told w r d e
 · have d:((p.told_last.put [a,b] o).get [w,r]).bind id=some t:=d;rw[j]at d;by_cases z:[w,r]=[a,b]
   · injection z with i g
     injection g with g
     subst i g;exact v
   ·rw[on z]at d;exact L.mid.tnb w r t d
 · show DJ.get ((p.standings.set b.toNat (nH p.guild (a9 p b) a b o)).getD r.toNat []) w=wP p.guild r (((p.told_last.put [a,b] o).get [w,r]).bind id);rw[q8 k.1 (by omega),j];by_cases z:r=b
   · subst z;rw[VL rfl];by_cases y:w=a
     · subst y;rw[if_pos rfl];show _=wP p.guild r o;unfold nH wP;split
       ·rw[ut,VL rfl]
       ·rw[j2,VL rfl]
     · rw[if_neg λt=>y (by injection t)];have f:=L.mid.stn r w k;unfold bX at f;rw[<-f];unfold nH;split
       ·rw[ut,on y]
       ·rw[j2,on y]
   ·rw[on z,on λt=>z (by injection t with _ t;injection t)];exact L.mid.stn r w k
 ·show ai p.roads x=bT x ((p.standings.set b.toNat (nH p.guild (a9 p b) a b o)).getD x.toNat []);rw[q8 q.1 (by omega),on l];exact L.all x q
theorem gD(n:Nat)(h:Int):ai (List.replicate n none) h=none:=qA n h.toNat none
theorem Live.new{g:GΩ}{sz:Int}(h:Wf sz g)(j:1<=sz):Live sz (t4 g):=by
 have f:=h.count;have m:(0:Int)<g.hω:=by omega
 let b:PostT:=⟨g,List.replicate g.hω.toNat none,[],[],[],List.replicate g.hω.toNat []⟩
 have s0:∀r,a9 b r=[]:=λr=>qA _ _ _
 have k:PW sz b:=by
  have P:=PW.new h j;rw[<-f]at P;have c:DI.nd ([]:DI (Option (List Int)))/\∀q∈([]:DI (Option (List Int))),PairOk sz q.1:=⟨List.Pairwise.nil,λq a=>(nomatch a)⟩;refine⟨h,⟨?_,λr i=>?_⟩,c,c,c,λq a=>(nomatch a),P.sln.trans f,λF hF=>?_⟩
  ·show((List.replicate g.hω.toNat (none:Option (List Int))).length:Int)=sz;rw[WN];omega
  ·have:=(XR.mp i).2;cases this
  · have:=(XR.mp hF).2
    subst this;exact⟨List.Pairwise.nil,λq a=>(nomatch a)⟩
 have M:Mid sz 0 (-1) b:=by
  refine⟨k,λw r _=>(gD _ w).symm,λw r t h=>(nomatch h),λw r o h=>(nomatch h),λw r _ _=>(gD _ w).symm,λw r t h=>(nomatch h),λr w _=>?_,λx l d _=>?_⟩
  ·rw[s0];rfl
  ·rw[s0];unfold bT;rw[if_neg d];exact gD _ x
 have L:=Live.of (M.choose (by omega))
 have e:(bc b 0).2=t4 g:=by
  unfold bc
  rw[on (by
   rw[s0];show(some [0]:Option (List Int))≠_;rw[gD]
   exact λz=>(nomatch z)),s0]
  rfl
 rw[e]at L;exact L
theorem Live.next{sz:Int}{p:PostT}(L:Live sz p):Live sz (bM p):=by
 unfold bM;cases e:p.letters with
 |nil=>exact L
 |cons q t=>
   obtain⟨a,b,d,c⟩:=L.mid.pw.first e;dsimp only;rw[d];exact L.carry c
theorem bg{a b x y:Int}(h:[x,y]=[a,b]):x=a/\y=b:=by injection h with d c;injection c with c;exact⟨d,c⟩
theorem Live.fall{sz:Int}{p:PostT}(L:Live sz p){a b:Int}(q:0<=a/\a<sz)(A:0<=b/\b<sz)(i:a≠b):Live sz (j9 p a b):=by
 have P:=L.mid.pw;have E:=P.sln;obtain⟨B,m⟩:=t5 q A;have W:PW sz (cf p a b):=P.guild (P.g.lift a b);have P3:=(W.forget a b A).forget b a q
 have j:∀{X:Type} {F:DI X} (x y:Int),((F.del [a,b]).del [b,a]).get [x,y]=if [x,y]=[a,b]\/[x,y]=[b,a] then none else F.get [x,y]:=λ{X F} x y=>by
  rw[iW,iW];by_cases z:[x,y]=[b,a]
  ·rw[VL z,VL (.inr z)]
  · rw[on z];by_cases l:[x,y]=[a,b]
    ·rw[VL l,VL (.inl l)]
    ·rw[on l,on λt=>t.elim l z]
 have f:∀w r,nb (aH (aH (cf p a b) a b) b a) w r->¬ ([w,r]=[a,b]\/[w,r]=[b,a])/\nb p w r:=λw r h=>by
  have h:(((p.guild.U.del [a,b]).del [b,a]).get [w,r]).isSome=true:=h;rw[j]at h;split at h
  ·cases h
  ·rename_i z;exact⟨z,h⟩
 have d:∀w r,¬ ([w,r]=[a,b]\/[w,r]=[b,a])->nb p w r->nb (aH (aH (cf p a b) a b) b a) w r:=λw r z h=>by
  show(((p.guild.U.del [a,b]).del [b,a]).get [w,r]).isSome=true;rw[j,on z];exact h
 have to:∀w r,bX (aH (aH (cf p a b) a b) b a) w r=if [w,r]=[a,b]\/[w,r]=[b,a] then none else bX p w r:=λw r=>by
  show(((p.told_last.del [a,b]).del [b,a]).get [w,r]).bind id=_;rw[j];split<;>rfl
 have s:∀w r,fM (aH (aH (cf p a b) a b) b a) w r=if [w,r]=[a,b]\/[w,r]=[b,a] then none else fM p w r:=λw r=>by
  show(((p.written_last.del [a,b]).del [b,a]).get [w,r]).bind id=_;rw[j];split<;>rfl
 have v:∀w r,(aH (aH (cf p a b) a b) b a).letters.get [w,r]=if [w,r]=[a,b]\/[w,r]=[b,a] then none else p.letters.get [w,r]:=λw r=>j w r
 have sa:∀r,0<=r->a9 (aH (aH (cf p a b) a b) b a) r=if r=a then DJ.del (a9 p a) b else if r=b then DJ.del (a9 p b) a else a9 p r:=λr c=>by
  have u:∀r,0<=r->a9 (aH (cf p a b) a b) r=if r=b then DJ.del (a9 p b) a else a9 p r:=λr c=>q8 (p:=cf p a b) c (by show 0<=b/\b<(p.standings.length:Int);omega) _
  have:=q8 (p:=aH (cf p a b) a b) c (b:=a) (by show 0<=a/\a<((p.standings.set _ _).length:Int);rw[Wd];omega) (DJ.del (a9 (aH (cf p a b) a b) a) b)
  refine Eq.trans this ?_;rw[u a q.1,on i,u r c]
 unfold j9;refine Live.of (Mid.choose (Mid.choose ?_ B) m);refine⟨P3,λw r h=>?_,λw r t h=>?_,λw r o h=>?_,λw r h e=>?_,λw r t h=>?_,λr w c=>?_,λx m D C=>?_⟩
 ·obtain⟨z,h⟩:=f w r h;rw[s,on z];exact L.mid.wrt w r h
 · rw[s]at h;split at h
   ·cases h
   ·rename_i z;exact d w r z (L.mid.wnb w r t h)
 · rw[v]at h;split at h
   ·cases h
   ·rename_i z;exact⟨d w r z (L.mid.lts w r o h).1,(L.mid.lts w r o h).2⟩
 ·obtain⟨z,h⟩:=f w r h;rw[v,on z]at e;rw[to,on z];exact L.mid.told w r h e
 · rw[to]at h;split at h
   ·cases h
   ·rename_i z;exact d w r z (L.mid.tnb w r t h)
 · show _=wP p.guild r _;rw[sa r c.1,to];by_cases k:r=a
   · subst k;rw[VL rfl,j2];by_cases y:w=b
     ·rw[VL y,VL (.inr (by rw[y]))];rfl
     ·rw[on y,on λt=>t.elim (λt=>i (bg t).2) λt=>y (bg t).1];exact L.mid.stn _ w c
   · rw[on k];by_cases n:r=b
     · subst n;rw[VL rfl,j2];by_cases y:w=a
       ·rw[VL y,VL (.inl (by rw[y]))];rfl
       ·rw[on y,on λt=>t.elim (λt=>y (bg t).1) λt=>k (bg t).2];exact L.mid.stn _ w c
     ·rw[on n,on λt=>t.elim (λt=>n (bg t).2) λt=>k (bg t).2];exact L.mid.stn r w c
 ·rw[sa x m.1,on (by omega),on (by omega)];exact L.all x m
theorem Live.rise{sz:Int}{p:PostT}(L:Live sz p){a b:Int}(v:0<=a/\a<sz)(u:0<=b/\b<sz)(g:a≠b)(B:p.guild.U.get [a,b]=none)(A:p.guild.U.get [b,a]=none):Live sz (cG p a b):=by
 have P:=L.mid.pw;obtain⟨K,s⟩:=t5 v u
 have m:¬ nb p (min a b) (max a b):=λz=>by
  unfold nb at z;rcases Int.lt_or_gt_of_ne g with q|q
  ·rw[show min a b=a by omega,show max a b=b by omega,B]at z;cases z
  ·rw[show min a b=b by omega,show max a b=a by omega,A]at z;cases z
 have l:¬ nb p (max a b) (min a b):=λz=>by
  unfold nb at z;rcases Int.lt_or_gt_of_ne g with q|q
  ·rw[show min a b=a by omega,show max a b=b by omega,A]at z;cases z
  ·rw[show min a b=b by omega,show max a b=a by omega,B]at z;cases z
 have ne:min a b≠max a b:=by omega
 have c:∀w r,nb (cG p a b) w r↔nb p w r\/[w,r]=[min a b,max a b]\/[w,r]=[max a b,min a b]:=λw r=>by
  unfold nb;rw[jk];show(((p.guild.U.put [a,b] true).put [b,a] true).get [w,r]).isSome=true↔_;rw[cL,cL]
  have e:([w,r]=[b,a]\/[w,r]=[a,b])↔([w,r]=[min a b,max a b]\/[w,r]=[max a b,min a b]):=by
   rcases Int.lt_or_gt_of_ne g with q|q
   ·rw[show min a b=a by omega,show max a b=b by omega];exact Or.comm
   ·rw[show min a b=b by omega,show max a b=a by omega]
  by_cases z:[w,r]=[b,a]
  ·rw[VL z];exact⟨λ_=>.inr (e.mp (.inl z)),λ_=>rfl⟩
  · rw[on z];by_cases d:[w,r]=[a,b]
    ·rw[VL d];exact⟨λ_=>.inr (e.mp (.inr d)),λ_=>rfl⟩
    ·rw[on d];exact⟨.inl,λt=>t.elim id λt=>((e.mpr t).elim z d).elim⟩
 have I:=P.rise v u;have k:(cG p a b).roads=p.roads:=by unfold cG;rw[cP,cP];rfl
 have D:(cG p a b).told_last=p.told_last:=by unfold cG;rw[je,je];rfl
 have F:(cG p a b).standings=p.standings:=by unfold cG;rw[kO,kO];rfl
 have j:∀x y,¬ nb p x y->fM p x y=none:=λx y h=>by
  cases q:fM p x y with
  |none=>rfl
  |some t=>exact absurd (L.mid.wnb x y t q) h
 have E:∀x y,¬ nb p x y->bX p x y=none:=λx y h=>by
  cases q:bX p x y with
  |none=>rfl
  |some t=>exact absurd (L.mid.tnb x y t q) h
 have J:∀x y,¬ nb p x y->p.letters.get [x,y]=none:=λx y h=>by
  cases q:p.letters.get [x,y] with
  |none=>rfl
  |some t=>exact absurd (L.mid.lts x y t q).1 h
 have i:∀x y,fM (cG p a b) x y=(if [x,y]=[min a b,max a b]\/[x,y]=[max a b,min a b] then ai p.roads x else fM p x y)/\(cG p a b).letters.get [x,y]=(if ([x,y]=[min a b,max a b]\/[x,y]=[max a b,min a b])/\ai p.roads x≠none then some (ai p.roads x) else p.letters.get [x,y]):=λx y=>by
  have e1:fM (mz p a b) (min a b) (max a b)=none:=j _ _ m
  have C:fM (aS (mz p a b) (min a b) (max a b)) (max a b) (min a b)=none:=by
   unfold fM;rw[eJ,if_neg λz=>ne (bg z.1).2];exact j _ _ l
  have n:(mz p a b).roads=p.roads:=rfl;unfold cG;constructor
  · show((aS (aS (mz p a b) (min a b) (max a b)) (max a b) (min a b)).written_last.get [x,y]).bind id=_;rw[eJ,eJ,C,e1,cP,n];by_cases d:[x,y]=[max a b,min a b]
    · obtain⟨rfl,rfl⟩:=bg d;by_cases q:none≠ai p.roads (max a b)
      ·rw[VL ⟨rfl,q⟩,VL (.inr rfl)];rfl
      ·rw[on λt=>q t.2,on λt=>ne (bg t.1).2,VL (.inr rfl)];exact(j _ _ l).trans (Classical.not_not.mp q)
    · rw[on λt=>d t.1];by_cases f:[x,y]=[min a b,max a b]
      · obtain⟨rfl,rfl⟩:=bg f;by_cases q:none≠ai p.roads (min a b)
        ·rw[VL ⟨rfl,q⟩,VL (.inl rfl)];rfl
        ·rw[on λt=>q t.2,VL (.inl rfl)];exact(j _ _ m).trans (Classical.not_not.mp q)
      ·rw[on λt=>f t.1,on λt=>t.elim f d];rfl
  · rw[jf,jf,C,e1,cP,n];by_cases d:[x,y]=[max a b,min a b]
    · obtain⟨rfl,rfl⟩:=bg d;by_cases q:none≠ai p.roads (max a b)
      ·rw[VL ⟨rfl,q⟩,VL ⟨.inr rfl,q.symm⟩]
      ·rw[on λt=>q t.2,on λt=>ne (bg t.1).2,on λt=>q t.2.symm];rfl
    · rw[on λt=>d t.1];by_cases f:[x,y]=[min a b,max a b]
      · obtain⟨rfl,rfl⟩:=bg f;by_cases q:none≠ai p.roads (min a b)
        ·rw[VL ⟨rfl,q⟩,VL ⟨.inl rfl,q.symm⟩]
        ·rw[on λt=>q t.2,on λt=>q t.2.symm];rfl
      ·rw[on λt=>f t.1,on λt=>t.1.elim f d];rfl
 have G:∀x y,([x,y]=[min a b,max a b]\/[x,y]=[max a b,min a b])->¬ nb p x y:=λx y h=>by
  rcases h with h|h
  ·obtain⟨rfl,rfl⟩:=bg h;exact m
  ·obtain⟨rfl,rfl⟩:=bg h;exact l
 have sa:∀h,a9 (cG p a b) h=a9 p h:=λh=>by unfold a9;rw[F]
 have to:∀w r,bX (cG p a b) w r=bX p w r:=λw r=>by unfold bX;rw[D]
 refine Live.of ⟨I,λw r h=>?_,λw r t h=>?_,λw r o h=>?_,λw r h e=>?_,λw r t h=>?_,λr w H=>?_,λx s _ _=>?_⟩
 · rw[(i w r).1,k];split
   ·rfl
   ·rename_i z;exact L.mid.wrt w r (((c w r).mp h).resolve_right z)
 · rw[(i w r).1]at h;split at h
   ·rename_i z;exact(c w r).mpr (.inr z)
   ·exact(c w r).mpr (.inl (L.mid.wnb w r t h))
 · rw[(i w r).2]at h;rw[k];split at h
   ·rename_i z;cases h;exact⟨(c w r).mpr (.inr z.1),rfl⟩
   ·exact⟨(c w r).mpr (.inl (L.mid.lts w r o h).1),(L.mid.lts w r o h).2⟩
 · rw[(i w r).2]at e;rw[to,k];split at e
   ·cases e
   · rename_i z;rcases(c w r).mp h with h|h
     ·exact L.mid.told w r h e
     · rw[E w r (G w r h)];cases q:ai p.roads w with
       |none=>rfl
       |some t=>exact absurd ⟨h,by rw[q];exact λz=>(nomatch z)⟩ z
 ·rw[to]at h;exact(c w r).mpr (.inl (L.mid.tnb w r t h))
 ·rw[sa,to,jk];exact L.mid.stn r w H
 ·rw[k,sa];exact L.all x s
theorem nw:∀{xs a:List Int},xs≠a->HT.fG a xs=!HT.fG xs a
 |[],[],h=>absurd rfl h
 |[],y::a,_=>rfl
 |x::xs,[],_=>rfl
 | x::xs,y::a,h=>by
   rw[HT.eT,HT.eT];by_cases e:x=y
   ·subst e;rw[VL rfl,VL rfl];exact nw λz=>h (by rw[z])
   · rw[on e,on (λz=>e z.symm)];by_cases q:x<y
     ·rw[Wv q,Wi (by omega)];rfl
     ·rw[Wi q,Wv (by omega)];rfl
theorem wK{a b:Int×Int×List Int}(h:a.2.2≠b.2.2):bj b a=!bj a b:=by
 unfold bj HT.lW;by_cases e:a.1=b.1
 · rw[VL e,VL e.symm];by_cases c:a.2.1=b.2.1
   ·rw[VL c,VL c.symm];exact nw h
   · rw[on c,on (λz=>c z.symm)];by_cases q:a.2.1<b.2.1
     ·rw[Wv q,Wi (by omega)];rfl
     ·rw[Wi q,Wv (by omega)];rfl
 · rw[on e,on (λz=>e z.symm)];by_cases q:a.1<b.1
   ·rw[Wv q,Wi (by omega)];rfl
   ·rw[Wi q,Wv (by omega)];rfl
theorem lT:∀{xs e d:List Int},HT.fG xs e=true->HT.fG e d=true->HT.fG xs d=true
 |[],[],_,h,_=>by cases h
 |[],_::_,[],_,h=>by cases h
 |[],_::_,_::_,_,_=>rfl
 |_::_,[],_,h,_=>by cases h
 |_::_,_::_,[],_,h=>by cases h
 | x::xs,y::e,z::d,b,a=>by
   rw[HT.eT]at b a ⊢;by_cases e1:x=y
   · subst e1;rw[VL rfl]at b;by_cases c:x=z
     ·rw[VL c]at a ⊢;exact lT b a
     ·rw[on c]at a ⊢;exact a
   · rw[on e1,Wg]at b;by_cases c:y=z
     ·subst c;rw[on e1,Wg];exact b
     ·rw[on c,Wg]at a;rw[on (by omega),Wg];omega
theorem ue{a b c:Int×Int×List Int}(e:bj a b=true)(d:bj b c=true):bj a c=true:=by
 unfold bj HT.lW at *;by_cases e1:a.1=b.1
 · rw[VL e1]at e;by_cases g:b.1=c.1
   · rw[VL g]at d;rw[VL (e1.trans g)];by_cases h:a.2.1=b.2.1
     · rw[VL h]at e;by_cases f:b.2.1=c.2.1
       ·rw[VL f]at d;rw[VL (h.trans f)];exact lT e d
       ·rw[on f,Wg]at d;rw[on (by omega),Wg];omega
     · rw[on h,Wg]at e;by_cases f:b.2.1=c.2.1
       ·rw[on (by omega),Wg];omega
       ·rw[on f,Wg]at d;rw[on (by omega),Wg];omega
   ·rw[on g,Wg]at d;rw[on (by omega),Wg];omega
 · rw[on e1,Wg]at e;by_cases g:b.1=c.1
   ·rw[on (by omega),Wg];omega
   ·rw[on g,Wg]at d;rw[on (by omega),Wg];omega
theorem nu(a:Int×Int×List Int):bj a a=false:=by
 unfold bj HT.lW;rw[if_pos rfl,if_pos rfl];exact jn _
theorem II{e:List (Int×Int×List Int)}{m:Int×Int×List Int}(h:jV e=some m):∀k∈e,bj k m=false:=by
 have f:∀(r:List (Int×Int×List Int)) (a:Int×Int×List Int) (seen:List (Int×Int×List Int)),(∀k∈seen,bj k a=false)->∀k∈seen++r,bj k (r.foldl (λb x=>if bj x b=true then x else b) a)=false:=by
  intro r
  induction r with
  |nil=>intro a seen d k c;rw[Wh]at c;exact d k c
  |cons x r i=>
    intro a seen d k c;rw[XA];refine i (if bj x a=true then x else a) (seen++[x]) (λj g=>?_) k (by rw[Wy];exact c);by_cases q:bj x a=true
    · rw[VL q];rcases VW.mp g with z|z
      · cases w:bj j x with
        |false=>rfl
        |true=>have:=ue w q;rw[d j z]at this;cases this
      ·rw[VU.mp z];exact nu x
    · rw[on q];rcases VW.mp g with z|z
      ·exact d j z
      ·rw[VU.mp z];simpa using q
 cases e with
 |nil=>cases h
 |cons a r=>
   injection h with h
   rw[<-h];exact f r a [a] (λk c=>by rw[VU.mp c];exact nu a)
theorem AT{b:List (Int×Int×List Int)}:jV b=none↔b=[]:=by
 cases b with
 |nil=>exact⟨λ_=>rfl,λ_=>rfl⟩
 |cons a r=>exact⟨λh=>(nomatch h),λh=>(nomatch h)⟩
theorem B7{sz:Int}{p:PostT}{W:P0}{L Q:DI Int}{X:P0}(k:Live sz p)(G:GuildIs p.guild sz W L Q X)(e:WaysOk sz W)(h1:1<=sz)(g:sz<=60)(c:Int):
 ∃j f s,z8 p W sz c=.ok () s/\s.vpq=j/\s.vBq=f/\Live sz j/\GuildIs j.guild sz f L Q X/\WaysOk sz f/\f.length<=W.length+1:=by
 have P:=k.mid.pw;have h:0<sz:=by omega
 have A:sz<1073741824:=by omega
 have u:0<=c / 5%sz:=Xk _ (by omega);have t:c / 5%sz<sz:=Xe _ h;have r:0<=c / 5 / sz%sz:=Xk _ (by omega);have n:c / 5 / sz%sz<sz:=Xe _ h;have e1:oG ⟨p,W,sz,c,none,none,none,none,none⟩=.nx ⟨p,W,sz,c,some (c / 5%sz),none,none,none,none⟩:=by simp[oG,h]
 have T:oE ⟨p,W,sz,c,some (c / 5%sz),none,none,none,none⟩=.nx ⟨p,W,sz,c,some (c / 5%sz),some (c / 5 / sz%sz),none,none,none⟩:=by simp[oE,h,A]
 generalize c / 5%sz=a at *;generalize c / 5 / sz%sz=b at *;have J:=mY P g;have S:oC ⟨p,W,sz,c,some a,some b,none,none,none⟩=.nx ⟨p,W,sz,c,some a,some b,some (bJ p),none,none⟩:=by simp[oC,J]
 have F:(if b<a then b else a)=min a b:=by rw[Y8];split<;>split<;>omega
 have E:(if a<b then b else a)=max a b:=by rw[Ys];split<;>split<;>omega
 have hc:=G.count;unfold z8 xo;simp only[ak,e1,T,S]
 have line:∃j f s,bx (some ()) (cy ⟨p,W,sz,c,some a,some b,some (bJ p),none,none⟩)=.ok () s/\s.vpq=j/\s.vBq=f/\Live sz j/\GuildIs j.guild sz f L Q X/\WaysOk sz f/\f.length<=W.length+1:=by
  by_cases q:0<((bJ p).length:Int)
  · have O:0<=c / 5%((bJ p).length:Int):=Xk _ (by omega);have Z:c / 5%((bJ p).length:Int)<(bJ p).length:=Xe _ q;obtain⟨x,y,o,R,H⟩:=GQ P (i:=(c / 5%((bJ p).length:Int)).toNat) (by omega);have at_:iZ (bJ p) (c / 5%((bJ p).length:Int))=some (x,y,o):=by rw[fU _ O];exact R
    have V:=tI P g H;have w:0<(bJ p).length:=by omega
    refine⟨(bW p x y).2,W,⟨(bW p x y).2,W,sz,c,some a,some b,some (bJ p),none,some (x,y,o)⟩,?_,rfl,rfl,k.carry H,by rw[ml];exact G,e,by omega⟩;simp[cy,gr,gp,w,at_,V]
  · have w:¬ 0<(bJ p).length:=by omega
    exact⟨p,W,⟨p,W,sz,c,some a,some b,some (bJ p),none,none⟩,by simp[cy,w],rfl,rfl,k,G,e,by omega⟩
 by_cases m:2<c%5
 · by_cases d:a=b
   · have C:fj ⟨p,W,sz,c,some a,some b,some (bJ p),none,none⟩=cy ⟨p,W,sz,c,some a,some b,some (bJ p),none,none⟩:=by
      unfold fj;simp[m,d]
     rw[C];exact line
   · by_cases q:(min a b,max a b)∈W
     ·obtain⟨f,N,M,K,D⟩:=CL q e.nd;have sp:=Hi P g ⟨u,t⟩ ⟨r,n⟩ d ((G.way a b).mpr ((cQ e a b).mpr q)) ((G.way b a).mpr ((cQ e a b).mpr q).symm);refine⟨j9 p a b,f,⟨j9 p a b,f,sz,c,some a,some b,some (bJ p),some (min a b,max a b),none⟩,?_,rfl,rfl,k.fall ⟨u,t⟩ ⟨r,n⟩ d,by rw[wW];exact G.lift e a b D,⟨M,λp hp=>e.all p ((D p).mp hp).1,Wl K e.len⟩,by omega⟩;simp[fj,gO,gN,gj,gi,m,d,F,E,q,sp,N]
     · have I:p.guild.U.get [a,b]=none:=by
        cases z:p.guild.U.get [a,b] with
        |none=>rfl
        |some v=>exact absurd ((cQ e a b).mp ((G.way a b).mp (by rw[z];rfl))) q
       have B:p.guild.U.get [b,a]=none:=by
        cases z:p.guild.U.get [b,a] with
        |none=>rfl
        |some v=>exact absurd ((cQ e a b).mp ((G.way b a).mp (by rw[z];rfl)).symm) q
       have sp:=G8 P g ⟨u,t⟩ ⟨r,n⟩ d I;have Y:=BI g e.nd e.all;have ap:=jG (l:=W) (x:=(min a b,max a b)) (by unfold af;omega);refine⟨cG p a b,W++[(min a b,max a b)],⟨cG p a b,W++[(min a b,max a b)],sz,c,some a,some b,some (bJ p),some (min a b,max a b),none⟩,?_,rfl,rfl,k.rise ⟨u,t⟩ ⟨r,n⟩ d I B,by rw[jk];exact G.lay a b,⟨cc e.nd q,λp hp=>?_,by rw[List.length_append];simp;omega⟩,by rw[List.length_append];simp⟩
       ·simp[fj,gO,gN,gm,gk,m,d,F,E,q,sp,ap]
       · rcases VW.mp hp with z|z
         ·exact e.all p z
         ·rw[VU.mp z];simp only;omega
 · have C:fj ⟨p,W,sz,c,some a,some b,some (bJ p),none,none⟩=cy ⟨p,W,sz,c,some a,some b,some (bJ p),none,none⟩:=by
    unfold fj;simp[m]
   rw[C];exact line
theorem BZ(c sz:Int)(h1:2<=sz)(Z:sz<=60):∃W:P0,(zZ c sz).res=.ok W/\WaysOk sz W/\(W.length:Int)<=2*(sz-1):=by
 have o:0<=c / 5%(sz-1):=Xk _ (by omega);have G:c / 5%(sz-1)<sz-1:=Xe _ (by omega);have hz:1<sz:=by omega
 have U:og ⟨c,sz,some [],none,none,none,none⟩=.nx ⟨c,sz,some [],some (1+c / 5%(sz-1)),none,none,none⟩:=by simp[og,hz]
 have P:1<=1+c / 5%(sz-1):=by omega
 have O:1+c / 5%(sz-1)<sz:=by omega
 generalize 1+c / 5%(sz-1)=mid at U P O;have e1:oh ⟨c,sz,none,none,none,none,none⟩=.nx ⟨c,sz,some [],none,none,none,none⟩:=by simp[oh,af]
 have K:∃E W b a f,mC (λa s=>{s with v1q:=some a}) c8 (c9 1 sz) ⟨c,sz,some [],some mid,none,none,none⟩=.nx E/\E=⟨c,sz,some W,some mid,b,a,f⟩/\WaysOk sz W/\(W.length:Int)<=2*(sz-1):=by
  by_cases H:c%5=2
  · obtain⟨E,e,W,v,w,t,rfl,n,g,M⟩:=cJ (u:=λa s=>{s with v1q:=some a}) (c:=c8) (λp (s:S_bp9)=>∃W v w t,s=⟨c,sz,some W,some mid,v,w,t⟩/\W.Nodup/\(∀q∈W,(q.1=0/\1<=q.2/\q.2<=(p.length:Int))\/(∃i,1<=i/\i<=(p.length:Int)/\i≠mid/\q=(min mid i,max mid i)))/\W.length<=2*p.length)
     (c9 1 sz) ⟨c,sz,some [],some mid,none,none,none⟩ ⟨[],none,none,none,rfl,by simp,λ_ h=>(nomatch h),by simp⟩ (by
       rintro p b r s N ⟨W,v,w,t,rfl,n,g,M⟩;have Q:=mJ N;have hp:p.length<60:=by have:=Q.1;omega
       have d:0<b:=by omega
       have D:=jG (l:=W) (x:=((0:Int),b)) (by unfold af;omega)
       have F:((0:Int),b)∉W:=λz=>by
        rcases g _ z with ⟨_,_,z⟩|⟨i,A,C,y,z⟩
        ·simp only at z;omega
        ·injection z with j m;omega
       have Y:(if b<mid then b else mid)=min mid b:=by rw[Y8];split<;>split<;>omega
       have X:(if mid<b then b else mid)=max mid b:=by rw[Ys];split<;>split<;>omega
       by_cases B:mid=b
       · refine⟨⟨c,sz,some (W++[(0,b)]),some mid,some b,some (min mid b),some (max mid b)⟩,.inl ?_,_,_,_,_,rfl,cc n F,λq k=>?_,by rw[VQ,VQ];simp;omega⟩
         ·simp[c8,dF,dE,dD,fh,fg,ff,fe,H,d,D,B]
         · rw[VQ];rcases VW.mp k with z|z
           · rcases g q z with ⟨j,m,I⟩|⟨i,A,C,y,z⟩
             ·exact .inl ⟨j,m,by simp;omega⟩
             ·exact .inr ⟨i,A,by simp;omega,y,z⟩
           ·rw[VU.mp z];exact .inl ⟨rfl,by simp only;omega,by simp;omega⟩
       · have T:=jG (l:=W++[((0:Int),b)]) (x:=(min mid b,max mid b)) (by rw[List.length_append];unfold af;simp;omega)
         have J:(min mid b,max mid b)∉W++[((0:Int),b)]:=λz=>by
          rcases VW.mp z with z|z
          · rcases g _ z with ⟨j,m,I⟩|⟨i,A,C,y,z⟩
            ·simp only at j;omega
            ·injection z with j m;omega
          · have:=VU.mp z
            injection this with j m;omega
         refine⟨⟨c,sz,some (W++[(0,b)]++[(min mid b,max mid b)]),some mid,some b,some (min mid b),some (max mid b)⟩,.inl ?_,_,_,_,_,rfl,cc (cc n F) J,λq k=>?_,by rw[VQ,VQ,VQ];simp;omega⟩
         ·simp[c8,dF,dE,dD,fh,fg,ff,fe,fc,H,d,D,B,Y,X,T]
         · rw[VQ];rcases VW.mp k with z|z
           · rcases VW.mp z with z|z
             · rcases g q z with ⟨j,m,I⟩|⟨i,A,C,y,z⟩
               ·exact .inl ⟨j,m,by simp;omega⟩
               ·exact .inr ⟨i,A,by simp;omega,y,z⟩
             ·rw[VU.mp z];exact .inl ⟨rfl,by simp only;omega,by simp;omega⟩
           ·exact .inr ⟨b,by omega,by simp;omega,λz=>B z.symm,VU.mp z⟩)
    have L:=dQ 1 sz;refine⟨_,W,v,w,t,e,rfl,⟨n,λq k=>?_,by omega⟩,by omega⟩;rcases g q k with ⟨j,m,I⟩|⟨i,A,C,y,z⟩
    ·omega
    ·subst z;simp only;omega
  · obtain⟨E,e,W,v,w,t,rfl,n,g,M⟩:=cJ (u:=λa s=>{s with v1q:=some a}) (c:=c8) (λp (s:S_bp9)=>∃W v w t,s=⟨c,sz,some W,some mid,v,w,t⟩/\W.Nodup/\(∀q∈W,0<=q.1/\q.1<q.2/\q.2<=(p.length:Int))/\W.length<=2*p.length)
     (c9 1 sz) ⟨c,sz,some [],some mid,none,none,none⟩ ⟨[],none,none,none,rfl,by simp,λ_ h=>(nomatch h),by simp⟩ (by
       rintro p b r s N ⟨W,v,w,t,rfl,n,g,M⟩;have Q:=mJ N;have hp:p.length<60:=by have:=Q.1;omega
       have d:0<b:=by omega
       have A:0<=(b*7+c)%b:=Int.emod_nonneg _ (by omega);have C:(b*7+c)%b<b:=Int.emod_lt_of_pos _ d;have y:0<=(b*3+c / 7)%b:=Int.emod_nonneg _ (by omega);have V:(b*3+c / 7)%b<b:=Int.emod_lt_of_pos _ d;generalize S:(b*7+c)%b=a at A C;generalize R:(b*3+c / 7)%b=f at y V;have D:=jG (l:=W) (x:=(a,b)) (by unfold af;omega);have F:(a,b)∉W:=λz=>by have:=g _ z;simp only at this;omega
       by_cases B:(b*5+c)%3=0/\f≠a
       · have T:=jG (l:=W++[(a,b)]) (x:=(f,b)) (by rw[List.length_append];unfold af;simp;omega)
         have J:(f,b)∉W++[(a,b)]:=λz=>by
          rcases VW.mp z with z|z
          ·have:=g _ z;simp only at this;omega
          · have:=VU.mp z
            injection this with j m;exact B.2 j
         refine⟨⟨c,sz,some (W++[(a,b)]++[(f,b)]),some mid,some b,some a,some f⟩,.inl ?_,_,_,_,_,rfl,cc (cc n F) J,λq k=>?_,by rw[VQ,VQ,VQ];simp;omega⟩
         ·simp[c8,dF,dE,dD,c7,c6,fi,H,d,S,R,D,B.1,B.2,T]
         · rw[VQ];rcases VW.mp k with z|z
           · rcases VW.mp z with z|z
             ·have:=g q z;simp;omega
             ·rw[VU.mp z];simp;omega
           ·rw[VU.mp z];simp;omega
       · refine⟨⟨c,sz,some (W++[(a,b)]),some mid,some b,some a,some f⟩,.inl ?_,_,_,_,_,rfl,cc n F,λq k=>?_,by rw[VQ,VQ];simp;omega⟩
         · by_cases o:(b*5+c)%3=0
           ·have G:f=a:=Decidable.byContradiction λz=>B ⟨o,z⟩;simp[c8,dF,dE,dD,c7,c6,H,d,S,R,D,o,G]
           ·simp[c8,dF,dE,dD,c7,c6,H,d,S,R,D,o]
         · rw[VQ];rcases VW.mp k with z|z
           ·have:=g q z;simp;omega
           ·rw[VU.mp z];simp;omega)
    have L:=dQ 1 sz;exact⟨_,W,v,w,t,e,rfl,⟨n,λq k=>by have:=g q k;omega,by omega⟩,by omega⟩
 obtain⟨E,W,b,a,f,e,rfl,g⟩:=K;refine⟨W,?_,g⟩;have rc:=fy (lo:=1) (hi:=sz) (by omega) (by omega) (by omega) (by omega);unfold zZ xh;simp only[ak,e1,U];simp[uP,uO,rc,e]
def db(C:List (Option Int))(v:Int):Option Int:=(C[v.toNat]?).getD none
theorem xJ{C:List (Option Int)}{v:Int}(h0:0<=v)(a:v<C.length):iZ C v=some (db C v):=by
 rw[fU C h0];unfold db;rw[List.getElem?_eq_getElem (by omega)];rfl
theorem zO{C:List (Option Int)}{v x:Int}{o:Option Int}(b:0<=v/\v<C.length)(a:0<=x):db (C.set v.toNat o) x=if x=v then o else db C x:=by
 unfold db;by_cases e:x=v
 ·subst e;rw[VL rfl,Xv (by omega)];rfl
 ·rw[on e,X0 (by omega)]
def jh(C:List (Option Int)):Nat:=C.countP (·.isNone)
theorem tD:∀{C:List (Option Int)} {i:Nat} {d:Int},i<C.length->(C[i]?).getD none=none->jh (C.set i (some d))+1=jh C
 |[],i,d,h,_=>absurd h (YO _)
 | x::C,0,d,h,e=>by
   have e:x=none:=e;subst e;unfold jh;simp
 | x::C,i+1,d,h,e=>by
   have a:=tD (C:=C) (i:=i) (d:=d) (by simpa using h) (by simpa using e);unfold jh at a ⊢;rw[List.set_cons_succ,List.countP_cons,List.countP_cons];omega
structure Bfs (n:Int) (nb:Int->List Int) (C:List (Option Int)) (q:List Int) (u du:Int) (p:List Int):Prop where
 len:(C.length:Int)=n
 seat:db C 0=some 0
 pos:∀v d,0<=v->v<n->db C v=some d->0<=d/\(v≠0->1<=d)
 cu:db C u=some du
 inq:∀x∈q,0<=x/\x<n/\∃e,db C x=some e/\du<=e
 all:∀v d,0<=v->v<n->db C v=some d->d<=du+1
 srt:q.Pairwise λx y=>∀d e,db C x=some d->db C y=some e->d<=e
 done:∀v,0<=v->v<n->v∉q->v≠u->∀d,db C v=some d->∀w∈nb v,∃e,db C w=some e/\e<=d+1
 pu:∀w∈p,∃e,db C w=some e/\e<=du+1
 par:∀v d,0<=v->v<n->v≠0->db C v=some d->∃w,0<=w/\w<n/\v∈nb w/\db C w=some (d-1)
structure Out7 (n:Int) (nb:Int->List Int) (C:List (Option Int)) (q:List Int):Prop where
 len:(C.length:Int)=n
 seat:db C 0=some 0
 pos:∀v d,0<=v->v<n->db C v=some d->0<=d/\(v≠0->1<=d)
 inq:∀x∈q,0<=x/\x<n/\∃e,db C x=some e
 near:∀x∈q,∀v d e,0<=v->v<n->db C v=some d->db C x=some e->d<=e+1
 srt:q.Pairwise λx y=>∀d e,db C x=some d->db C y=some e->d<=e
 done:∀v,0<=v->v<n->v∉q->∀d,db C v=some d->∀w∈nb v,∃e,db C w=some e/\e<=d+1
 par:∀v d,0<=v->v<n->v≠0->db C v=some d->∃w,0<=w/\w<n/\v∈nb w/\db C w=some (d-1)
theorem Out7.enter{n:Int}{nb:Int->List Int}{C:List (Option Int)}{u:Int}{q:List Int}(h:Out7 n nb C (u::q)):∃a,Bfs n nb C q u a []:=by
 obtain⟨r,p,a,f⟩:=h.inq u VP;have j:=List.pairwise_cons.mp h.srt;refine⟨a,h.len,h.seat,h.pos,f,λx i=>?_,λv d c b hd=>h.near u VP v d a c b hd f,j.2,λv c b o g=>h.done v c b (λz=>?_),λ_ z=>(nomatch z),h.par⟩
 ·obtain⟨m,l,e,k⟩:=h.inq x (VR _ i);exact⟨m,l,e,k,j.1 x i a e f k⟩
 · rcases VY.mp z with z|z
   ·exact g z
   ·exact o z
theorem Bfs.leave{n:Int}{nb:Int->List Int}{C:List (Option Int)}{u o:Int}{q:List Int}(h:Bfs n nb C q u o (nb u)):Out7 n nb C q:=by
 refine⟨h.len,h.seat,h.pos,λx f=>?_,λx f v d e c b hd g=>?_,h.srt,λv c b l d hd w i=>?_,h.par⟩
 ·obtain⟨k,j,e,g,_⟩:=h.inq x f;exact⟨k,j,e,g⟩
 · obtain⟨_,_,p,a,m⟩:=h.inq x f;rw[g]at a;cases a
   have:=h.all v d c b hd
   omega
 · by_cases e:v=u
   ·subst e;rw[h.cu]at hd;cases hd;exact h.pu w i
   ·exact h.done v c b l e d hd w i
theorem Bfs.skip{n:Int}{nb:Int->List Int}{C:List (Option Int)}{u b w:Int}{q p:List Int}(h:Bfs n nb C q u b p)(a:0<=w/\w<n)(f:db C w≠none):Bfs n nb C q u b (p++[w]):=by
 refine⟨h.len,h.seat,h.pos,h.cu,h.inq,h.all,h.srt,h.done,λx c=>?_,h.par⟩;rcases VW.mp c with z|z
 ·exact h.pu x z
 · rw[VU.mp z];cases e:db C w with
   |none=>exact absurd e f
   |some d=>exact⟨d,rfl,h.all w d a.1 a.2 e⟩
theorem Bfs.put{n:Int}{nb:Int->List Int}{C:List (Option Int)}{u a w:Int}{q p:List Int}(h:Bfs n nb C q u a p)(l:0<=u/\u<n)(m:0<=w/\w<n)(B:w∈nb u)(E:∀v x,x∈nb v->0<=x/\x<n)(hp:∀x∈p,0<=x/\x<n)(I:db C w=none):Bfs n nb (C.set w.toNat (some (a+1))) (q++[w]) u a (p++[w]):=by
 have O:=h.len;have cs:∀x,0<=x->db (C.set w.toNat (some (a+1))) x=if x=w then some (a+1) else db C x:=λx b=>zO (by omega) b
 have keep:∀x d,0<=x->db C x=some d->db (C.set w.toNat (some (a+1))) x=some d:=λx d b hd=>by
  rw[cs x b,on (λz=>by rw[z,I]at hd;cases hd)];exact hd
 have d0:=(h.pos u a l.1 l.2 h.cu).1;have R:w≠0:=λz=>by have:=h.seat;rw[<-z,I]at this;cases this
 have c:∀v d,0<=v->db (C.set w.toNat (some (a+1))) v=some d->(v=w/\d=a+1)\/db C v=some d:=λv d t hd=>by
  rw[cs v t]at hd;by_cases e:v=w
  ·rw[VL e]at hd;cases hd;exact .inl ⟨e,rfl⟩
  ·rw[on e]at hd;exact .inr hd
 refine⟨by rw[Wd];exact O,keep 0 0 (by omega) h.seat,λv d f j hd=>?_,keep u a l.1 h.cu,λx b=>?_,λv d f j hd=>?_,?_,λv f j H A d hd x b=>?_,λx b=>?_,λv d f j t hd=>?_⟩
 · rcases c v d f hd with ⟨_,e⟩|e
   ·exact⟨by omega,λ_=>by omega⟩
   ·exact h.pos v d f j e
 · rcases VW.mp b with z|z
   ·obtain⟨g,k,e,i,D⟩:=h.inq x z;exact⟨g,k,e,keep x e g i,D⟩
   ·rw[VU.mp z];exact⟨m.1,m.2,a+1,by rw[cs w m.1,VL rfl],by omega⟩
 · rcases c v d f hd with ⟨_,e⟩|e
   ·omega
   ·exact h.all v d f j e
 · refine List.pairwise_append.mpr ⟨List.Pairwise.imp_of_mem ?_ h.srt,by simp,λx b y r d e hd i=>?_⟩
   ·intro x y b r N d e hd i;obtain⟨g,k,ex,hex,_⟩:=h.inq x b;obtain⟨K,Q,P,o,_⟩:=h.inq y r;rw[keep x ex g hex]at hd;rw[keep y P K o]at i;cases hd;cases i;exact N _ _ hex o
   ·rw[VU.mp r]at i;rw[cs w m.1,VL rfl]at i;cases i;obtain⟨g,k,ex,hex,_⟩:=h.inq x b;rw[keep x ex g hex]at hd;cases hd;exact h.all x _ g k hex
 · have s:v≠w:=λz=>H (VS _ (by rw[z];simp));rcases c v d f hd with ⟨z,_⟩|e
   ·exact absurd z s
   ·obtain⟨J,G,F⟩:=h.done v f j (λz=>H (V0 _ z)) A d e x b;exact⟨J,keep x J (E v x b).1 G,F⟩
 · rcases VW.mp b with z|z
   ·obtain⟨e,G,F⟩:=h.pu x z;exact⟨e,keep x e (hp x z).1 G,F⟩
   ·rw[VU.mp z];exact⟨a+1,by rw[cs w m.1,VL rfl],by omega⟩
 · rcases c v d f hd with ⟨z,e⟩|e
   ·subst z;exact⟨u,l.1,l.2,B,by rw[e,show a+1-1=a by omega];exact keep u a l.1 h.cu⟩
   ·obtain⟨x,g,k,M,L⟩:=h.par v d f j t e;exact⟨x,g,k,M,keep x _ g L⟩
theorem L1(g:GΩ)(h0:0<g.hω)(h1:g.hω<=60):∃C,(zY g).res=.ok C/\Out7 g.hω (aL g.hω g.U) C []:=by
 have es:=G6 g;have H:∀v x,x∈aL g.hω g.U v->0<=x/\x<g.hω:=λv x F=>jm F
 have e1:oe ⟨g,none,none,none,none⟩=.nx ⟨g,some (List.replicate g.hω.toNat none),none,none,none⟩:=by
  have rp:=wm (xs:=[()]) (k:=g.hω) (by omega) (by omega) (by simp only[List.length_cons,List.length_nil];unfold af;omega)
  have fl:∀k:Nat,((List.replicate k [()]).flatten.map λ_=>(none:Option Int))=List.replicate k none:=λk=>by
   induction k with
   |zero=>rfl
   |succ k ih=>rw[Wn,WF,Wm,ih,Wn];rfl
  simp[oe,es,rp,fl,af]
 have Z:n8 ⟨g,some (List.replicate g.hω.toNat none),none,none,none⟩=.nx ⟨g,some ((List.replicate g.hω.toNat none).set 0 (some 0)),none,none,none⟩:=by
  have Q:=wQ (n:=g.hω.toNat) (i:=0) (by omega) (by omega);simp[n8,Q]
 have e3:∀C,n6 ⟨g,some C,none,none,none⟩=.nx ⟨g,some C,some [0],none,none⟩:=λC=>by simp[n6,af]
 have s0:Out7 g.hω (aL g.hω g.U) ((List.replicate g.hω.toNat none).set 0 (some 0)) [0]:=by
  have W:∀v,0<=v->db ((List.replicate g.hω.toNat none).set 0 (some 0)) v=if v=0 then some 0 else none:=λv K=>by
   have:=zO (C:=List.replicate g.hω.toNat none) (v:=0) (x:=v) (o:=some 0) (by rw[WN];omega) K
   rw[show(0:Int).toNat=0 from rfl]at this;rw[this];by_cases e:v=0
   ·rw[VL e,VL e]
   · rw[if_neg e,if_neg e];unfold db;cases q:(List.replicate g.hω.toNat (none:Option Int))[v.toNat]? with
     |none=>rfl
     |some o=>exact(List.eq_of_mem_replicate (Wz q))
  have N:∀v d,0<=v->db ((List.replicate g.hω.toNat none).set 0 (some 0)) v=some d->v=0/\d=0:=λv d K hd=>by
   rw[W v K]at hd;by_cases e:v=0
   ·rw[VL e]at hd;cases hd;exact⟨e,rfl⟩
   ·rw[on e]at hd;cases hd
  refine⟨by rw[Wd,WN];omega,by rw[W 0 (by omega),VL rfl],λv d E _ hd=>?_,λx F=>?_,λx F v d e E _ hd I=>?_,by simp,λv E _ O d hd=>?_,λv d E _ K hd=>?_⟩
  ·obtain⟨z1,z2⟩:=N v d E hd;exact⟨by omega,λz=>absurd z1 z⟩
  ·rw[VU.mp F];exact⟨by omega,by omega,0,by rw[W 0 (by omega),VL rfl]⟩
  · rw[VU.mp F]at I
    have:=(N v d E hd).2
    have:=(N 0 e (by omega) I).2
    omega
  ·exact absurd (by rw[(N v d E hd).1];simp) O
  ·exact absurd (N v d E hd).1 K
 generalize (List.replicate g.hω.toNat (none:Option Int)).set 0 (some 0)=D at Z s0
 have wh:=xN (t:=aN (aI GO (aJ i5 (vC (·.vrq))) (kC (0:Int)))) (c:=vp)
  (λm (s:S_br9)=>∃C q x y,s=⟨g,some C,some q,x,y⟩/\Out7 g.hω (aL g.hω g.U) C q/\jh C+q.length=m/\jh C+q.length<=61)
  (λs=>∃C x y,s=⟨g,some C,some [],x,y⟩/\Out7 g.hω (aL g.hω g.U) C []) (by
    rintro m s ⟨C,q,x,y,rfl,hO,rfl,O⟩;cases q with
    |nil=>exact .inl ⟨by simp,C,x,y,rfl,hO⟩
    |cons u q=>
      refine .inr ⟨by simp,?_⟩;obtain⟨P,X,_⟩:=hO.inq u VP;obtain⟨V,hB⟩:=hO.enter;obtain⟨_,A⟩:=MF (l:=u::q) (i:=0) (by omega) (by simp only[VV];omega) (by omega);have A:Ax (u::q) 0=some (u,q):=A;have ep:gG ⟨g,some C,some (u::q),x,y⟩=.nx ⟨g,some C,some q,some u,y⟩:=by simp[gG,A]
      have en:=i8 g u ⟨P,X⟩ (by omega)
      have lp:(aL g.hω g.U u).length<=60:=by
       have:=YT (λb=>(g.U.get [u,b]).isSome) (c9 0 g.hω)
       rw[dQ]at this;unfold aL;omega
      obtain⟨s',el,f,h,J,rfl,j,L,S⟩:=cJ (u:=λa s=>{s with vjq:=some a}) (c:=eD) (λp (s:S_br9)=>∃f h J,s=⟨g,some f,some h,some u,J⟩/\Bfs g.hω (aL g.hω g.U) f h u V p/\jh f+h.length=jh C+q.length/\h.length<=q.length+p.length)
       (aL g.hω g.U u) ⟨g,some C,some q,some u,y⟩ ⟨C,q,y,rfl,hB,rfl,by simp⟩ (by
         rintro p w r s I ⟨f,h,J,rfl,j,L,S⟩;have Y:w∈aL g.hω g.U u:=by rw[I];simp
         have B:=H u w Y;have hl:=j.len;have aw:=xJ (C:=f) (v:=w) B.1 (by omega);have au:=xJ (C:=f) (v:=u) P (by omega);have cu:=j.cu;cases M:db f w with
         |none=>
           have Q:=wQ (n:=f.length) (i:=w) B.1 (by omega);have hpl:p.length<60:=by rw[I,VQ,VV]at lp;omega
           have ap:=jG (l:=h) (x:=w) (by simp only[List.length_cons]at O;unfold af;omega);refine⟨⟨g,some (f.set w.toNat (some (V+1))),some (h++[w]),some u,some w⟩,.inl ?_,_,_,_,rfl,j.put ⟨P,X⟩ B Y H (λx F=>H u x (by rw[I];exact List.mem_append_left _ F)) M,?_,by rw[List.length_append,List.length_append];simp;omega⟩
           ·simp[eD,gg,gf,aw,au,cu,M,Q,ap]
           · have:=tD (C:=f) (i:=w.toNat) (d:=V+1) (by omega) M
             rw[VQ];simp;omega
         |some d=>
           refine⟨⟨g,some f,some h,some u,some w⟩,.inl ?_,_,_,_,rfl,j.skip B (by rw[M];exact λz=>by cases z),L,by rw[VQ];omega⟩
           simp[eD,aw,M])
      have R:jh f+h.length<=61:=by simp only[VV]at O;omega
      refine⟨jh f+h.length,⟨g,some f,some h,some u,J⟩,by simp only[VV];omega,.inl ?_,f,h,some u,J,rfl,j.leave,rfl,R⟩;show ak gG jq _=_;simp only[ak,ep]
      simp[jq,en,el])
 have un0:jh D<=60:=by
  have:=List.countP_le_length (p:=(·.isNone)) (l:=D)
  have:=s0.len
  have:jh D≠D.length:=λz=>by
   unfold jh at z
   have:=List.countP_eq_length.mp z
   have G:=s0.seat;unfold db at G;cases q:D[(0:Int).toNat]? with
   |none=>rw[q]at G;cases G
   |some o=>
     rw[q]at G;have G:o=some 0:=G
     have:=this o (Wz q)
     rw[G]at this;cases this
  unfold jh at *;omega
 obtain⟨s',ew,C,x,y,rfl,hO⟩:=wh 100000 (jh D+1) ⟨g,some D,some [0],none,none⟩ ⟨D,[0],none,none,rfl,s0,rfl,by simp only[List.length_cons,List.length_nil];omega⟩ (by omega);refine⟨C,?_,hO⟩;have T:uM ⟨g,some D,some [0],none,none⟩=_:=ew;unfold zY xf;simp only[ak,e1,Z,e3,T];simp[uL]
theorem AK{Z X:Type}{a b:Z->FlC Z X}{s c:Z}(h:a s=.nx c):ak a b s=b c:=by unfold ak;rw[h]
structure Fair (W:P0) (sz:Int) (C:List (Option Int)):Prop where
 len:(C.length:Int)=sz
 seat:db C 0=some 0
 pos:∀v d,0<=v->v<sz->db C v=some d->v≠0->1<=d
 tie:∀a b,0<=a->a<sz->b∈dY W sz a->(db C a=none/\db C b=none)\/∃d e,db C a=some d/\db C b=some e/\d<=e+1/\e<=d+1
 par:∀a d,0<=a->a<sz->a≠0->db C a=some d->∃b∈dY W sz a,db C b=some (d-1)
theorem Jf{g:GΩ}{sz:Int}{W:P0}{L Q:DI Int}{X:P0}{C:List (Option Int)}(G:GuildIs g sz W L Q X)(D:WaysOk sz W)(h:Out7 sz (aL sz g.U) C []):Fair W sz C:=by
 have pt:=tS G D;rw[pt]at h
 have i:∀a b,b∈dY W sz a->0<=a->a<sz->a∈dY W sz b:=λa b f h0 E=>by
  unfold dY at f ⊢
  have:=(WS.mp f).2
  rw[Int.min_comm,Int.max_comm]at this;exact WS.mpr ⟨ce.mpr ⟨h0,E⟩,this⟩
 have inr:∀a b,b∈dY W sz a->0<=b/\b<sz:=λa b f=>ce.mp (WS.mp f).1;refine⟨h.len,h.seat,λv d x u hd A=>(h.pos v d x u hd).2 A,λa b n m f=>?_,λa d n m o hd=>?_⟩
 · have c:=inr a b f;have l:=i a b f n m;cases q:db C a with
   |none=>
     cases F:db C b with
     |none=>exact .inl ⟨rfl,rfl⟩
     |some e=>
       obtain⟨d,hd,_⟩:=h.done b c.1 c.2 (λz=>nomatch z) e F a l;rw[q]at hd;cases hd
   |some d=>
     obtain⟨e,r,p⟩:=h.done a n m (λz=>nomatch z) d q b f;obtain⟨d',k,j⟩:=h.done b c.1 c.2 (λz=>nomatch z) e r a l;rw[q]at k;cases k;exact .inr ⟨d,e,rfl,r,j,p⟩
 ·obtain⟨w,t,s,y,B⟩:=h.par a d n m o hd;exact⟨w,i w a y t s,B⟩
def le(x y:List Int):Prop:=bj (bA [] [] y) (bA [] [] x)=false
def IsB(C:List Int->Prop):Option (List Int)->Prop
 |none=>∀r,¬ C r
 |some r=>C r/\∀y,C y->le r y
theorem IY{x y:List Int}(d:le x y)(c:le y x):x=y:=by
 by_cases q:x=y
 ·exact q
 · unfold le at d c
   have:=wK (a:=bA [] [] x) (b:=bA [] [] y) q
   rw[d,c]at this;cases this
theorem J7(r:List Int):kU [] [] r=0:=by unfold kU;cases r with|nil=>rfl|cons a t=>cases t<;>rfl
theorem EH{x y:List Int}(h:le x y):x.length<=y.length:=by
 unfold le bj HT.lW bA at h;rw[J7,J7]at h;dsimp only at h;rw[if_pos rfl]at h;split at h
 ·omega
 ·rw[decide_eq_false_iff_not]at h;omega
theorem yJ{b:List (List Int)}:IsB (λr=>r∈b) ((jV (b.map (bA [] []))).map (·.2.2)):=by
 cases e:jV (b.map (bA [] [])) with
 |none=>
   have z:=List.map_eq_nil_iff.mp (AT.mp e);intro r a;rw[z]at a;cases a
 |some m=>
   obtain⟨r,a,rfl⟩:=We.mp (t9 e);exact⟨a,λy c=>II e _ (We.mpr ⟨y,c,rfl⟩)⟩
theorem IsB.congr{C a:List Int->Prop}(h:∀r,C r↔a r){o:Option (List Int)}(b:IsB C o):IsB a o:=by
 cases o with
 |none=>exact λr d=>b r ((h r).mpr d)
 |some r=>exact⟨(h r).mp b.1,λy c=>b.2 y ((h y).mpr c)⟩
def val(b:Int->List Int):Nat->Int->Option (List Int)
 |0,a=>if a=0 then some [0] else none
 |r+1,a=>if a=0 then some [0] else (jV (((b a).filterMap λw=>(val b r w).bind λt=>if a∈t then none else some (a::t)).map (bA [] []))).map (·.2.2)
def BA(b:Int->List Int)(O:Int->Option (List Int))(a:Int)(x:List Int):Prop:=∃w t,w∈b a/\O w=some t/\a∉t/\x=a::t
theorem mH(b:Int->List Int)(r:Nat){a:Int}(d:a≠0):IsB (BA b (val b r) a) (val b (r+1) a):=by
 unfold val;rw[if_neg d];refine IsB.congr (λx=>?_) yJ;rw[List.mem_filterMap];constructor
 · rintro⟨w,c,e⟩;cases v:val b r w with
   |none=>rw[v]at e;cases e
   |some t=>
     rw[v]at e;have e:(if a∈t then none else some (a::t))=some x:=e;split at e
     ·cases e
     ·rename_i q;cases e;exact⟨w,t,c,v,q,rfl⟩
 ·rintro⟨w,t,c,v,q,rfl⟩;refine⟨w,c,?_⟩;rw[v];show(if a∈t then none else some (a::t))=_;rw[on q]
theorem dL(a:Int->List Int)(r:Nat):val a r 0=some [0]:=by cases r<;>(unfold val;rw[if_pos rfl])
theorem xQ(c:Int->List Int):∀(r:Nat) (a:Int) (t:List Int),val c r a=some t->t.length<=r+1
 | 0,a,t,h=>by
   unfold val at h;split at h
   ·cases h;simp
   ·cases h
 | r+1,a,t,h=>by
   by_cases d:a=0
   ·subst d;rw[dL]at h;cases h;simp
   · have b:=mH c r d;rw[h]at b;obtain⟨w,u,_,v,_,rfl⟩:=b.1
     have:=xQ c r w u v
     simp;omega
def Good(b:Int->List Int)(r:Nat)(a:Int)(o:Option (List Int)):Prop:=(∀t,val b r a=some t->o=some t)/\(val b r a=none->∀t,o=some t->r+2<=t.length)
theorem qz{e:Int->List Int}{r:Nat}{a:Int}(C:a≠0){O:Int->Option (List Int)}{o:Option (List Int)}(h:∀w,w∈e a->Good e r w (O w))(b:IsB (BA e O a) o):Good e (r+1) a o:=by
 have k:=mH e r C;constructor
 · intro x A;rw[A]at k;obtain⟨⟨w,t,m,v,q,rfl⟩,g⟩:=k;have n:BA e O a (a::t):=⟨w,t,m,(h w m).1 t v,q,rfl⟩;cases o with
   |none=>exact absurd n (b _)
   |some y=>
     obtain⟨⟨d,j,c,i,l,rfl⟩,l2⟩:=b;have l2:=l2 _ n;cases f:val e r d with
     |some s=>
       have:=(h d c).1 s f
       rw[i]at this;cases this;rw[IY (g _ ⟨d,j,c,f,l,rfl⟩) l2]
     |none=>
       have u:=(h d c).2 f j i;have D:=xQ e r w t v;have p:=EH l2;simp at p;omega
 · intro B y z;rw[B]at k;subst z;obtain⟨⟨d,j,c,i,l,rfl⟩,_⟩:=b;cases f:val e r d with
   |some s=>
     have:=(h d c).1 s f
     rw[i]at this;cases this;exact absurd ⟨d,j,c,f,l,rfl⟩ (k _)
   |none=>
     have u:=(h d c).2 f j i;simp;omega
theorem uq(c:Int->List Int):∀(r:Nat) (a:Int),Good c r a (val c (r+1) a)
 | r,a=>by
   by_cases d:a=0
   ·subst d;rw[dL];exact⟨λt h=>by rw[dL]at h;exact h,λh=>by rw[dL]at h;cases h⟩
   · cases r with
     |zero=>
       refine⟨λt h=>(by unfold val at h;rw[if_neg d]at h;cases h),λ_ t h=>?_⟩;have b:=mH c 0 d;rw[h]at b;obtain⟨w,u,_,v,_,rfl⟩:=b.1;unfold val at v;split at v
       ·cases v;simp
       ·cases v
     |succ r=>exact qz d (λw _=>uq c r w) (mH c (r+1) d)
theorem Good.mono{b:Int->List Int}{r:Nat}{a:Int}{o:Option (List Int)}(h:Good b (r+1) a o):Good b r a o:=by
 have g:=uq b r a;refine⟨λt e=>h.1 t (g.1 t e),λe t c=>?_⟩;cases v:val b (r+1) a with
 |none=>have:=h.2 v t c;omega
 |some s=>
   have:=h.1 s v
   rw[c]at this;cases this;exact g.2 e t v
theorem Live.settle{sz:Int}:∀(n:Nat) {p:PostT},Live sz p->Live sz (aW n p).2
 |0,p,L=>L
 | n+1,p,L=>by
   unfold aW;split
   ·exact L
   ·exact Live.settle n L.next
theorem dt(p:PostT):(bM p).guild=p.guild:=by
 unfold bM;split
 ·rfl
 ·exact ml _ _ _
theorem jM:∀(n:Nat) (p:PostT),(aW n p).2.guild=p.guild
 |0,p=>rfl
 | n+1,p=>by
   unfold aW;split
   ·rfl
   ·exact(jM n _).trans (dt p)
abbrev nh(p:PostT)(a:Int):List Int:=aL p.guild.hω p.guild.U a
theorem gw{p q:PostT}(h:q.guild=p.guild):nh q=nh p:=by unfold nh;rw[h]
section
variable{sz:Int}{p:PostT}{W:P0}
theorem k6(G:GuildIs p.guild sz W [] [] []){a b:Int}(h:nb p a b):nb p b a:=(G.way b a).mpr ((G.way a b).mp h).symm
theorem ng(L:Live sz p)(G:GuildIs p.guild sz W [] [] []){w a:Int}:w∈nh p a↔nb p w a:=by
 rw[k8];constructor
 ·rintro⟨_,h⟩;exact k6 G h
 ·intro h;rw[G.count];exact⟨(L.mid.pw.nb_in h).1,k6 G h⟩
theorem uf(L:Live sz p)(G:GuildIs p.guild sz W [] [] []){h:Int}(c:0<=h/\h<sz){q:Int×pX}(d:q∈a9 p h):∃t,bX p q.1 h=some t/\nb p q.1 h/\q.2=bA [] [] (h::t)/\h∉t:=by
 have a:=uu (L.mid.pw.st c).1 (show(q.1,q.2)∈a9 p h from d);rw[L.mid.stn h q.1 c]at a;unfold wP at a;split at a
 · rename_i m;cases e:bX p q.1 h with
   |none=>rw[e]at m;cases m
   |some t=>
     rw[e]at a m;have f:=L.mid.tnb _ _ _ e;have m:(decide (h≠0)&&nq (wc p.guild h) h t)=true:=m;rw[Xr]at m;injection a with a
     have b:=m.2;unfold nq at b;rw[Bool.and_eq_true]at b;exact⟨t,rfl,f,by rw[<-a];exact uj G.lik G.wsh _,by simpa using b.1⟩
 ·cases a
theorem nv(L:Live sz p)(G:GuildIs p.guild sz W [] [] []){a:Int}(c:0<=a/\a<sz)(h:a≠0):IsB (BA (nh p) (λw=>bX p w a) a) (ai p.roads a):=by
 rw[L.all a c];unfold bT;rw[if_neg h]
 have e:(a9 p a).map (·.2)=((a9 p a).map λq=>q.2.2.2).map (bA [] []):=by
  rw[Ws];refine WM λq d=>?_;obtain⟨t,_,_,g,_⟩:=uf L G c d;show q.2=bA [] [] q.2.2.2;rw[g];rfl
 rw[e];refine IsB.congr (λx=>?_) yJ;rw[We];constructor
 ·rintro⟨q,d,rfl⟩;obtain⟨t,b,l,g,f⟩:=uf L G c d;refine⟨q.1,t,(ng L G).mpr l,b,f,?_⟩;rw[g];rfl
 · rintro⟨w,t,m,b,f,rfl⟩;have st:=L.mid.stn a w c;have b:bX p w a=some t:=b;rw[b]at st
   have i:t.any (wc p.guild a)=false:=by
    rw[List.any_eq_false];intro x _ k;cases(G.shn a x).mp k
   have j:rG (wc p.guild a) a (some t)=true:=by
    show(decide (a≠0)&&nq (wc p.guild a) a t)=true;unfold nq;rw[i,decide_eq_true h,decide_eq_false f];rfl
   unfold wP at st;rw[if_pos j]at st;exact⟨_,DS st,rfl⟩
theorem bL(L:Live sz p)(h0:0<sz):ai p.roads 0=some [0]:=by
 rw[L.all 0 (by omega)];rfl
theorem Tf(L:Live sz p)(G:GuildIs p.guild sz W [] [] []){a:Int}(d:0<=a/\a<sz):Good (nh p) 0 a (ai p.roads a):=by
 by_cases c:a=0
 ·subst c;rw[bL L (by omega)];exact⟨λt h=>by rw[dL]at h;exact h,λh=>by rw[dL]at h;cases h⟩
 · refine⟨λt h=>(by unfold val at h;rw[if_neg c]at h;cases h),λ_ t h=>?_⟩;have b:=nv L G d c;rw[h]at b;obtain⟨w,u,_,_,_,rfl⟩:=b.1;have pk:=L.mid.pw.roads.all _ (iX h);cases u with
   |nil=>have:=pk.last;simp at this;exact absurd this c
   |cons x u=>simp
def Hd(b:Int->List Int):Nat->PostT->Prop
 |0,_=>True
 |r+1,p=>∀w a,nb p w a->Good b r w (bX p w a)
theorem mM(L:Live sz p)(G:GuildIs p.guild sz W [] [] []){r:Nat}(h:Hd (nh p) r p){a:Int}(c:0<=a/\a<sz):Good (nh p) r a (ai p.roads a):=by
 cases r with
 |zero=>exact Tf L G c
 |succ r=>
   by_cases b:a=0
   ·subst b;rw[bL L (by omega)];exact⟨λt h=>by rw[dL]at h;exact h,λh=>by rw[dL]at h;cases h⟩
   ·exact qz b (λw d=>h w a ((ng L G).mp d)) (nv L G c b)
theorem vq(q:PostT)(h:Int):(bc q h).2.told_last=q.told_last:=by
 unfold bc;split
 ·rfl
 ·exact xP _ _
theorem iT(L:Live sz p){q:List Int×Option (List Int)}{t:DI (Option (List Int))}(e:p.letters=q::t):∃a b,q.1=[a,b]/\nb p a b/\bM p=(bW p a b).2/\∀x y,bX (bM p) x y=if x=a/\y=b then ai p.roads a else bX p x y:=by
 obtain⟨a,b,g,d⟩:=L.mid.pw.first e;obtain⟨h,i⟩:=L.mid.lts a b _ d;have f:bM p=(bW p a b).2:=by unfold bM;rw[e];dsimp only;rw[g];rfl
 refine⟨a,b,g,h,f,λx y=>?_⟩;rw[f];unfold bX bW;rw[vq,d];show((p.told_last.put [a,b] ((some q.2).bind id)).get [x,y]).bind id=_;rw[cL];by_cases z:[x,y]=[a,b]
 ·obtain⟨rfl,rfl⟩:=bg z;rw[VL rfl,VL ⟨rfl,rfl⟩,i];rfl
 ·rw[on z,on λc=>z (by rw[c.1,c.2])]
theorem CS{X:Type}{F:DI X}{k:List Int}{v:X}:∃l,(F.put k v).map (·.1)=F.map (·.1)++l:=by
 unfold DI.put;split
 ·refine⟨[],?_⟩;rw[Ws,Wh];refine WM λp _=>?_;show(if p.1=k then (p.1,v) else p).1=p.1;split<;>rfl
 ·exact⟨[k],by rw[Wm];rfl⟩
theorem vO(q:PostT)(w r:Int):∃l,(aS q w r).letters.map (·.1)=q.letters.map (·.1)++l:=by
 unfold aS;split
 ·exact⟨[],by rw[Wh]⟩
 ·exact CS
theorem vt(q:PostT)(h:Int):∃l,(bc q h).2.letters.map (·.1)=q.letters.map (·.1)++l:=by
 unfold bc;split
 ·exact⟨[],by rw[Wh]⟩
 ·unfold writeAll;refine eZ (λz:PostT=>∃l,z.letters.map (·.1)=q.letters.map (·.1)++l) _ _ ⟨[],by rw[List.append_nil]⟩ λz a _ ⟨l,b⟩=>?_;obtain⟨l2,c⟩:=vO z h a;exact⟨l++l2,by rw[c,b,List.append_assoc]⟩
theorem uF{X:Type}{k:List Int}{v:X}{t:DI X}(nd:DI.nd ((k,v)::t)):DI.del ((k,v)::t) k=t:=by
 unfold DI.nd at nd;rw[List.map_cons,List.nodup_cons]at nd;unfold DI.del;rw[List.filter_cons_of_neg (by simp),List.filter_eq_self];intro x a;rw[decide_eq_true_iff];intro z;exact nd.1 (List.mem_map.mpr ⟨x,a,z⟩)
theorem AN(L:Live sz p){q:List Int×Option (List Int)}{t:DI (Option (List Int))}(e:p.letters=q::t):∃l,(bM p).letters.map (·.1)=t.map (·.1)++l:=by
 obtain⟨a,b,c,_,f,_⟩:=iT L e;rw[f];unfold bW;obtain⟨l,d⟩:=vt (qy {p with letters:=p.letters.del [a,b]} a b ((p.letters.get [a,b]).bind id)) b;refine⟨l,d.trans ?_⟩;show(p.letters.del [a,b]).map (·.1)++l=_;have nd:=L.mid.pw.lts.1;rw[e]at nd ⊢;obtain⟨k,v⟩:=q;have c:k=[a,b]:=c;subst c;rw[uF nd]
theorem rT(L:Live sz p)(G:GuildIs p.guild sz W [] [] []){r:Nat}(h:Hd (nh p) r p):Hd (nh p) r (bM p):=by
 cases r with
 |zero=>trivial
 |succ r=>
   cases e:p.letters with
   |nil=>unfold bM;rw[e];exact h
   |cons q t=>
     obtain⟨a,b,_,f,_,d⟩:=iT L e;intro w x c;have c:nb p w x:=by unfold nb at c ⊢;rw[dt]at c;exact c
     rw[d];split
     ·rename_i z;rw[z.1];exact(mM L G h (L.mid.pw.nb_in f).1).mono
     ·exact h w x c
def vN:Nat->PostT->PostT
 |0,p=>p
 |n+1,p=>vN n (bM p)
theorem rQ:∀(n m:Nat) (p:PostT),vN (n+m) p=vN m (vN n p)
 |0,m,p=>by rw[Zx];rfl
 |n+1,m,p=>by rw[Nat.succ_add_eq_add_succ,Nat.add_succ];exact rQ n m (bM p)
theorem jZ:∀(n:Nat) {p:PostT},Live sz p->Live sz (vN n p)/\(vN n p).guild=p.guild
 |0,p,L=>⟨L,rfl⟩
 |n+1,p,L=>⟨(jZ n L.next).1,(jZ n L.next).2.trans (dt p)⟩
theorem JZ{r:Nat}:∀(S:List (List Int)) {p:PostT} (S2:List (List Int)),Live sz p->GuildIs p.guild sz W [] [] []->Hd (nh p) r p->p.letters.map (·.1)=S++S2->(∀w a,nb p w a->[w,a]∉S->Good (nh p) r w (bX p w a))->Hd (nh p) (r+1) (vN S.length p)
 |[],p,S2,L,G,h,e,f=>λw a g=>f w a g List.not_mem_nil
 | k::S,p,S2,L,G,h,e,f=>by
   cases el:p.letters with
   |nil=>rw[el]at e;cases e
   |cons q t=>
     rw[el]at e;injection e with e1 u
     obtain⟨a,b,s,g,_,j⟩:=iT L el;obtain⟨l,o⟩:=AN L el;have d:=dt p
     have i:=JZ (r:=r) S (p:=bM p) (S2++l) L.next (by rw[d];exact G) (by rw[gw d];exact rT L G h) (by rw[o,u];exact Wy S S2 l) (λw x c m=>by
      rw[gw d,j];have c:nb p w x:=by unfold nb at c ⊢;rw[d]at c;exact c
      split
      ·rename_i z;rw[z.1];exact mM L G h (L.mid.pw.nb_in g).1
      · rename_i z;refine f w x c λn=>?_;rcases VY.mp n with y|y
        ·have e1:q.1=k:=e1;rw[<-e1,s]at y;exact z (bg y)
        ·exact m y)
     rw[gw d]at i;exact i
end
theorem DK{W:Type}[DecidableEq W]:∀{l m:List W},l.Nodup->(∀x∈l,x∈m)->l.length<=m.length
 |[],_,_,_=>WP _
 | a::l,m,nd,h=>by
   have nd:=Wc.mp nd;have d:=DK (l:=l) (m:=m.erase a) nd.2 λx b=>(List.mem_erase_of_ne (show x≠a from λz=>nd.1 (by rw[<-z];exact b))).mpr (h x (VR _ b));have c:=h a VP
   have:=List.length_pos_of_mem c
   rw[List.length_erase_of_mem c]at d;rw[VV];omega
section
variable{sz:Int}{p:PostT}{W:P0}
theorem yC(L:Live sz p)(G:GuildIs p.guild sz W [] [] []):p.letters.length<=2*W.length:=by
 have P:=L.mid.pw
 have:=DK (l:=p.letters.map (·.1)) (m:=(W.map λx=>[x.1,x.2])++W.map λx=>[x.2,x.1]) P.lts.1 (λk f=>by
  obtain⟨q,c,rfl⟩:=We.mp f;obtain⟨a,b,d,_⟩:=P.lts.2 q c;have g:p.letters.get [a,b]=some q.2:=dC P.lts.1 (by rw[<-d];exact c);have e:=(L.mid.lts a b _ g).1;rw[d,VW];rcases(G.way a b).mp e with z|z
  ·exact .inl (We.mpr ⟨_,z,rfl⟩)
  ·exact .inr (We.mpr ⟨_,z,rfl⟩))
 rw[VO,VQ,VO,VO]at this;omega
theorem Ch(M:Nat)(h:2*W.length<=M):∀(r:Nat) {p:PostT},Live sz p->GuildIs p.guild sz W [] [] []->∃n,n<=r*M/\Hd (nh p) r (vN n p)
 |0,p,L,G=>⟨0,by omega,trivial⟩
 | r+1,p,L,G=>by
   obtain⟨n,i,hd⟩:=Ch M h r L G;obtain⟨L2,c⟩:=jZ n L;have d:GuildIs (vN n p).guild sz W [] [] []:=by rw[c];exact G
   have j:=yC L2 d;have b:Hd (nh (vN n p)) r (vN n p):=by rw[gw c];exact hd
   have rd:=JZ (r:=r) ((vN n p).letters.map (·.1)) [] L2 d b (by rw[Wh]) (λw a f g=>by
    have e:(vN n p).letters.get [w,a]=none:=iG g;rw[L2.mid.told w a f e]
    exact mM L2 d b (L2.mid.pw.nb_in f).1)
   rw[VO,<-rQ,gw c]at rd;exact⟨_,by rw[Nat.succ_mul];omega,rd⟩
theorem Lg(L:Live sz p)(G:GuildIs p.guild sz W [] [] [])(h:Hd (nh p) sz.toNat p){a:Int}(b:0<=a/\a<sz):ai p.roads a=val (nh p) sz.toNat a:=by
 have g:=mM L G h b;cases v:val (nh p) sz.toNat a with
 |some t=>exact g.1 t v
 |none=>
   cases e:ai p.roads a with
   |none=>rfl
   |some t=>
     have d:=g.2 v t e;have c:=(L.mid.pw.roads.all _ (iX e)).len;omega
theorem AM(L:Live sz p)(G:GuildIs p.guild sz W [] [] [])(h:Hd (nh p) sz.toNat p){q:List Int×Option (List Int)}{t:DI (Option (List Int))}(e:p.letters=q::t):(bM p).letters=t:=by
 obtain⟨a,b,g,j,i,_⟩:=iT L e;have d:=(L.mid.pw.nb_in j).2;have f:=dt p;have l:=Lg L G h d;have c:=Lg L.next (by rw[f];exact G) (by rw[gw f];exact rT L G h) d;rw[gw f,<-l,i]at c;rw[i];unfold bW at c ⊢;unfold bc at c ⊢;split
 ·show p.letters.del [a,b]=t;have nd:=L.mid.pw.lts.1;rw[e]at nd ⊢;obtain⟨k,v⟩:=q;have g:k=[a,b]:=g;subst g;exact uF nd
 ·rename_i z;rw[on z,tp]at c;have c:ai (p.roads.set b.toNat _) b=ai p.roads b:=c;rw[qD d.1 ⟨d.1,by have:=L.mid.pw.roads.len;omega⟩,VL rfl]at c;exact absurd c z
theorem Ll:∀(t:DI (Option (List Int))) {p:PostT},p.letters=t->Live sz p->GuildIs p.guild sz W [] [] []->Hd (nh p) sz.toNat p->(vN t.length p).letters=[]
 |[],p,e,_,_,_=>e
 | q::t,p,e,L,G,h=>by
   have a:=dt p;exact Ll t (AM L G h e) L.next (by rw[a];exact G) (by rw[gw a];exact rT L G h)
theorem qa:∀(n m:Nat) (p:PostT),m<=n->(vN m p).letters=[]->(aW n p).1<=m/\(aW n p).2.letters=[]
 | 0,m,p,b,h=>by
   have:m=0:=by omega
   subst this;exact⟨V2 _,h⟩
 | n+1,m,p,b,h=>by
   unfold aW;by_cases q:p.letters=[]
   ·rw[VL q];exact⟨WP _,q⟩
   · rw[on q];cases m with
     |zero=>exact absurd h q
     |succ m=>
       have a:=qa n m (bM p) (by omega) h;exact⟨by have:=a.1;show _+1<=_;omega,a.2⟩
theorem Re(L:Live sz p)(G:GuildIs p.guild sz W [] [] [])(d:sz<=20)(g:W.length<=99):(aW 5000 p).1<5000/\(aW 5000 p).2.letters=[]:=by
 obtain⟨n,e,hd⟩:=Ch 198 (by omega) sz.toNat L G;obtain⟨L2,a⟩:=jZ n L;have c:GuildIs (vN n p).guild sz W [] [] []:=by rw[a];exact G
 have f:=yC L2 c;have b:=Ll _ rfl L2 c (by rw[gw a];exact hd);rw[<-rQ]at b;have hz:sz.toNat*198<=20*198:=Nat.mul_le_mul_right _ (by omega)
 have:=qa 5000 _ p (by omega) b
 exact⟨by have:=this.1;omega,this.2⟩
end
def UQ(W:P0):List Int->Prop
 |a::b::t=>(min a b,max a b)∈W/\UQ W (b::t)
 |_=>True
theorem FM{W:P0}:∀{r:List Int} {k:Nat} {x y:Int},UQ W r->r[k]?=some x->r[k+1]?=some y->(min x y,max x y)∈W
 |[],k,x,y,_,e,_=>by simp at e
 |[a],k,x,y,_,_,e=>by simp at e
 | a::b::t,0,x,y,h,e1,c=>by
   simp at e1 c;rw[<-e1,<-c];exact h.1
 |a::b::t,k+1,x,y,h,e1,c=>FM (r:=b::t) (k:=k) h.2 (by simpa using e1) (by simpa using c)
section
variable{sz:Int}{p:PostT}{W:P0}
theorem vw(L:Live sz p)(G:GuildIs p.guild sz W [] [] [])(d:p.letters=[]){a:Int}(f:0<=a/\a<sz)(g:a≠0):IsB (BA (nh p) (λw=>ai p.roads w) a) (ai p.roads a):=by
 refine IsB.congr (λx=>?_) (nv L G f g);have c:∀w,w∈nh p a->bX p w a=ai p.roads w:=λw b=>L.mid.told w a ((ng L G).mp b) (by rw[d];rfl);constructor
 ·rintro⟨w,t,b,e,q,rfl⟩;exact⟨w,t,b,(c w b).symm.trans e,q,rfl⟩
 ·rintro⟨w,t,b,e,q,rfl⟩;exact⟨w,t,b,(c w b).trans e,q,rfl⟩
theorem jP(L:Live sz p)(G:GuildIs p.guild sz W [] [] [])(d:p.letters=[]){h:Int}(f:0<=h/\h<sz)(h0:h≠0){r:List Int}(e:ai p.roads h=some r):∃w t,r=h::t/\nb p w h/\(0<=w/\w<sz)/\ai p.roads w=some t:=by
 have b:=vw L G d f h0;rw[e]at b;obtain⟨w,t,c,g,_,rfl⟩:=b.1;have a:=(ng L G).mp c;exact⟨w,t,rfl,a,(L.mid.pw.nb_in a).1,g⟩
theorem jQ(L:Live sz p)(G:GuildIs p.guild sz W [] [] [])(a:p.letters=[]){h:Int}(b:0<=h/\h<sz){r:List Int}(e:ai p.roads h=some r):∃u,r=h::u:=by
 by_cases h0:h=0
 ·subst h0;rw[bL L (by omega)]at e;cases e;exact⟨[],rfl⟩
 ·obtain⟨w,t,rfl,_⟩:=jP L G a b h0 e;exact⟨t,rfl⟩
theorem tM(L:Live sz p)(G:GuildIs p.guild sz W [] [] [])(f:WaysOk sz W)(b:p.letters=[]):∀(r:List Int) {h:Int},(0<=h/\h<sz)->ai p.roads h=some r->UQ W r
 |[],h,d,e=>by trivial
 | a::t,h,d,e=>by
   by_cases h0:h=0
   ·subst h0;rw[bL L (by omega)]at e;cases e;trivial
   · obtain⟨w,u,k,j,c,g⟩:=jP L G b d h0 e;injection k with e1 l
     subst e1 l;have i:=tM L G f b t c g;obtain⟨v,rfl⟩:=jQ L G b c g;exact⟨(cQ f _ _).mp ((G.way _ _).mp (k6 G j)),i⟩
theorem yr(L:Live sz p)(G:GuildIs p.guild sz W [] [] [])(c:p.letters=[]):∀(r:List Int) {h b:Int},(0<=h/\h<sz)->ai p.roads h=some r->b∈r->∃s,ai p.roads b=some s/\s.length<=r.length
 |[],h,b,d,e,f=>by cases f
 | a::t,h,b,d,e,f=>by
   obtain⟨u,g⟩:=jQ L G c d e;injection g with e1 i
   subst e1 i;rcases VY.mp f with z|z
   ·subst z;exact⟨_,e,V2 _⟩
   · by_cases h0:a=0
     ·subst h0;rw[bL L (by omega)]at e;cases e;cases z
     · obtain⟨w,u,g,_,j,k⟩:=jP L G c d h0 e;injection g with _ i
       subst i;obtain⟨s,l,m⟩:=yr L G c t j k z;exact⟨s,l,by rw[VV];omega⟩
theorem qX(L:Live sz p)(G:GuildIs p.guild sz W [] [] [])(f:p.letters=[]){a b:Int}(d:nb p a b){r:List Int}(e:ai p.roads a=some r):∃s,ai p.roads b=some s/\s.length<=r.length+1:=by
 obtain⟨j,i⟩:=L.mid.pw.nb_in d;by_cases h:b=0
 ·subst h;exact⟨[0],bL L (by omega),by simp⟩
 · by_cases q:b∈r
   ·obtain⟨s,c,k⟩:=yr L G f r j e q;exact⟨s,c,by omega⟩
   · have B:=vw L G f i h;have g:BA (nh p) (λw=>ai p.roads w) b (b::r):=⟨a,r,(ng L G).mpr d,e,q,rfl⟩;cases c:ai p.roads b with
     |none=>rw[c]at B;exact absurd g (B _)
     |some s=>
       rw[c]at B
       have:=EH (B.2 _ g)
       exact⟨s,rfl,by simpa using this⟩
theorem LK(G:GuildIs p.guild sz W [] [] [])(c:WaysOk sz W){a b:Int}(h:b∈dY W sz a):nb p a b:=by
 unfold dY at h;rw[List.mem_filter,decide_eq_true_iff]at h;exact(G.way a b).mpr ((cQ c a b).mpr h.2)
theorem N0(L:Live sz p)(G:GuildIs p.guild sz W [] [] [])(c:WaysOk sz W){a b:Int}(h:nb p a b):b∈dY W sz a:=by
 unfold dY;rw[List.mem_filter,decide_eq_true_iff,ce];exact⟨(L.mid.pw.nb_in h).2,(cQ c a b).mp ((G.way a b).mp h)⟩
theorem FL(L:Live sz p)(G:GuildIs p.guild sz W [] [] [])(i:WaysOk sz W)(c:p.letters=[]){C:List (Option Int)}(F:Fair W sz C):∀(r:List Int) {h:Int},(0<=h/\h<sz)->ai p.roads h=some r->∃d,db C h=some d/\d+1<=r.length
 |[],h,f,e=>by obtain⟨u,z⟩:=jQ L G c f e;cases z
 | a::t,h,f,e=>by
   by_cases h0:h=0
   ·subst h0;rw[bL L (by omega)]at e;cases e;exact⟨0,F.seat,by simp⟩
   · obtain⟨w,u,l,j,b,m⟩:=jP L G c f h0 e;injection l with e1 n
     subst e1 n;obtain⟨d,g,hd⟩:=FL L G i c F t b m;rcases F.tie w _ b.1 b.2 (N0 L G i j) with ⟨z,_⟩|⟨x,y,ex,k,q,o⟩
     ·rw[z]at g;cases g
     ·rw[g]at ex;cases ex;exact⟨y,k,by rw[VV];omega⟩
theorem EI(L:Live sz p)(G:GuildIs p.guild sz W [] [] [])(j:WaysOk sz W)(g:p.letters=[]){C:List (Option Int)}(F:Fair W sz C):∀(n:Nat) {h d:Int},(0<=h/\h<sz)->db C h=some d->d.toNat=n->∃r,ai p.roads h=some r/\(r.length:Int)<=d+1:=by
 intro n
 induction n with
 |zero=>
   intro h d a e m;by_cases h0:h=0
   · subst h0
     have:=F.seat
     rw[e]at this;cases this;exact⟨[0],bL L (by omega),by simp⟩
   ·have:=F.pos h d a.1 a.2 e h0;omega
 |succ n f=>
   intro h d a e m;by_cases h0:h=0
   · subst h0
     have:=F.seat
     rw[e]at this;cases this;exact⟨[0],bL L (by omega),by simp⟩
   ·obtain⟨b,i,o⟩:=F.par h d a.1 a.2 h0 e;have c:=LK (p:=p) G j i;obtain⟨s,k,q⟩:=f (L.mid.pw.nb_in c).2 o (by omega);obtain⟨r,l,t⟩:=qX L G g (k6 G c) k;exact⟨r,l,by omega⟩
theorem IX(L:Live sz p)(G:GuildIs p.guild sz W [] [] [])(g:WaysOk sz W)(b:p.letters=[]){C:List (Option Int)}(F:Fair W sz C){h:Int}(f:0<=h/\h<sz):(ai p.roads h=none/\db C h=none)\/∃r,ai p.roads h=some r/\db C h=some ((r.length:Int)-1):=by
 cases e:ai p.roads h with
 |none=>
   refine .inl ⟨rfl,?_⟩;cases c:db C h with
   |none=>rfl
   |some d=>obtain⟨r,a,_⟩:=EI L G g b F _ f c rfl;rw[e]at a;cases a
 |some r=>
   obtain⟨d,i,hd⟩:=FL L G g b F r f e;obtain⟨j,a,k⟩:=EI L G g b F _ f i rfl;rw[e]at a;cases a;exact .inr ⟨r,rfl,by rw[i];congr 1;omega⟩
end
theorem E2{r:List Int}{x:Int}(h:r.getLast?=some x):iZ r (-1)=some x:=by
 obtain⟨g,rfl⟩:=List.getLast?_eq_some_iff.mp h;exact L2.pp g x
theorem An{h:Int}{u:List Int}{W:P0}(o:(h::u).getLast?=some 0)(p:UQ W (h::u))(t:(h::u).length<=60):(z9 (some (h::u)) h W).res=.ok true:=by
 have n:=E2 o;have A:iZ (h::u) 0=some h:=by rw[fU _ (by omega)];rfl
 have e1:oM ⟨some (h::u),h,W,none,none⟩=.nx ⟨some (h::u),h,W,none,none⟩:=by
  have j:¬ ((u.length:Int)+1=0):=by omega
  simp[oM,n,A,j]
 have d:((h::u).length:Int)=u.length+1:=by simp
 generalize h::u=r at *
 obtain⟨B,e,k,q,rfl⟩:=j6 (u:=λa s=>{s with veq:=some a}) (c:=o6) (λs:S_bh9=>∃k q,s=⟨some r,h,W,k,q⟩) (c9 0 ((r.length:Int)-1)) ⟨some r,h,W,none,none⟩ ⟨none,none,rfl⟩ (by
  rintro k s b ⟨D,C,rfl⟩;have b:=ce.mp b;have g:r[k.toNat]?=some r[k.toNat]:=V4 (by omega);have f:r[k.toNat+1]?=some r[k.toNat+1]:=V4 (by omega);have i:=FM p g f;generalize r[k.toNat]=x at *;generalize r[k.toNat+1]=y at *;have z:iZ r k=some x:=by rw[fU _ b.1];exact g
  have w:iZ r (k+1)=some y:=by rw[fU _ (by omega),show(k+1).toNat=k.toNat+1 by omega];exact f
  have m:(if y<x then y else x)=min x y:=by rw[Y8];split<;>split<;>omega
  have l:(if x<y then y else x)=max x y:=by rw[Ys];split<;>split<;>omega
  exact⟨⟨some r,h,W,some k,some (min x y,max x y)⟩,.inl (by simp[o6,oJ,oI,z,w,m,l,i,tH]),_,_,rfl⟩)
 have rc:=fy (lo:=0) (hi:=(r.length:Int)-1) (by omega) (by omega) (by omega) (by omega);have v:oK ⟨some r,h,W,none,none⟩=.nx ⟨some r,h,W,k,q⟩:=by simp[oK,rc,e]
 unfold z9 xr;rw[AK e1,AK v];simp[u8]
section
variable{sz:Int}{p:PostT}{W:P0}
theorem jL{a:Int}(L:Live sz p)(d:sz<=60)(b:0<=a/\a<sz):(xM p a).res=.ok (ai p.roads a):=by
 have P:=L.mid.pw;have c:=jj p.guild [a] (by rw[P.g.count];exact in1 b) (by rw[P.g.count];omega);have Gq:iZ p.roads a=some (ai p.roads a):=Qf b.1 (by have:=P.roads.len;omega);unfold xM FV;simp[y6,yZ,c,Gq,B8,af]
theorem B5(L:Live sz p)(G:GuildIs p.guild sz W [] [] [])(F:WaysOk sz W)(h:p.letters=[])(Q:1<=sz)(f:sz<=60):(z7 p W sz).res=.ok true:=by
 obtain⟨K,e,a,r,rfl⟩:=j6 (u:=λa s=>{s with v0q:=some a}) (c:=iN) (λs:S_bk9=>∃a r,s=⟨p,W,sz,a,r,none,none,none⟩) (c9 0 sz) ⟨p,W,sz,none,none,none,none,none⟩ ⟨none,none,rfl⟩ (by
  rintro a s i ⟨g,M,rfl⟩;have i:=ce.mp i;have rd:=jL L f i;refine⟨⟨p,W,sz,some a,some (ai p.roads a),none,none,none⟩,.inl ?_,_,_,rfl⟩;cases d:ai p.roads a with
  |none=>
    have g:a≠0:=λz=>by subst z;rw[bL L (by omega)]at d;cases d
    rw[d]at rd;simp[iN,gM,gL,gK,rd,g]
  |some r=>
    have ch:=tM L G F h r i d;have pk:=L.mid.pw.roads.all _ (iX d);have N:=pk.len;obtain⟨u,rfl⟩:=jQ L G h i d;have B:=An pk.last ch (by omega);rw[d]at rd;by_cases g:a=0
    · subst g;rw[bL L (by omega)]at d;cases d;have C:1<=af:=by unfold af;omega
      simp[C,lJ,iN,gM,gL,gK,rd,B]
    ·simp[iN,gM,gL,gK,rd,g,B])
 have rc:=fy (lo:=0) (hi:=sz) (by omega) (by omega) (by omega) (by omega);have e1:oB ⟨p,W,sz,none,none,none,none,none⟩=.nx ⟨p,W,sz,a,r,none,none,none⟩:=by simp[oB,rc,e]
 obtain⟨D,H,J,I,n,m,rfl⟩:=j6 (u:=λa s=>{s with v0q:=some a.1,v1q:=some a.2}) (c:=kG) (λs:S_bk9=>∃a b n m,s=⟨p,W,sz,a,r,b,n,m⟩) W ⟨p,W,sz,a,r,none,none,none⟩ ⟨a,none,none,none,rfl⟩ (by
  rintro⟨x,y⟩ s E ⟨g,R,n,m,rfl⟩;have nx:nb p x y:=(G.way x y).mpr (.inl E);have w:=L.mid.pw.nb_in nx;have l:=jL L f w.1;have k:=jL L f w.2;refine⟨⟨p,W,sz,some x,r,some y,some (ai p.roads x),some (ai p.roads y)⟩,.inl ?_,_,_,_,_,rfl⟩;cases ex:ai p.roads x with
  |none=>
    have o:ai p.roads y=none:=by
     cases o:ai p.roads y with
     |none=>rfl
     |some s=>obtain⟨t,j,_⟩:=qX L G h (k6 G nx) o;rw[ex]at j;cases j
    rw[ex]at l;rw[o]at k ⊢;simp[kG,jC,jB,jA,jz,l,k]
  |some s=>
    obtain⟨t,j,P⟩:=qX L G h nx ex;obtain⟨D,A,O⟩:=qX L G h (k6 G nx) j;rw[ex]at A;cases A;rw[ex]at l;rw[j]at k ⊢;have q:¬ 1<(if (s.length:Int)-t.length<0 then -((s.length:Int)-t.length) else (s.length:Int)-t.length):=by split<;>omega
    simp[kG,jC,jB,jA,jz,l,k]
    exact λz=>absurd z q)
 have v:oy ⟨p,W,sz,a,r,none,none,none⟩=.nx ⟨p,W,sz,J,r,I,n,m⟩:=by simp[oy,H]
 unfold z7 xn;rw[AK e1,AK v];simp[u5]
theorem He(L:Live sz p)(G:GuildIs p.guild sz W [] [] [])(j:WaysOk sz W)(i:p.letters=[])(m:1<=sz)(f:sz<=60){C:List (Option Int)}(F:Fair W sz C):(z6 p C sz).res=.ok true:=by
 obtain⟨k,e,a,r,rfl⟩:=j6 (u:=λa s=>{s with v0q:=some a}) (c:=kF) (λs:S_bm9=>∃a r,s=⟨p,C,sz,a,r⟩) (c9 0 sz) ⟨p,C,sz,none,none⟩ ⟨none,none,rfl⟩ (by
  rintro a s b ⟨n,l,rfl⟩;have b:=ce.mp b;have rd:=jL L f b;have d:=xJ (C:=C) b.1 (by have:=F.len;omega);refine⟨⟨p,C,sz,some a,some (ai p.roads a)⟩,.inl ?_,_,_,rfl⟩;rcases IX L G j i F b with ⟨g,h⟩|⟨r,g,h⟩
  ·rw[g]at rd ⊢;rw[h]at d;simp[kF,ju,jt,js,rd,d]
  · rw[g]at rd ⊢;rw[h]at d
    simp[kF,ju,jt,js,rd,d])
 have rc:=fy (lo:=0) (hi:=sz) (by omega) (by omega) (by omega) (by omega);have e1:oq ⟨p,C,sz,none,none⟩=.nx ⟨p,C,sz,a,r⟩:=by simp[oq,rc,e]
 unfold z6 xl;rw[AK e1];simp[uW]
end
theorem Fe:((Dg 20).map cI).Nodup:=by decide +kernel
theorem Hs.plain{sz:Int}{g:GΩ}{W:P0}(h:Wf sz g)(c:sz<=20)(G:GuildIs g sz W [] [] []):Hs g:=by
 have a:∀{X:Type} {F:DI X},(DI.nd F/\∀p∈F,PairOk sz p.1)->((F.map (·.1)).map cI).Nodup:=λ{X F} hF=>wB Fe hF.1 λk e=>by
  obtain⟨p,hp,rfl⟩:=We.mp e;exact AU ((hF.2 p hp).mono c)
 have b:g.wω=[]:=List.eq_nil_iff_forall_not_mem.mpr λq d=>by
  have:=dC h.wsh.1 (show(q.1,q.2)∈g.wω from d)
  rw[G.wsh]at this;cases this
 exact⟨a h.U,a h.lik,a h.shn,by rw[b];exact List.Pairwise.nil⟩
theorem Fi{sz:Int}{W:P0}(m:sz<=7)(g:WaysOk sz W):W.length<=49:=by
 have:=cR 49 (W.map λq=>q.1*7+q.2) (by
  unfold List.Nodup;rw[List.pairwise_map];refine List.Pairwise.imp_of_mem ?_ g.nd;intro p q hp h f e;have k:=g.all p hp;have j:=g.all q h;obtain⟨a,b⟩:=p;obtain⟨c,d⟩:=q;simp only at k j e;have e1:a=c:=by omega
  have l:b=d:=by omega
  rw[e1,l]at f;exact f rfl) (λx i=>by
  obtain⟨q,h,rfl⟩:=We.mp i
  have:=g.all q h
  omega)
 rwa [VO]at this
theorem w9(ns:List Int)(hl:ns.length<=63):∃s,GI ns=.ok true s:=by
 have cell:∀k:Int,0<=k->(kM ns k).res=.ok (cD ns k):=Hj ns;have K:0<=af:=WP _;have m7:0<=cD ns 0%7/\cD ns 0%7<7:=⟨Xk _ (by omega),Xe _ (by omega)⟩;have Y:0<=cD ns 0 / 56%13/\cD ns 0 / 56%13<13:=⟨Xk _ (by omega),Xe _ (by omega)⟩;have e1:oU ⟨ns,none,none,none,none,none,none⟩=.nx ⟨ns,some (1+cD ns 0%7),none,none,none,none,none⟩:=by simp[oU,cell]
 obtain⟨I,ew,B⟩:=G4 (cD ns 1) (1+cD ns 0%7) (by omega) (by omega);have e2:oT ⟨ns,some (1+cD ns 0%7),none,none,none,none,none⟩=.nx ⟨ns,some (1+cD ns 0%7),some I,none,none,none,none⟩:=by simp[oT,cell,ew]
 obtain⟨sz,W,e3,n,m,P,hk⟩:∃sz W,kq ⟨ns,some (1+cD ns 0%7),some I,none,none,none,none⟩=.nx ⟨ns,some sz,some W,none,none,none,none⟩/\1<=sz/\sz<=20/\WaysOk sz W/\(sz<=7\/W.length<=38):=by
  by_cases q:cD ns 0 / 7%8=1
  ·obtain⟨W1,e1,A,x⟩:=BZ (cD ns 1) (8+cD ns 0 / 56%13) (by omega) (by omega);exact⟨_,W1,by simp[kq,ko,kn,cell,q,e1],by omega,by omega,A,.inr (by omega)⟩
  ·exact⟨_,I,by simp[kq,cell,q],by omega,by omega,B,.inl (by omega)⟩
 have e:sz<=60:=by omega
 have R:∀{d},WaysOk sz d->DrawOk sz d [] [] []:=λb=>⟨⟨by omega,by omega⟩,b,⟨by simp,List.Pairwise.nil,λ_ h=>nomatch h⟩,⟨by simp,List.Pairwise.nil,λ_ h=>nomatch h⟩,⟨by simp,List.Pairwise.nil,λ_ h=>nomatch h⟩⟩;obtain⟨g,eg,G,_,v⟩:=p7 (R P);have mk:=Hb v (Hs.plain v m G) n e;have L0:=Live.new v n;have G0:GuildIs (t4 g).guild sz W [] [] []:=by rw[AO];exact G
 generalize t4 g=o at *;have e4:oR ⟨ns,some sz,some W,none,none,none,none⟩=.nx ⟨ns,some sz,some W,some o,none,none,none⟩:=by simp[oR,K,eg,mk]
 obtain⟨s5,e5,p,d,f,rfl,L,t,b,x⟩:=cJ (u:=λa s=>{s with v4q:=some a}) (c:=jD) (λN (s:S_bg9)=>∃p d f,s=⟨ns,some sz,some d,some p,f,none,none⟩/\Live sz p/\GuildIs p.guild sz d [] [] []/\WaysOk sz d/\d.length<=W.length+N.length) (ns.drop 2) ⟨ns,some sz,some W,some o,none,none,none⟩ ⟨o,W,none,rfl,L0,G0,P,by simp⟩ (by
  rintro N c r s _ ⟨p,d,f,rfl,L,t,b,x⟩;obtain⟨p',W2,M,dd,hp,hw,L',l,y,h2⟩:=B7 L t b n e c;subst hp hw
  exact⟨⟨ns,some sz,some M.vBq,some M.vpq,some c,none,none⟩,.inl (by simp[jD,dd]),_,_,some c,rfl,L',l,y,by rw[VQ];simp;omega⟩)
 have H:oQ ⟨ns,some sz,some W,some o,none,none,none⟩=.nx ⟨ns,some sz,some d,some p,f,none,none⟩:=by
  unfold oQ;simp[e5]
 have D:d.length<=99:=by
  rcases hk with z|z
  ·have:=Fi z b;omega
  ·rw[List.length_drop]at x;omega
 have st:=Ak L.mid.pw (by omega) e 5000 (by omega);obtain⟨r1,w⟩:=Re L t m D;have J:=Live.settle 5000 L;have Q:GuildIs (aW 5000 p).2.guild sz d [] [] []:=by rw[jM];exact t
 generalize (aW 5000 p).2=j at *;generalize (aW 5000 p).1=i at *
 have e6:oP ⟨ns,some sz,some d,some p,f,none,none⟩=.nx ⟨ns,some sz,some d,some j,f,some (i:Int),none⟩:=by
  have st:vJ p 5000=_:=st;simp[oP,st]
 have S:=mY J.mid.pw e;have U:bJ j=[]:=by unfold bJ;rw[w];rfl
 have e7:oO ⟨ns,some sz,some d,some j,f,some (i:Int),none⟩=.nx ⟨ns,some sz,some d,some j,f,some (i:Int),none⟩:=by
  have X:¬ (i:Int)<0:=by omega
  have V:¬ 5000<=(i:Int):=by omega
  simp[oO,tH,X,V,S,U]
 obtain⟨g2,E,l,_,T⟩:=p7 (R b);obtain⟨C,ec,O⟩:=L1 g2 (by rw[l.count];omega) (by rw[l.count];omega);rw[l.count]at O;have F:=Jf l b O;have e8:oN ⟨ns,some sz,some d,some j,f,some (i:Int),none⟩=.nx ⟨ns,some sz,some d,some j,f,some (i:Int),some C⟩:=by simp[oN,K,E,ec]
 have lg:=B5 J Q b w n e;have Z:=He J Q b w n e F;unfold GI xt;rw[AK e1,AK e2,AK e3,AK e4,AK H,AK e6,AK e7,AK e8];exact⟨_,by simp[u9,lg,Z];rfl⟩
theorem EZ(ns:List Int)(a:ns.length<=63):∃T,Ew [.scr (ns.map D.int)]=.ok (.bl true) T:=by
 obtain⟨s,e⟩:=w9 ns a
 have:=PV ns
 rw[e]at this;exact⟨_,this⟩
end K19
namespace K19
open PySem L2
def US:Tns:=[]
theorem Qg{w:World}{K:F0}{h:Heap}{mg:Str->Option Value}{T:Tbs}{g:Addr}(X:K.In h)(G:h.Ns mainGlobals mg)(b:mg "law" = some (.ref g))(TO:TabsOf mg h US T)(y:HD.obK Qy Qz QB QF QD QC QA K=Qv PySem.Challenge.pw_heraldways_k19_whole_a_plain_guild_comes):∃fd:FuncData,(∀(s:Shared) (v:Value),BindsTo s fd ⟨[v],[]⟩ [("script",v)])/\∀base:Heap,K.In base->base.Ns mainGlobals mg->(∀c P,PySem.W.CodeHd h c P->PySem.W.CodeHd base c P)->FnOk PySem.Challenge.rw_heraldways_k19_whole_a_plain_guild_comes.prog w K mg base tj 10 g fd ["script"] (Mi.spT K T):=by
 have f:eI K mg:=⟨⟨h,X,G⟩,y⟩;have e:=b.symm.trans (f.tm 17 rfl rfl);cases e;obtain⟨d,F⟩:=f.tf 45 rfl rfl
 have q:∀(s:Shared) (v:Value),BindsTo s d ⟨[v],[]⟩ [("script",v)]:=by
  obtain⟨oc,x,kV,r,pm,an,t,ct,i,rfl,lk,o⟩:=F.ex;exact λs v=>.of_eq rfl
 refine⟨d,q,λbase _ _ u=>?_⟩;refine(NM _ _ base f F).imp λvs H Q E k=>?_;obtain⟨a,xs,j,l,m,z,n⟩:=k;refine Mi.OR EZ j l m (λp hp=>?_) n;cases hp
theorem QK{K:F0}{q:Program}{loose:List Str}{XP:(Str->Option Value)->Heap->Prop}{d:DefRec}(e:d.params.defaults=[])(b:d.name = "law")(y:HD.obK Qy Qz QB QF QD QC QA K=Qv PySem.Challenge.pw_heraldways_k19_whole_a_plain_guild_comes):PySem.W.WalkO q loose XP (λ_ h=>K.In h) PySem.Challenge.rw_heraldways_k19_whole_a_plain_guild_comes.row.toRowW d [] (λf vs=>PySem.call f vs):=
 L2.GP (l:=PySem.Challenge.rw_heraldways_k19_whole_a_plain_guild_comes) (K:=λ_=>K) (n:=63) (k:=10) (x := "script") (CX:=λ_=>tj) (sp:=λ_ T=>Mi.spT K T) US rfl (by decide) e ⟨rfl,by decide,by decide⟩ (λ_ _ Y=>Y) (λ_ h=>absurd rfl h) (λ_ h=>(nomatch h)) (by unfold Tns.ok US;decide) (λw mg j h T X G c TO=>Qg X G (b▸c) TO y) (λw T H a ns g hO i=>⟨a,ns,rfl,Mi.LX hO i,g,Mi.QM hO,λ_=>rfl⟩) λ_ _ _ _ _ z=>z
end K19
open PySem PySem.W PyProof.Rows
set_option maxRecDepth 100000 in
set_option maxHeartbeats 0 in
theorem PySem.Challenge.cw_heraldways_k19_whole_a_plain_guild_comes_holds : PySem.Challenge.rw_heraldways_k19_whole_a_plain_guild_comes.Holds := by
 refine K19.hd0 λsaid=>?_;refine holds_openX (q:=K19.qP PySem.Challenge.pw_heraldways_k19_whole_a_plain_guild_comes) (loose:=[]) (Xt:=λs=>xlAt (K19.qP PySem.Challenge.pw_heraldways_k19_whole_a_plain_guild_comes) [] s&&recOk (RowW.records PySem.Challenge.rw_heraldways_k19_whole_a_plain_guild_comes.row.toRowW) s) (XP:=XL (K19.qP PySem.Challenge.pw_heraldways_k19_whole_a_plain_guild_comes) []) (Yf:=HD.ob K19.VB K19.Qy K19.Qz K19.QB K19.QF K19.QD K19.QC K19.QA) (Ya:=λ_=>K19.Qv PySem.Challenge.pw_heraldways_k19_whole_a_plain_guild_comes) (N:=6968) (λw=>HD.two (K19.S8 w) (K19.S7 w)) (λs e=>xl_of s (Y9.mp e).1) XL.keeps (by rfl) (by rfl) (by rfl) (λs e=>recFacts_of (Y9.mp e).2) (by rfl) said (by decide +kernel) ⟨rfl,rfl,rfl,rfl,rfl,by decide +kernel⟩ ?hw (HD.walkX λK y=>K19.QK rfl rfl y)
 case hw=>w_witness2
