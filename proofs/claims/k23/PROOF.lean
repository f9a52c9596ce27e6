import PyProof.Rows.All
import Wide.All
import Wide.FinOn
import OpenK.XOpen
import OpenK.KWalk
import OpenK.KMake
import OpenK.KOwn
import OpenK.KRaiseN
import OpenK.Peek
import OpenK.KCall
import OpenK.KGet
import KE.KIsAll
import KE.KBytesAny
import KE.BytesK
import KE.KxBytes
import KE.KDictOf
import KE.KItem
import Lean
import PyProof.EqAt
import PyProof.EqKinds
import PyProof.TupleCall
import KE.KLam
import KE.KMinKey
import KE.KDictList
import KE.KRevIter
import PyProof.WalksMore
import PyProof.Rows.SetFrom
import KE.KSortTup
import KE.KDictSum
import PyProof.DictUpdate
import Open.Tops
import PySem.Challenge.RW_heraldways_k23_what_is_no_house_or_road
set_option Elab.async false
set_option linter.all false
set_option maxRecDepth 100000
abbrev F0:=PySem.W.Frag
abbrev L0:=List (PySem.Addr×PySem.Obj)
abbrev L1:=PySem.Value->PySem.Shared->Prop
abbrev L3:=List (Int×Int)
local macro_rules|`(tactic|ac_rfl)=>`(tactic|(constructor<;>first|rfl|decide +kernel))
local macro_rules|`(command|def $i:declId $s:optDeclSig $v:declVal)=>`(command|noncomputable def $i:declId $s:optDeclSig $v:declVal)
local macro_rules|`(command|@[simp]def $i:declId $s:optDeclSig $v:declVal)=>`(command|@[simp]noncomputable def $i:declId $s:optDeclSig $v:declVal)
local macro_rules|`(command|abbrev $i:declId $s:optDeclSig $v:declVal)=>`(command|noncomputable abbrev $i:declId $s:optDeclSig $v:declVal)
def no:=@PySem.wpAny_bind
def on:=@List.mem_cons_of_mem
def RE:=@if_neg
def RF:=@if_pos
def RG:=@List.mem_cons_self
def RH:=@List.length_map
def RJ:=@List.map_cons
def RK:=@List.length_append
def RL:=@List.length_cons
def RM:=@PySem.Heap.get?_push_of_some
def RN:=@List.mem_append_right
def RO:=@List.mem_cons
def RP:=@PySem.wpAny_pure
def RQ:=@Bool.false_ne_true
def RS:=@PySem.Heap.lt_size
def RT:=@List.size_toArray
def RU:=@Nat.le_refl
def RV:=@List.mem_singleton
def RW:=@List.mem_append
def RX:=@List.mem_append_left
def RY:=@Nat.lt_of_lt_of_le
def RZ:=@List.nodup_cons
def R5:=@List.getElem?_eq_some_iff
def R6:=@List.getElem?_eq_none
def R7:=@List.getElem?_eq_getElem
def R8:=@PySem.W.mg_of
def R9:=@Option.some.inj
def Sa:=@List.getD_eq_getElem?_getD
def Sb:=@PySem.Heap.get?_push_size
def Sc:=@Nat.ne_of_lt
def Sd:=@Option.map_eq_some_iff
def Se:=@List.map_map
def Sf:=@Int.emod_nonneg
def Sg:=@Int.emod_lt_of_pos
def Si:=@PySem.Heap.get?_update_other
def Sj:=@Bool.and_eq_true_iff
def Sk:=@List.append_nil
def Sl:=@List.getElem?_map
def Sm:=@List.map_append
def Sn:=@List.mem_map
def Sq:=@PySem.F.plainAttrs_list
def Sr:=@beq_eq_false_iff_ne
def Ss:=@Array.length_toList
def Su:=@Nat.le_trans
def Sv:=@List.length_singleton
def Sw:=@List.replicate_succ
def Sx:=@List.lookup_cons
def Sy:=@List.nodup_nil
def Sz:=@List.nodup_append
def SA:=@Array.getElem?_eq_getElem
def SB:=@PySem.W.mg_none_of
def SC:=@decide_eq_false
def SD:=@PySem.F.slot_list_append
def SE:=@PySem.F.type_list_append
def SF:=@Nat.le_of_lt
def SG:=@List.length_eq_zero_iff
def SH:=@List.length_set
def SI:=@List.getElem?_eq_none_iff
def SK:=@List.map_congr_left
def SL:=@List.flatten_cons
def SM:=@List.map_nil
def SN:=@Nat.lt_of_le_of_lt
def SQ:=@PySem.F.plainAttrs_dict
def SR:=@Nat.zero_le
def SS:=@PySem.F.slot_dict_get
def SU:=@PySem.Heap.get?_update_self
def SV:=@Array.getElem?_toList
def SW:=@beq_self_eq_true
def SX:=@decide_eq_true
def SY:=@PySem.wpAny_typeNameOfWhole_keyiter
def SZ:=@Prod.mk.inj
def S0:=@List.eraseIdx_cons_succ
def S3:=@PySem.wpAny_mono
def S4:=@PySem.wpAny_execs_nil
def S5:=@PySem.mem_of_lookup
def S6:=@Nat.lt_irrefl
def S7:=@Bool.and_eq_true
def S8:=@PySem.wpAny_Call_Name_kw
def S9:=@PySem.wpAny_passesOwn
def Ta:=@List.append_assoc
def Tb:=@Option.isSome_iff_exists
def Tc:=@PySem.wpAny_typeNameOf_keyiter
def Td:=@PySem.F.slot_dict_update
def Te:=@PySem.F.type_dict_update
def Tg:=@PySem.W.hideAll_get
def Th:=@Ne.symm
def Ti:=@List.getElem?_set_self
def Tj:=@beq_iff_eq
def Tk:=@PySem.W.callWith_K
def Tl:=@PySem.tupleKind_room_in1
def Tn:=@PySem.F.entry_dict_get
def To:=@PySem.Calls.callWith_builtin
def Tq:=@List.mem_filter
def Tr:=@List.find?_cons
def Ts:=@List.foldl_cons
def Tt:=@PySem.wpAny_holding
def Tu:=@List.length_replicate
def Tv:=@PyProof.Rows.callWith_type1
def Tw:=@of_decide_eq_true
def Tx:=@List.getElem?_append_right
def Tz:=@List.mem_of_getElem?
def TD:=@PySem.Calls.evalArgs_plain
def TF:=@PySem.wpAny_execs_cons
def TH:=@List.all_eq_true
def TK:=@List.filter_cons
def TL:=@List.getElem?_append_left
def TM:=@PySem.Heap.SameBut.update
def TN:=@List.getD_cons_succ
def TQ:=@PySem.Paired.length
def TR:=@PySem.Calls.spliced_cons
def TU:=@Bool.false_eq_true
def TV:=@decide_eq_true_iff
def TW:=@List.getElem?_replicate
def TX:=@List.getElem?_cons_succ
def TY:=@PySem.codeAny_mono
def TZ:=@PySem.wpAny_tryCatch
def T1:=@List.length_range
def T2:=@PySem.wpAny_dictEntries
def T3:=@Nat.succ.inj
def T4:=@PySem.W.methodCall_KW
def T5:=@Nat.lt_succ_self
def T6:=@List.getElem_mem
def T7:=@List.drop_length
def T8:=@List.getElem?_set_ne
def T9:=@PySem.sizeLine_eq
def Ua:=@Array.mem_toList_iff
def Ub:=@PySem.Around.under_plainId
def Ud:=@PySem.Obj.data_mapDictKeys
def Ue:=@Bool.eq_iff_iff
def Uf:=@Option.map_some
def Ug:=@PySem.W.plainGet_of
def Uh:=@List.getElem_of_mem
def Ui:=@List.getElem?_range
def Uj:=@List.mem_range
def Uk:=@PySem.Calls.Name_function_global
def Ul:=@List.mem_filterMap
def Um:=@Int.fdiv_eq_ediv_of_nonneg
def Uo:=@PySem.Heap.size_push
def Up:=@if_false
def Uq:=@List.zip_cons_cons
def Ur:=@List.Perm.refl
def Us:=@PySem.wpAny_truthy_bool
def Ut:=@PySem.Calls.spliced_nil
def Uu:=@PySem.wpAny_newObj_type
def Uv:=@List.ext_getElem?
def Uw:=@PySem.wpAny_loadPart_at
def Ux:=@Int.emod_eq_of_lt
def Uy:=@PySem.wpAny_standAt
def UA:=@PySem.plainId_quiet
def UB:=@List.set_eq_of_length_le
def UC:=@List.length_filterMap_le
def UD:=@PySem.F.args_dict_get_2
def UE:=@PySem.F.args_dict_get_3
def UF:=@List.cons_append
def UG:=@Option.bind_eq_some_iff
def UH:=@PySem.W.cellsFrom_some
def UI:=@PySem.call_meetsIn
def UK:=@PySem.call_meets
def UL:=@Array.getElem?_eq_none
def UM:=@List.take_of_length_le
def UN:=@PySem.codeAny_builtin
def UO:=@PySem.wpAny_updateSeq
def UP:=@PySem.wpAny_dictEpoch
def UR:=@PySem.F.type_dict_get
def UT:=@Bool.beq_eq_decide_eq
def UU:=@List.length_filter_le
def UV:=@List.Perm.append_left
def UW:=@Nat.le_of_ble_eq_true
def UX:=@congrFun
def U5:=@PySem.wpAny_letGo
def U6:=@List.take_zero
def U8:=@if_true
def Ve:=@Prod.mk.injEq
def Vf:=@List.any_cons
def Vg:=@List.all_cons
def Vx:=@List.all_map
namespace HD
open PySem PySem.W PyProof.Rows
def top(p:Program)(i:Nat):Stmt:=p.main.body.getD i (.Pass ⟨0,0,0,0⟩)
def iC(s:Stmt)(j:Nat):Stmt:=match s with
 |.ClassDef _ _ _ body _ _ _ _ _ _ _=>body.getD j (.Pass ⟨0,0,0,0⟩)
 |_=> .Pass ⟨0,0,0,0⟩
def dA(s:Stmt):Arguments:=match s with
 |.FunctionDef _ a _ _ _ _ _ _ _ _=>a
 |_=>{posonlyargs:=[],args:=[],vararg:=none,kwonlyargs:=[],kw_defaults:=[],kwarg:=none,defaults:=[]}
def dB(s:Stmt):List Stmt:=match s with
 |.FunctionDef _ _ b _ _ _ _ _ _ _=>b
 |_=>[]
def dS(s:Stmt):Scope:=match s with
 |.FunctionDef _ _ _ _ _ _ sc _ _ _=>sc
 |_=>{kind:=.function,names:=[],isGenerator:=false,isCoroutine:=false}
def GV(b:List Addr)(h:Heap):Frag:=b.filterMap λa=>(h.get? a).map λo=>(a,o)
theorem GU(c:List Addr)(h:Heap):(GV c h).In h:=by
 intro a o e
 induction c with
 |nil=>cases e
 |cons b c d=>
   unfold GV at e;rw[List.filterMap_cons]at e;cases q:h.get? b with
   |none=>
     rw[q]at e;exact d e
   |some x=>
     rw[q]at e;replace e:List.lookup a ((b,x)::GV c h)=some o:=e;rw[Sx]at e;by_cases z:a=b
     ·subst z;rw[SW a]at e;cases e;exact q
     ·rw[Sr.mpr z]at e;exact d e
abbrev RB:=Str×Str×Arguments×FuncBody×Scope×Addr×List (Str×Addr)×Value×Addr×Bool
def fnO(K:Frag)(f:Addr)(q:Str):Option RB:=match K.lookup f with
 |some ⟨_,_,.func fd,_⟩=>some (fd.name,fd.qualname,fd.params,fd.body,fd.scope,fd.globals,fd.closure,fd.defaults,fd.builtins,codeIn K fd.code q)
 |_=>none
def fnE(x q:Str)(st:Stmt):Option RB:=some (x,q,dA st,.stmts (dB st),dS st,mainGlobals,[],.none,builtinsNs,true)
theorem fn_of{K:Frag}{f:Addr}{x q:Str}{st:Stmt}(h:fnO K f q=fnE x q st):∃(oc:Value) (c:Option Addr) (kV d pm:Value) (an:Option Addr) (b ct:Value) (a:Array (Option Value)),
 K.lookup f=some ⟨oc,c,.func (fnOf x q (dA st) (dB st) (dS st) .none kV d pm an b ct),a⟩/\codeIn K b q=true:=by
 unfold fnO at h;split at h
 · next oc c fd a e=>
   obtain⟨n,l,m,bd,sc,o,r,p,g,j,pm,an,k,ct,s⟩:=fd;unfold fnE at h;simp only[Option.some.injEq,Prod.mk.injEq]at h;obtain⟨rfl,rfl,rfl,rfl,rfl,rfl,rfl,rfl,rfl,i⟩:=h;exact⟨oc,c,g,j,pm,an,k,ct,a,e,i⟩
 ·exact nomatch h
theorem fn_keep{K:Frag}{f:Addr}{x q:Str}{st:Stmt}(h:fnO K f q=fnE x q st):keepIn K (.ref f)=true:=by
 obtain⟨oc,d,kV,b,pm,an,c,ct,a,e,_⟩:=fn_of h;show(match K.lookup f with|some ⟨_,_,.func _,_⟩=>true|some ⟨_,_,.cls _,_⟩=>specialIn K (.ref f) "__call__" == some (some (.builtin "type.__call__"))|_=>false)=true;rw[e]
def iZ(K:Frag)(C:Addr):List Value:=match K.lookup C with
 |some ⟨_,_,.cls a,_⟩=>a.mro
 |_=>[]
def jZ(K:Frag)(C:Addr):Bool:=excIn K C [.type "ValueError",.type "Exception",.type "BaseException",.type "object"] "ValueError.__new__"
def excAt(K:Frag)(D:Addr):Bool:=findIn K (.ref D) "__getattribute__" == some (some (.builtin "BaseException.__getattribute__"))&&(findIn K (.ref D) "__getattr__" == some none&&(findIn K (.ref D) "__class__" == some (some (.builtin "object.__class__")) &&
 (specialIn K (.builtin "object.__class__") "__get__" == some (some (.builtin "getset_descriptor.__get__"))&&(takesIn K (.builtin "object.__class__")==some true&&(mroIn K D (.type "object")==some true&&(mroIn K D (.type "BaseException")==some true&&(clsIn K D).isSome))))))
abbrev Ob:=List (Option (Option Value))×List (Option (Option Value))×List Bool×List (Option RB)×List (Bool×List Value)×List (Option Bool)
def cls(K:Frag)(C:Addr):Bool:=plainGet K C Str.empty&&(hasDictIn K C&&(plainOver K C&&(makesIn K C&&keepIn K (.ref C))))
def obK(ns:List Str)(ms:List (Addr×Str))(fs a:List Addr)(ds:List (Addr×Str))(es:List Addr)(ks:List (Addr×Value))(K:Frag):Ob:=
 (ns.map (nsIn K mainGlobals),ms.map (λp=>findIn K (.ref p.1) p.2),(fs.map λf=>isFn K (.ref f))++a.map (cls K),ds.map (λp=>fnO K p.1 p.2),es.map (λC=>(jZ K C&&excAt K C,iZ K C)),ks.map λp=>kitOne K (.ref p.1) p.2)
def ob(n:List Addr)(ns:List Str)(ms:List (Addr×Str))(fs a:List Addr)(ds:List (Addr×Str))(es:List Addr)(ks:List (Addr×Value))(s:Shared):Ob:=obK ns ms fs a ds es ks (GV n s.heap)
theorem two{W X O:Type}{o:Option W}{f:W->X}{g:W->O}{a:X}{b:O}(c:o.map f=some a)(d:o.map g=some b):o.map (λs=>(f s,g s))=some (a,b):=by
 cases o with
 |none=>cases c
 |some s=>cases c;cases d;rfl
theorem nth{W:Type}{l m:List W}(h:l=m)(i:Nat){a b:W}(d:l[i]?=some a)(c:m[i]?=some b):a=b:=by
 subst h;rw[d]at c;exact R9 c
theorem cls_of{K:Frag}{C:Addr}(h:cls K C=true):plainGet K C Str.empty=true/\hasDictIn K C=true/\plainOver K C=true/\makesIn K C=true/\keepIn K (.ref C)=true:=by
 unfold cls at h;simpa only[Bool.and_eq_true] using h
theorem walkX{q:Program}{loose:List Str}{XP:(Str->Option Value)->Heap->Prop}{n:List Addr}{ns:List Str}{ms:List (Addr×Str)}{fs g:List Addr}{ds:List (Addr×Str)}{es:List Addr}{ks:List (Addr×Value)}{E:Ob}{r:RowW}{d:DefRec}{c:List (Str×Expr)}{run:Value->List Value->Sem Value}
 (W:∀K:Frag,obK ns ms fs g ds es ks K=E->WalkO q loose XP (λ_ h=>K.In h) r d c run):WalkX q loose XP (ob n ns ms fs g ds es ks) (λ_=>E) r d c run:=
 λw s0 i mg j G y a o pm v e u kV t s p m l k args b f L C B A z x=>W _ y w s0 i mg j G ((GU _ _).keeps L.keeps) a o pm v e u kV t s p m l k args b f C B A z x
end HD
namespace HS
open PySem PySem.W PyProof.Rows
noncomputable def s0(w:World)(os:OsState):Shared:=⟨boot_heap w.params,Array.mk [],boot_drawn,boot_toks,os⟩
def mid(x:Shared):Option (Shared×Thread)->Shared
 |some (s,_)=>s
 |none=>x
def lz(x:SharedT):Option (Flow×SharedT×Code×Pos)->SharedT
 |some (_,s,_)=>s
 |none=>x
noncomputable def look{W:Type}(p:Program)(w:World)(f:Shared->W)(o:Option Shared):Option W:=o.bind λa=>match staticsOk (importedModules p.main.body) (boot_heap w.params) a.heap&&namesBound p a.heap&&gensDone a&&laidKept (boot_heap w.params) a.heap with
 |true=>some (f a)
 |false=>none
section
variable{p:Program}{w:World}{os:OsState}{m0:Nat}{ann:Option Value}{env:PySem.Env}{q posA posB pos1 pos2:Pos}{b l1 l2:List Stmt}{sA:Shared}{sB s1 s2:SharedT}{k0 kb k1 k2:Nat}
theorem first(pre:topGo treeTable p w m0 ann k0 (s0 w os) (topStub p)=some (sA,⟨denote treeTable (.body b env),.body b env,posA,[topFrame q]⟩))
 (Jw:segRun treeTable p w m0 ann 1 kb sA (blockOf b env (.body b env) posA [topFrame q])=some (.next,sB.abs,.body b env,posB)) {N:Nat} {r:Shared} (h:topRun treeTable p w m0 ann N sB.abs (restOf b env (.body b env) posB [topFrame q])=some r):
 topRun treeTable p w m0 ann (k0+(kb+N)) (s0 w os) (topStub p)=some r:=go_top pre (piece_block Jw h)
theorem Oq{c:Code}(g:segRunT treeTable p w m0 ann 1 k1 s1 (piecesOf l1 env c pos1 [topFrame q])=some (.next,s2,c,pos2)){N:Nat}{r:Shared}(h:topRun treeTable p w m0 ann N s2.abs (restOf l2 env c pos2 [topFrame q])=some r):
 topRun treeTable p w m0 ann (k1+N) s1.abs (restOf (l1++l2) env c pos1 [topFrame q])=some r:=piece_app (segRun_of g) h
end
theorem ends{p:Program}{N M i:Nat}{g:Option Value}{W:Type}{f:Shared->W}{good:World->W}
 (b:∀w:World,(fencedOpening treeTable p w N).map (λs=>(s.heap,s.gens,s.drawn,s.toks))=some (boot_heap w.params,Array.mk [],boot_drawn,boot_toks))
 (size:∀w:World,((boot_heap w.params).isNs mainGlobals && (Array.mk []:Array GenState).size == 0,(boot_heap w.params).objs.size,(boot_heap w.params).nsMap mainGlobals "__annotations__")=(true,i,g))
 (run:∀(w:World) (os:OsState),∃a,topRun treeTable p w i g M (s0 w os) (topStub p)=some a/\look p w f (some a)=some (good w)) (q:M<=N):∀w:World,(openEnds treeTable p w N).map f=some (good w):=λw=>by
 obtain⟨⟨h,n,d,k,os⟩,e,o⟩:=Sd.mp (b w);obtain⟨rfl,rfl,rfl,rfl⟩:h=boot_heap w.params/\n=Array.mk []/\d=boot_drawn/\k=boot_toks:=by simpa using o
 obtain⟨m,l,j⟩:_/\_/\_:=by simpa only[Ve] using size w
 obtain⟨a,r,lk⟩:=run w os;have r:=topRun_mono (N-M) _ _ _ _ r;rw[show M+(N-M)=N by omega]at r;unfold openEnds;rw[e];show(topFrom treeTable p w N _).map f=_;unfold topFrom;dsimp only;rw[m,l,j];show((topRun treeTable p w i g N (s0 w os) (topStub p)).bind _).map f=_;rw[r];unfold look at lk;dsimp only[Option.bind]at lk ⊢;cases c:staticsOk (importedModules p.main.body) (boot_heap w.params) a.heap&&namesBound p a.heap&&gensDone a&&laidKept (boot_heap w.params) a.heap with
 |true=>rw[c]at lk;exact lk
 |false=>rw[c]at lk;cases lk
theorem run{W X:Type}{p:Program}{d k0 s o m M:Nat}{a:Option Value}{env:PySem.Env}{q j i h c:Pos}{b bX:List Stmt}{FI:World->OsState->Shared}{HG FH fz:World->OsState->SharedT}{f:Shared->W}{g:Shared->X}{good:World->W}{k:World->X}
 (pre:∀w:World,(λos=>topGo treeTable p w d a k0 (s0 w os) (topStub p))=λos=>some (FI w os,⟨denote treeTable (.body b env),.body b env,j,[topFrame q]⟩))
 (Jw:∀w:World,(λos=>segRun treeTable p w d a 1 s (FI w os) (blockOf b env (.body b env) j [topFrame q]))=λos=>some (.next,(HG w os).abs,.body b env,i))
 (ch:∀(w:World) (os:OsState) (r:Shared),topRun treeTable p w d a (o+m) (FH w os).abs (restOf bX env (.body b env) h [topFrame q])=some r->topRun treeTable p w d a M (HG w os).abs (restOf b env (.body b env) i [topFrame q])=some r)
 (v:∀w:World,(λos=>(segRunT treeTable p w d a 1 o (FH w os) (piecesOf bX env (.body b env) h [topFrame q]),look p w f (topRun treeTable p w d a m (fz w os).abs ⟨doneF .next,.body b env,c,[topFrame q]⟩),look p w g (topRun treeTable p w d a m (fz w os).abs ⟨doneF .next,.body b env,c,[topFrame q]⟩)))=λos=>(some (.next,fz w os,.body b env,c),some (good w),some (k w))) (w:World) (os:OsState):
 ∃l,topRun treeTable p w d a (k0+(s+M)) (s0 w os) (topStub p)=some l/\look p w f (some l)=some (good w)/\look p w g (some l)=some (k w):=by
 obtain⟨u,n,t⟩:_/\_/\_:=by simpa only[Ve] using UX (v w) os
 cases e:topRun treeTable p w d a m (fz w os).abs ⟨doneF .next,.body b env,c,[topFrame q]⟩ with
 |none=>rw[e]at n;cases n
 |some l=>
   rw[e]at n t;refine⟨l,first (UX (pre w) os) (UX (Jw w) os) (ch w os l ?_),n,t⟩
   have:=Oq (l2:=[]) u (piece_nil e)
   rw[Sk]at this;exact this
theorem run1{W:Type}{p:Program}{i k0 n m l M:Nat}{a:Option Value}{env:PySem.Env}{q h g d c:Pos}{b bX:List Stmt}{FI:World->OsState->Shared}{HG FH fz:World->OsState->SharedT}{f:Shared->W}{good:World->W}
 (pre:∀w:World,(λos=>topGo treeTable p w i a k0 (s0 w os) (topStub p))=λos=>some (FI w os,⟨denote treeTable (.body b env),.body b env,h,[topFrame q]⟩))
 (Jw:∀w:World,(λos=>segRun treeTable p w i a 1 n (FI w os) (blockOf b env (.body b env) h [topFrame q]))=λos=>some (.next,(HG w os).abs,.body b env,g))
 (ch:∀(w:World) (os:OsState) (r:Shared),topRun treeTable p w i a (m+l) (FH w os).abs (restOf bX env (.body b env) d [topFrame q])=some r->topRun treeTable p w i a M (HG w os).abs (restOf b env (.body b env) g [topFrame q])=some r)
 (s:∀w:World,(λos=>(segRunT treeTable p w i a 1 m (FH w os) (piecesOf bX env (.body b env) d [topFrame q]),look p w f (topRun treeTable p w i a l (fz w os).abs ⟨doneF .next,.body b env,c,[topFrame q]⟩)))=λos=>(some (.next,fz w os,.body b env,c),some (good w))) (w:World) (os:OsState):
 ∃j,topRun treeTable p w i a (k0+(n+M)) (s0 w os) (topStub p)=some j/\look p w f (some j)=some (good w):=by
 obtain⟨o,k⟩:_/\_:=by simpa only[Ve] using UX (s w) os
 cases e:topRun treeTable p w i a l (fz w os).abs ⟨doneF .next,.body b env,c,[topFrame q]⟩ with
 |none=>rw[e]at k;cases k
 |some j=>
   rw[e]at k;refine⟨j,first (UX (pre w) os) (UX (Jw w) os) (ch w os j ?_),k⟩
   have:=Oq (l2:=[]) o (piece_nil e)
   rw[Sk]at this;exact this
end HS
set_option maxHeartbeats 4000000
namespace K23
open PySem PySem.W PyProof.Rows
theorem hd0(h:PySem.Challenge.rw_heraldways_k23_what_is_no_house_or_road.row.wellSaid=true->PySem.Challenge.rw_heraldways_k23_what_is_no_house_or_road.row.Holds):PySem.Challenge.rw_heraldways_k23_what_is_no_house_or_road.Holds:=by
 w_on;o_law;exact h (by assumption)
abbrev qP(p:Program):Program:=view p [0,2,3,4,5,7,8,9,10,12,13,15,16,17,18,19,20,21,22,23,24,25,26,27]
def Rq:List Addr:=List.range 446
def OK:List Str := "Guild"::"Post"::"_law_cell_at"::"_law_fond_by"::"_law_road_by"::"_law_row_by"::"_law_shy_by"::"_law_ways_by"::"copied"::"require_within"::"_law_dear_by"::"_law_seen"::"_law_first"::"_law_guild_by"::"_law_second"::"_law_marks"::"law"::"SEAT"::"MOST_HOUSES"::"len"::"range"::"min"::"max"::"set"::"list"::"tuple"::"isinstance"::"sorted"::"ValueError"::"GuildError"::"NoHouse"::"WayThere"::"NoRoad" :: []
def ON:List (Addr×Str):=(216,"__init__")::(216,"houses_paired")::(216,"size")::(216,"wishes")::(354,"write_road")::(216,"require_houses")::(216,"has_way")::(216,"like")::(216,"liking")::(216,"neighbours")::(216,"require_long_road")::(216,"require_two_houses")::(216,"shunned")::(216,"twin")::(354,"road")::(354,"told")::(216,"lay_way")::(216,"rank_of")::(216,"shun")::(216,"wish")::(354,"neighbours_now")::(354,"write_to_all")::(354,"__init__")::(216,"__setattr__")::(354,"__setattr__")::(216,"house_count")::(216,"ways")::(216,"likings")::(216,"shuns")::(216,"wish_ranks")::(354,"guild")::(354,"roads")::(354,"told_last")::(354,"written_last")::(354,"letters")::(354,"standings")::[]
def Pz:List Addr:=[91,178,98,166,323,199,112,133,140,105,213,206,154,185,246,260,119,173,147,161,274,330,239]
def Qp:List Addr:=[216,354]
def PP:List (Addr×Str):=(91,"Guild.__init__")::(178,"Guild.houses_paired")::(98,"Guild.size")::(166,"Guild.wishes")::(323,"Post.write_road")::(365,"_law_cell_at")::(384,"_law_fond_by")::(370,"_law_road_by")::(426,"_law_row_by")::(398,"_law_shy_by")::(377,"_law_ways_by")::(227,"copied")::(77,"require_within")::(199,"Guild.require_houses")::(391,"_law_dear_by")::(112,"Guild.has_way")::(133,"Guild.like")::(140,"Guild.liking")::(105,"Guild.neighbours")::(213,"Guild.require_long_road")::(206,"Guild.require_two_houses")::(154,"Guild.shunned")::(185,"Guild.twin")::(246,"Post.road")::(260,"Post.told")::(119,"Guild.lay_way")::(173,"Guild.rank_of")::(147,"Guild.shun")::(161,"Guild.wish")::(274,"Post.neighbours_now")::(330,"Post.write_to_all")::(438,"_law_seen")::(239,"Post.__init__")::(412,"_law_first")::(405,"_law_guild_by")::(419,"_law_second")::(433,"_law_marks")::(445,"law")::[]
def PH:List Addr:=[31,44,56,68]
def Pp:List (Addr×Value):=(31,.ref 44)::(31,.ref 68)::(31,.type "ValueError")::(44,.ref 44)::(44,.ref 68)::(44,.type "ValueError")::(56,.ref 44)::(56,.ref 68)::(56,.type "ValueError")::(68,.ref 44)::(68,.ref 68)::(68,.type "ValueError")::[]
abbrev rf(n:Nat):Option (Option Value):=some (some (.ref n))
def NA(p:Program):HD.Ob:=(rf 216::rf 354::rf 365::rf 384::rf 370::rf 426::rf 398::rf 377::rf 227::rf 77::rf 391::rf 438::rf 412::rf 405::rf 419::rf 433::rf 445::some (some (.int 0 264))::some (some (.int 60 266))::some none::some none::some none::some none::some none::some none::some none::some none::some none::some none::rf 31::rf 44::rf 56::rf 68::[],rf 91::rf 178::rf 98::rf 166::rf 323::rf 199::rf 112::rf 133::rf 140::rf 105::rf 213::rf 206::rf 154::rf 185::rf 246::rf 260::rf 119::rf 173::rf 147::rf 161::rf 274::rf 330::rf 239::some (some (.builtin "object.__setattr__"))::some (some (.builtin "object.__setattr__"))::some none::some none::some none::some none::some none::some none::some none::some none::some none::some none::some none::[],true::true::true::true::true::true::true::true::true::true::true::true::true::true::true::true::true::true::true::true::true::true::true::true::true::[],HD.fnE "__init__" "Guild.__init__" (HD.iC (HD.top p 10) 0)::HD.fnE "houses_paired" "Guild.houses_paired" (HD.iC (HD.top p 10) 13)::HD.fnE "size" "Guild.size" (HD.iC (HD.top p 10) 1)::HD.fnE "wishes" "Guild.wishes" (HD.iC (HD.top p 10) 11)::HD.fnE "write_road" "Post.write_road" (HD.iC (HD.top p 13) 12)::HD.fnE "_law_cell_at" "_law_cell_at" (HD.top p 15)::HD.fnE "_law_fond_by" "_law_fond_by" (HD.top p 18)::HD.fnE "_law_road_by" "_law_road_by" (HD.top p 16)::HD.fnE "_law_row_by" "_law_row_by" (HD.top p 24)::HD.fnE "_law_shy_by" "_law_shy_by" (HD.top p 20)::HD.fnE "_law_ways_by" "_law_ways_by" (HD.top p 17)::HD.fnE "copied" "copied" (HD.top p 12)::HD.fnE "require_within" "require_within" (HD.top p 9)::HD.fnE "require_houses" "Guild.require_houses" (HD.iC (HD.top p 10) 16)::HD.fnE "_law_dear_by" "_law_dear_by" (HD.top p 19)::HD.fnE "has_way" "Guild.has_way" (HD.iC (HD.top p 10) 3)::HD.fnE "like" "Guild.like" (HD.iC (HD.top p 10) 6)::HD.fnE "liking" "Guild.liking" (HD.iC (HD.top p 10) 7)::HD.fnE "neighbours" "Guild.neighbours" (HD.iC (HD.top p 10) 2)::HD.fnE "require_long_road" "Guild.require_long_road" (HD.iC (HD.top p 10) 18)::HD.fnE "require_two_houses" "Guild.require_two_houses" (HD.iC (HD.top p 10) 17)::HD.fnE "shunned" "Guild.shunned" (HD.iC (HD.top p 10) 9)::HD.fnE "twin" "Guild.twin" (HD.iC (HD.top p 10) 14)::HD.fnE "road" "Post.road" (HD.iC (HD.top p 13) 1)::HD.fnE "told" "Post.told" (HD.iC (HD.top p 13) 3)::HD.fnE "lay_way" "Guild.lay_way" (HD.iC (HD.top p 10) 4)::HD.fnE "rank_of" "Guild.rank_of" (HD.iC (HD.top p 10) 12)::HD.fnE "shun" "Guild.shun" (HD.iC (HD.top p 10) 8)::HD.fnE "wish" "Guild.wish" (HD.iC (HD.top p 10) 10)::HD.fnE "neighbours_now" "Post.neighbours_now" (HD.iC (HD.top p 13) 5)::HD.fnE "write_to_all" "Post.write_to_all" (HD.iC (HD.top p 13) 13)::HD.fnE "_law_seen" "_law_seen" (HD.top p 26)::HD.fnE "__init__" "Post.__init__" (HD.iC (HD.top p 13) 0)::HD.fnE "_law_first" "_law_first" (HD.top p 22)::HD.fnE "_law_guild_by" "_law_guild_by" (HD.top p 21)::HD.fnE "_law_second" "_law_second" (HD.top p 23)::HD.fnE "_law_marks" "_law_marks" (HD.top p 25)::HD.fnE "law" "law" (HD.top p 27)::[],(true,[.ref 31,.type "ValueError",.type "Exception",.type "BaseException",.type "object"])::(true,[.ref 44,.ref 31,.type "ValueError",.type "Exception",.type "BaseException",.type "object"])::(true,[.ref 56,.ref 31,.type "ValueError",.type "Exception",.type "BaseException",.type "object"])::(true,[.ref 68,.ref 31,.type "ValueError",.type "Exception",.type "BaseException",.type "object"])::[],some false::some false::some true::some true::some false::some true::some false::some false::some true::some false::some true::some true::[])
open_shared sh for PySem.Challenge.pw_heraldways_k23_what_is_no_house_or_road leaving 20
noncomputable section
noncomputable abbrev pg:Program:=PySem.Challenge.pw_heraldways_k23_what_is_no_house_or_road
noncomputable abbrev bd:List Stmt:=behindTheImports pg
noncomputable abbrev cE:Code:=.body bd sh.env_1
noncomputable abbrev BB:List Frame:=[topFrame ⟨0,0,0,0⟩]
abbrev nK:Nat:=2065+2
noncomputable def FI(w:World)(os:OsState):Shared:=HS.mid (HS.s0 w os) (topGo treeTable pg w 11 (some (.ref 6)) 12 (HS.s0 w os) (topStub pg))
noncomputable abbrev HG(w:World)(os:OsState):SharedT:=({tree:=sh.tree_4 w.params,n:=15,life:={},gens:={toList:=[]},drawn:={},toks:=187,os:=os}:SharedT)
noncomputable abbrev FH(w:World)(os:OsState):SharedT:=({tree:=sh.tree_74 w.params,n:=71,life:={},gens:={toList:=[]},drawn:={},toks:=266,os:=os}:SharedT)
theorem pre(w:World):(λos=>topGo treeTable pg w 11 (some (.ref 6)) 12 (HS.s0 w os) (topStub pg))=λos=>some (FI w os,⟨denote treeTable cE,cE,⟨0,0,0,0⟩,BB⟩):=by
 unfold FI cE bd pg;rw[Fast.te14364793385576792824,Fast.te14394753056323164579]
 kernel_rfl
theorem Jw(w:World):(λos=>segRun treeTable pg w 11 (some (.ref 6)) 1 1 (FI w os) (blockOf bd sh.env_1 cE ⟨0,0,0,0⟩ BB))=λos=>some (.next,(HG w os).abs,cE,⟨0,0,0,0⟩):=by
 unfold FI cE bd pg;rw[Fast.te14364793385576792824,Fast.te14394753056323164579]
 kernel_rfl
theorem bdE:sh.sts_4++(sh.sts_28++(sh.sts_44++(sh.sts_60++bd.drop 8)))=bd:=by
 unfold bd pg;rw[Fast.te14394753056323164579]
 kernel_rfl
theorem chn(w:World)(os:OsState)(r:Shared)(h:topRun treeTable pg w 11 (some (.ref 6)) nK (FH w os).abs (restOf (bd.drop 8) sh.env_1 cE ⟨14,0,14,4⟩ BB)=some r):topRun treeTable pg w 11 (some (.ref 6)) (Nat.add 225 (Nat.add 214 (Nat.add 214 (Nat.add 232 nK)))) (HG w os).abs (restOf bd sh.env_1 cE ⟨0,0,0,0⟩ BB)=some r:=by
 have h:=sh.chain pg bd w os (bd.drop 8) nK r h;rw[bdE]at h;exact h
noncomputable def fz(w:World)(os:OsState):SharedT:=HS.lz (FH w os) (segRunT treeTable pg w 11 (some (.ref 6)) 1 2065 (FH w os) (piecesOf (bd.drop 8) sh.env_1 cE ⟨14,0,14,4⟩ BB))
noncomputable abbrev gQ{W:Type}(f:Shared->W)(g:W):Prop:=∀w:World,(λos=>(segRunT treeTable pg w 11 (some (.ref 6)) 1 2065 (FH w os) (piecesOf (bd.drop 8) sh.env_1 cE ⟨14,0,14,4⟩ BB),HS.look pg w f (topRun treeTable pg w 11 (some (.ref 6)) 2 (fz w os).abs ⟨doneF .next,cE,⟨308,0,333,41⟩,BB⟩)))=λos=>(some (.next,fz w os,cE,⟨308,0,333,41⟩),some g)
theorem gZ1:gQ (openSeen (qP pg) [] (importedModules pg.main.body) (λs=>xlAt (qP pg) [] s&&recOk (RowW.records PySem.Challenge.rw_heraldways_k23_what_is_no_house_or_road.row.toRowW) s) true) (openGood (qP pg) []):=by
 intro w;unfold fz cE bd pg;rw[Fast.te10110043849684766642,Fast.te14082659384304107361,Fast.te14364793385576792824,Fast.te4187177175401517315,Fast.te5923862056798008813,Fast.te14394753056323164579]
 kernel_rfl
theorem gZ2:gQ (HD.ob Rq OK ON Pz Qp PP PH Pp) (NA pg):=by
 intro w;unfold fz cE bd pg;rw[Fast.te10110043849684766642,Fast.te14082659384304107361,Fast.te14364793385576792824]
 kernel_rfl
theorem opn(w:World):(fencedOpening treeTable pg w 6016).map (λs=>(s.heap,s.gens,s.drawn,s.toks))=some (boot_heap w.params,Array.mk [],boot_drawn,boot_toks):=by
 unfold pg;rw[Fast.te14364793385576792824,Fast.te14394753056323164579]
 kernel_rfl
theorem siz(w:World):((boot_heap w.params).isNs mainGlobals && (Array.mk []:Array GenState).size == 0,(boot_heap w.params).objs.size,(boot_heap w.params).nsMap mainGlobals "__annotations__")=(true,11,(some (.ref 6))):=by
 kernel_rfl
theorem Pm(w:World):(openEnds treeTable PySem.Challenge.pw_heraldways_k23_what_is_no_house_or_road w 6016).map (openSeen (qP PySem.Challenge.pw_heraldways_k23_what_is_no_house_or_road) [] (importedModules PySem.Challenge.pw_heraldways_k23_what_is_no_house_or_road.main.body) (λs=>xlAt (qP PySem.Challenge.pw_heraldways_k23_what_is_no_house_or_road) [] s&&recOk (RowW.records PySem.Challenge.rw_heraldways_k23_what_is_no_house_or_road.row.toRowW) s) true)=some (openGood (qP PySem.Challenge.pw_heraldways_k23_what_is_no_house_or_road) []):=HS.ends (good:=λ_=>_) opn siz (HS.run1 pre Jw chn gZ1) (by decide +kernel) w
theorem Pl(w:World):(openEnds treeTable PySem.Challenge.pw_heraldways_k23_what_is_no_house_or_road w 6016).map (HD.ob Rq OK ON Pz Qp PP PH Pp)=some (NA PySem.Challenge.pw_heraldways_k23_what_is_no_house_or_road):=HS.ends (good:=λ_=>_) opn siz (HS.run1 pre Jw chn gZ2) (by decide +kernel) w
end
end K23
namespace L2
open PySem PySem.Spec PyProof.Rows
abbrev bJ:=Sum Int Str
def qM:bJ->Value->Bool
 |.inl k,v=>Value.isInt k v
 |.inr x,v=>Value.isStrOf x v
def Pq(w:World):bJ->Int
 |.inl k=>hashInt k
 |.inr x=>hashStr w x
theorem cq:∀{k:bJ} {v:Value},qM k v=true->(∃i t,k=Sum.inl i/\v=Value.int i t)\/(∃x t,k=Sum.inr x/\v=Value.str x t)
 | .inl i,v,h=>by
   obtain⟨t,e⟩:=Value.isInt_shape (k:=i) (v:=v) h;exact .inl ⟨i,t,rfl,e⟩
 | .inr x,v,h=>by
   obtain⟨t,e⟩:=Value.isStrOf_shape (x:=x) (v:=v) h;exact .inr ⟨x,t,rfl,e⟩
theorem An(i:Int)(t:Tok):qM (.inl i) (.int i t)=true:=by simp[qM,Value.isInt]
theorem Am(x:Str)(t:Tok):qM (.inr x) (.str x t)=true:=by simp[qM,Value.isStrOf]
theorem L6(a b:Int):decide ((Sum.inl a:bJ)=Sum.inl b)=(a==b):=by
 by_cases e:a=b
 ·subst e;simp
 ·have h:¬ (Sum.inl a:bJ)=Sum.inl b:=λq=>e (Sum.inl.inj q);rw[SC h];exact(Sr.mpr e).symm
theorem LY(a b:Str):decide ((Sum.inr a:bJ)=Sum.inr b)=decide (a=b):=by
 by_cases e:a=b
 ·subst e;simp
 ·have h:¬ (Sum.inr a:bJ)=Sum.inr b:=λq=>e (Sum.inr.inj q);rw[SC h,SC e]
theorem L5(a:Int)(b:Str):decide ((Sum.inl a:bJ)=Sum.inr b)=false:=SC (λq=>nomatch q)
theorem LZ(a:Str)(b:Int):decide ((Sum.inr a:bJ)=Sum.inl b)=false:=SC (λq=>nomatch q)
def bz(prog:Program)(w:World):PySem.KeyKind prog w bJ where
 is:=qM
 hash:=Pq w
 inj:=λv a b l f=>by
  rcases cq l with ⟨i,t,rfl,rfl⟩|⟨x,t,rfl,rfl⟩
  · rcases cq f with ⟨j,u,rfl,e⟩|⟨y,u,rfl,e⟩
    ·injection e with c _;rw[c]
    ·exact nomatch e
  · rcases cq f with ⟨j,u,rfl,e⟩|⟨y,u,rfl,e⟩
    ·exact nomatch e
    ·injection e with c _;rw[c]
 byValue:=λk v h=>by
  rcases cq h with ⟨i,t,rfl,rfl⟩|⟨x,t,rfl,rfl⟩<;>rfl
 pyHash:=λd h=>by
  rcases cq d with ⟨i,t,rfl,rfl⟩|⟨x,t,rfl,rfl⟩
  ·exact wpAny_pyHash_int h
  ·exact wpAny_pyHash_str h
 eqBool:=λg d h=>by
  rcases cq g with ⟨i,t,rfl,rfl⟩|⟨x,t,rfl,rfl⟩
  · rcases cq d with ⟨j,u,rfl,rfl⟩|⟨y,u,rfl,rfl⟩
    ·rw[L6]at h;exact wpAny_eqBool_int h
    ·rw[L5]at h;exact SeqAt.EqAt.int_str i t y u _ _ _ _ h
  · rcases cq d with ⟨j,u,rfl,rfl⟩|⟨y,u,rfl,rfl⟩
    ·rw[LZ]at h;exact SeqAt.EqAt.str_int x t j u _ _ _ _ h
    ·rw[LY]at h;exact wpAny_eqBool_str h
 «strs»:=λk x t v h=>by
  rcases cq h with ⟨i,u,rfl,e⟩|⟨y,u,rfl,e⟩
  ·exact nomatch e
  · injection e with c _
    subst c;cases v<;>rfl
theorem uz(prog:Program)(w:World)(i:Int)(t:Tok):(bz prog w).is (.inl i) (.int i t)=true:=An i t
theorem uy(prog:Program)(w:World)(x:Str)(t:Tok):(bz prog w).is (.inr x) (.str x t)=true:=Am x t
inductive V where
 |non|bl (b:Bool)|int (i:Int)|str (x:Str)|byt (b:Array UInt8)|flt (b:UInt64)|ref (a:Addr)|ty (n:String)
 deriving DecidableEq
def RelV:V->Value->Prop
 |.non,u=>u=Value.none
 |.bl b,u=>u=Value.bool b
 |.int i,u=>∃t,u=Value.int i t
 |.str x,u=>∃t,u=Value.str x t
 |.byt b,u=>∃t,u=Value.bytes b t
 |.flt b,u=>∃t,u=Value.float b t
 |.ref a,u=>u=Value.ref a
 |.ty n,u=>u=Value.type n
abbrev Vals:List V->List Value->Prop:=Paired RelV
theorem Vals.length{xs:List V}{us:List Value}(r:Vals xs us):xs.length=us.length:=TQ r
theorem Vals.get:∀{xs:List V} {us:List Value} {i:Nat} {x:V},Vals xs us->xs[i]?=some x->∃u,us[i]?=some u/\RelV x u
 |_,_,_,_,.nil,e=>by simp at e
 |_,_,0,_,.cons r _,e=>by simp at e;subst e;exact⟨_,rfl,r⟩
 | _,_,i+1,x,.cons _ t,e=>by
   obtain⟨u,b,a⟩:=Vals.get (i:=i) (x:=x) t (by simpa using e);exact⟨u,by simpa using b,a⟩
theorem Vals.set{x:V}{u:Value}(r:RelV x u):∀{xs:List V} {us:List Value} (i:Nat),Vals xs us->Vals (xs.set i x) (us.set i u)
 |_,_,_,.nil=>.nil
 |_,_,0,.cons _ t=>.cons r t
 |_,_,i+1,.cons q t=>.cons q (Vals.set r i t)
theorem Vals.append:∀{xs ys:List V} {us a:List Value},Vals xs us->Vals ys a->Vals (xs++ys) (us++a)
 |_,_,_,_,.nil,s=>s
 |_,_,_,_,.cons r t,s=>.cons r (Vals.append t s)
theorem Vals.take:∀{xs:List V} {us:List Value} (n:Nat),Vals xs us->Vals (xs.take n) (us.take n)
 |_,_,0,_=>.nil
 |_,_,_+1,.nil=>.nil
 |_,_,n+1,.cons r t=>.cons r (Vals.take n t)
theorem Vals.drop:∀{xs:List V} {us:List Value} (n:Nat),Vals xs us->Vals (xs.drop n) (us.drop n)
 |_,_,0,r=>r
 |_,_,_+1,.nil=>.nil
 |_,_,n+1,.cons _ t=>Vals.drop n t
def RelO:Option V->Option Value->Prop
 |some v,some u=>RelV v u
 |none,none=>True
 |_,_=>False
def KV{X:Type}:List (X×V)->List (X×Value)->Prop:=Paired λ(p:X×V) (q:X×Value)=>p.1=q.1/\RelV p.2 q.2
def kV:bJ->V
 |.inl i=>.int i
 |.inr x=>.str x
inductive HO where
 /-- a list -/
 |lst (xs:List V)
 /-- a tuple (never changes) -/
 |tup (xs:List V)
 /-- a dict whose keys are ints and texts;one whose keys are tuples of ints and texts (the empty one is both) -/
 |dK (kvs:List (bJ×V))|dT (kvs:List (List bJ×V))
 /-- a set of ints: its members,its size -/
 |set (S:Int->Bool) (n:Nat)
 /-- an instance of the class at C,its dict at dx,its attributes -/
 |ins (C dx:Addr) (fs:List (Str×V))
 /-- the dict of the instance at x -/
 |own (x:Addr)
 /-- the dict of an exception -/
 |xd (fs:List (Str×V))
 /-- a bound method,f of x -/
 |met (f x:Addr)
 /-- a range object lo,lo+1,.. below hi -/
 |rng (lo hi:Int)
 /-- a thing that is known to the object (the script;a dict while a loop walks it): read,never written while it is so -/
 |frz (o:Obj) (u:HO)
 /-- a code object's table: at each of these places nothing,or a code of that name -/
 |tbl (l:List (Pos×Str))
 /-- any other thing,by what is true of its one object (a def of one's own: SetO a S n:=HO.ext λh=> ..) -/
 |ext (φ:Heap->Prop)
abbrev Hp:=Addr->Option HO
def upd(H:Hp)(a:Addr)(o:HO):Hp:=λb=>if b=a then some o else H b
theorem aY{H:Hp}{a:Addr}{o:HO}:upd H a o a=some o:=by unfold upd;rw[if_pos rfl]
theorem aS{H:Hp}{a b:Addr}{o:HO}(h:b≠a):upd H a o b=H b:=by unfold upd;rw[if_neg h]
theorem OM{H:Hp}{a b:Addr}{o u:HO}(h:H a=some o)(h':H b=some u)(d:o≠u):a≠b:=by
 intro e;subst e;rw[h]at h';exact d (R9 h')
theorem bf{H:Hp}{a b:Addr}{o:HO}(h:H a=some o)(h':H b=none):a≠b:=by
 intro e;subst e;rw[h]at h';cases h'
section
variable(P:Program)(w:World)
def ObjOk(H:Hp)(h:Heap)(a:Addr):HO->Prop
 |.lst xs=>xs.length<=sizeLine/\∃(its:List Value) (n:Nat),Vals xs its/\h.get? a=some {cls:=.type "list",data:=.seq its.toArray n}
 |.tup xs=>xs.length<=sizeLine/\∃its:List Value,Vals xs its/\IsTup h a its.toArray
 |.dK b=>b.length<=sizeLine/\(a==sysModules)=false/\∃vs,KV b vs/\h.DictOf (bz P w) a vs
 | .dT b=>b.length<=sizeLine/\(a==sysModules)=false/\∃xs:List (List bJ×Addr×Value),
    Paired (λ(p:List bJ×V) (q:List bJ×Addr×Value)=>p.1=q.1/\H q.2.1=some (.tup (p.1.map kV))/\RelV p.2 q.2.2) b xs/\
    ∃o es ep,h.get? a=some o/\o.ExactDict/\o.data=.dict es ep/\es.toList=xs.map (entryOfKey (tupleKind (bz P w)))/\(xs.map (·.1)).Nodup
 |.set S n=>h.SetOf (intKind P w) a S n
 | .ins C dx fs=>H dx=some (.own a)/\fs.length<=1000/\dx≠a/\h.get? a=some (PySem.W.instObj C dx)/\
    ∃d,h.Ns1 dx d/\(∀f,RelO (fs.lookup f) (d f))/\PySem.Within d (fs.map (·.1))
 |.own _=>∃o,h.get? a=some o
 |.xd fs=>∃d,h.Ns1 a d/\∀f,RelO (fs.lookup f) (d f)
 |.rng lo hi=>∃t u v,h.get? a=some {cls:=.type "range",data:=.fields #[.int lo t,.int hi u,.int 1 v]}
 |.frz o u=>h.get? a=some o/\ObjOk H h a u
 |.tbl l=>(∀y∈l,∀z∈l,y.1.line=z.1.line->y.1.col=z.1.col->y.2=z.2)/\∃ps:Array Value,h.get? a=some {cls:=.none,data:=.fields ps}/\TriplesOk ps.toList/\∀x∈l,codeAmong x.1 ps.toList=none\/∃c,codeAmong x.1 ps.toList=some (.ref c)/\H c=some (.own a)/\h.CodeRec (.ref c) x.2
 |.met f x=>h.get? a=some (PySem.W.methodObj (.ref f) (.ref x))
 |.ext e=>e h/\(∃o,h.get? a=some o)/\∀i g:Heap,e i->(∀o,i.get? a=some o->g.get? a=some o)->e g
def HOk(H:Hp)(h:Heap):Prop:=∀a o,H a=some o->ObjOk P w H h a o
end
section
variable{P:Program}{w:World}{H H':Hp}{h h':Heap}{a:Addr}{o:HO}
theorem ObjOk.lt(x:ObjOk P w H h a o):a<h.objs.size:=by
 cases o with
 |lst xs=>obtain⟨_,_,_,_,e⟩:=x;exact RS e
 |tup xs=>obtain⟨_,_,_,p⟩:=x;exact p.lt
 |dK b=>obtain⟨_,_,_,_,o,_,_,e,_⟩:=x;exact RS e
 |dT b=>obtain⟨_,_,_,_,o,_,_,e,_⟩:=x;exact RS e
 |set S n=>obtain⟨o,_,_,_,e,_⟩:=x;exact RS e
 |ins C dx fs=>obtain⟨_,_,_,e,_⟩:=x;exact RS e
 |own y=>obtain⟨_,e⟩:=x;exact RS e
 |xd fs=>obtain⟨_,⟨_,_,_,e,_⟩,_⟩:=x;exact RS e
 |rng lo hi=>obtain⟨_,_,_,e⟩:=x;exact RS e
 |frz ob u=>obtain⟨e,_⟩:=x;exact RS e
 |tbl l=>obtain⟨_,_,e,_⟩:=x;exact RS e
 |met f y=>exact RS (show h.get? a=some _ from x)
 |ext c=>obtain⟨_,⟨_,e⟩,_⟩:=x;exact RS e
theorem Paired.mapP{W X:Type}{F G:W->X->Prop}:∀{l₁:List W} {c:List X},Paired F l₁ c->(∀a b,F a b->G a b)->Paired G l₁ c
 |_,_,.nil,_=>.nil
 |_,_,.cons r t,f=>.cons (f _ _ r) (Paired.mapP t f)
theorem ObjOk.stay(x:ObjOk P w H h a o)(k:∀b u,(b=a\/H b=some (.own a))->h.get? b=some u->h'.get? b=some u)
 (s:∀b,H b=some (.own a)->H' b=some (.own a)) (F:∀b xs,H b=some (.tup xs)->H' b=some (.tup xs)):ObjOk P w H' h' a o:=by
 induction o with
 |lst xs=>obtain⟨z,its,n,r,e⟩:=x;exact⟨z,its,n,r,k _ _ (.inl rfl) e⟩
 |tup xs=>obtain⟨z,its,r,ob,e,c⟩:=x;exact⟨z,its,r,ob,k _ _ (.inl rfl) e,c⟩
 |dK m=>obtain⟨z,y,vs,r,ob,es,ep,e,c⟩:=x;exact⟨z,y,vs,r,ob,es,ep,k _ _ (.inl rfl) e,c⟩
 |dT m=>
   obtain⟨z,y,xs,r,ob,es,ep,e,c⟩:=x;exact⟨z,y,xs,Paired.mapP r λp q z=>⟨z.1,F _ _ z.2.1,z.2.2⟩,ob,es,ep,k _ _ (.inl rfl) e,c⟩
 |set S n=>obtain⟨ob,es,ep,t,e,c⟩:=x;exact⟨ob,es,ep,t,k _ _ (.inl rfl) e,c⟩
 |ins C dx fs=>
   obtain⟨d,z,ne,e,j,⟨i,es,ep,I,c⟩,r⟩:=x;exact⟨s _ d,z,ne,k _ _ (.inl rfl) e,j,⟨i,es,ep,k _ _ (.inr d) I,c⟩,r⟩
 |own y=>obtain⟨ob,e⟩:=x;exact⟨ob,k _ _ (.inl rfl) e⟩
 |xd fs=>obtain⟨j,⟨i,es,ep,e,c⟩,r⟩:=x;exact⟨j,⟨i,es,ep,k _ _ (.inl rfl) e,c⟩,r⟩
 |rng lo hi=>obtain⟨t,u,v,e⟩:=x;exact⟨t,u,v,k _ _ (.inl rfl) e⟩
 |frz ob u D=>obtain⟨e,q⟩:=x;exact⟨k _ _ (.inl rfl) e,D q⟩
 |tbl l=>
   obtain⟨J,ps,e,t,q⟩:=x;refine⟨J,ps,k _ _ (.inl rfl) e,t,λy E=>?_⟩;rcases q y E with z|⟨c,z,A,⟨L,o,vs,B,G,g,r⟩⟩
   ·exact .inl z
   ·cases G;exact .inr ⟨c,z,s _ A,⟨c,o,vs,B,rfl,k _ _ (.inr A) g,r⟩⟩
 |met f y=>
   have e:h.get? a=some (PySem.W.methodObj (.ref f) (.ref y)):=x;show h'.get? a=some (PySem.W.methodObj (.ref f) (.ref y));exact k a _ (.inl rfl) e
 |ext K=>obtain⟨p,⟨o,e⟩,st⟩:=x;exact⟨st _ _ p λo q=>k _ _ (.inl rfl) q,⟨o,k _ _ (.inl rfl) e⟩,st⟩
theorem HOk.lt(x:HOk P w H h)(e:H a=some o):a<h.objs.size:=(x a o e).lt
theorem HOk.fresh(x:HOk P w H h)(e:h.objs.size<=a):H a=none:=by
 cases q:H a with
 |none=>rfl
 |some u=>exact absurd (RY (x.lt q) e) (S6 _)
theorem HOk.kept(x:HOk P w H h)(k:∀b u,h.get? b=some u->h'.get? b=some u):HOk P w H h':=λa o e=>
 (x a o e).stay (λb u _ q=>k b u q) (λ_ q=>q) λ_ _ q=>q
theorem HOk.laid(x:HOk P w H h)(k:∀b u,h.get? b=some u->h'.get? b=some u)(hp:h.objs.size<=a)(new:ObjOk P w (upd H a o) h' a o):HOk P w (upd H a o) h':=λb u e=>by
 have d:=x.fresh hp;by_cases f:b=a
 ·subst f;rw[aY]at e;cases e;exact new
 ·rw[aS f]at e;exact(x b u e).stay (λc v _ q=>k c v q) (λc q=>by rw[aS (bf q d)];exact q) λc xs q=>by rw[aS (bf q d)];exact q
end
def Rd(H:Hp)(a:Addr)(u:HO):Prop:=H a=some u\/∃o,H a=some (.frz o u)
theorem Rd.ok{P:Program}{w:World}{H:Hp}{h:Heap}{a:Addr}{u:HO}(r:Rd H a u)(x:HOk P w H h):ObjOk P w H h a u:=by
 rcases r with r|⟨o,r⟩
 ·exact x a u r
 ·obtain⟨_,q⟩:=x a _ r;exact q
def QH:Option HO->Prop
 |some (.lst _)=>True
 |some (.dK _)=>True
 |some (.dT _)=>True
 |some (.set _ _)=>True
 |some (.ins _ _ _)=>True
 |some (.ext _)=>True
 |_=>False
section
variable{P:Program}{w:World}{H:Hp}{h h':Heap}{x e:Addr}{o':HO}
theorem HOk.write(ok:HOk P w H h)(g:QH (H x))(n:e=x\/H e=some (.own x))(k:∀b u,b≠e->h.get? b=some u->h'.get? b=some u)(l:∃u,h'.get? e=some u)
 (new:ObjOk P w (upd H x o') h' x o'):HOk P w (upd H x o') h':=λb u q=>by
 have d:∀c y,H c=some (.own y)->c≠x:=λc y r z=>by subst z;rw[r]at g;exact g
 have f:∀c xs,H c=some (.tup xs)->c≠x:=λc xs r z=>by subst z;rw[r]at g;exact g
 by_cases j:b=x
 ·subst j;rw[aY]at q;cases q;exact new
 · rw[aS j]at q;by_cases a:b=e
   · have m:H b=some (.own x):=by
      rcases n with z|z
      ·exact absurd (a.trans z) j
      ·rw[a];exact z
     rw[q]at m;cases m;obtain⟨v,o⟩:=l;exact⟨v,by rw[a];exact o⟩
   · refine(ok b u q).stay (λc v i r=>k c v ?_ r) (λc r=>by rw[aS (d c b r)];exact r) λc xs r=>by rw[aS (f c xs r)];exact r
     rcases i with rfl|i
     ·exact a
     · rintro rfl;rcases n with z|z
       ·exact d c b i z
       ·rw[i]at z;cases z;exact j rfl
end
structure Un (fs ex:List Addr) (H H':Hp) (h h':Heap):Prop where
 keep:∀b o,h.get? b=some o->H b=none->b∉fs->b∉ex->h'.get? b=some o
 slot:∀b o,h.get? b=some o->H b=none->b∈fs->b∉ex->∃sl,h'.get? b=some {o with slots:=sl}
 free:∀b o,h.get? b=some o->H b=none->b∉ex->H' b=none
 there:∀b o,h.get? b=some o->b∉ex->∃o',h'.get? b=some o'
 tups:∀b xs,H b=some (.tup xs)->H' b=some (.tup xs)
 frzs:∀b o u,H b=some (.frz o u)->H' b=some (.frz o u)
 tbls:∀b l,H b=some (.tbl l)->H' b=some (.tbl l)/\∀c o,H c=some (.own b)->h.get? c=some o->H' c=some (.own b)/\h'.get? c=some o
section
variable{fs fs' ex ex':List Addr}{H L H2:Hp}{h h1 h2 h':Heap}{a x e:Addr}{o:HO}
theorem Un.any(u:Un fs ex H L h h1){b:Addr}{ob:Obj}(q:h.get? b=some ob)(n:H b=none)(a:b∉ex):∃d,h1.get? b=some {ob with slots:=d}:=by
 by_cases c:b∈fs
 ·exact u.slot b ob q n c a
 ·exact⟨ob.slots,u.keep b ob q n c a⟩
theorem Un.kept(k:∀b u,h.get? b=some u->h'.get? b=some u):Un fs ex H H h h':=
 ⟨λb ob q _ _ _=>k b ob q,λb ob q _ _ _=>⟨ob.slots,k b ob q⟩,λ_ _ _ n _=>n,λb ob q _=>⟨ob,k b ob q⟩,λ_ _ q=>q,λ_ _ _ q=>q,λ_ _ q=>⟨q,λc o d a=>⟨d,k c o a⟩⟩⟩
theorem Un.refl:Un fs ex H H h h:=Un.kept λ_ _ q=>q
theorem Un.laid(k:∀b u,h.get? b=some u->h'.get? b=some u)(hp:h.objs.size<=a)(d:H a=none):Un fs ex H (upd H a o) h h' where
 keep:=λb u q _ _ _=>k b u q
 slot:=λb u q _ _ _=>⟨u.slots,k b u q⟩
 free:=λb u q n _=>by rw[aS (Sc (RY (RS q) hp))];exact n
 there:=λb u q _=>⟨u,k b u q⟩
 tups:=λb xs q=>by rw[aS (bf q d)];exact q
 frzs:=λb u xs q=>by rw[aS (bf q d)];exact q
 tbls:=λb xs q=>⟨by rw[aS (bf q d)];exact q,λc o e f=>⟨by rw[aS (bf e d)];exact e,k c o f⟩⟩
theorem Un.write(a:QH (H x))(l:e=x\/H e=some (.own x))(k:∀b u,b≠e->h.get? b=some u->h'.get? b=some u)(i:∃u,h'.get? e=some u):Un fs ex H (upd H x o) h h':=by
 have j:∀b,H b=none->b≠x:=λb n z=>by subst z;rw[n]at a;exact a
 have m:∀b,H b=none->b≠e:=λb n z=>by
  subst z;rcases l with r|r
  ·exact j b n r
  ·rw[n]at r;cases r
 have d:∀b u,H b=some u->¬ QH (some u)->b≠x:=λb u q nm z=>by subst z;rw[q]at a;exact nm a
 refine⟨λb u q n _ _=>k b u (m b n) q,λb u q n _ _=>⟨u.slots,k b u (m b n) q⟩,λb u q n _=>by rw[aS (j b n)];exact n,λb u q _=>?_,
  λb xs q=>by rw[aS (d b _ q λz=>z)];exact q,λb u xs q=>by rw[aS (d b _ q λz=>z)];exact q,λb ps q=>⟨by rw[aS (d b _ q λz=>z)];exact q,λc o g p=>⟨by rw[aS (d c _ g λz=>z)];exact g,k c o (λz=>by
   rcases l with r|r
   ·exact d c _ g (λz=>z) (z.trans r)
   ·rw[<-z,g]at r;cases r;rw[q]at a;exact a) p⟩⟩⟩
 by_cases f:b=e
 ·subst f;exact i
 ·exact⟨u,k b u f q⟩
end
def QL(h:Heap)(H:Hp):List Addr:=(List.range h.objs.size).filter λa=>(H a).isSome
def oH(h:Heap)(H:Hp):Heap:=PySem.W.hideAll h (QL h H)
theorem At(h:Heap)(H:Hp):(oH h H).objs.size=h.objs.size:=PySem.W.hideAll_size _ _
theorem Ez{h:Heap}{H:Hp}{b:Addr}{o:Obj}(e:h.get? b=some o)(n:H b=none):(oH h H).get? b=some o:=
 Tg _ e λa=>by
  have q:(H b).isSome=true:=(Tq.mp a).2;rw[n]at q;simp at q
theorem Gv{h:Heap}{H:Hp}{b:Addr}{o:Obj}(e:(oH h H).get? b=some o):h.get? b=some o/\H b=none:=by
 have a:h.get? b=some o:=PySem.W.of_hideAll (QL h H) e;refine⟨a,?_⟩;cases q:H b with
 |none=>rfl
 |some x=>
   have c:b∈QL h H:=Tq.mpr ⟨Uj.mpr (RS a),by simp[q]⟩;have z:(oH h H).get? b=none:=PySem.W.hideAll_none (QL h H) c;rw[z]at e;cases e
def Hn(g h:Heap)(L:Addr):L0:=(List.range h.objs.size).filterMap λa=>if a=L\/(g.get? a).isSome=true then none else (h.get? a).map λo=>(a,o)
def bX(g h:Heap)(L d:Addr):L0:=(Hn g h L).filter λp=>decide (p.1≠d)
structure Mod (K:F0) (mg:Str->Option Value) (base:Heap):Prop where
 kin:K.In base
 glob:base.Ns mainGlobals mg
 blt:∃mb,base.Ns builtinsNs mb/\∀x:Str,x ≠ "__name__" -> mb x=bootBuiltins x
 nolimit:base.NoLimit
 bmod:∃bm o,mg "__builtins__" = some (.ref bm)/\bm≠builtinsNs/\base.get? bm=some o/\o.cls=.type "module" /\ o.dict=some builtinsNs/\o.data=.plain
structure Cx where
 prog:Program
 w:World
 K:F0
 mg:Str->Option Value
 base:Heap
 A:Around
 N:List Str
 s₀:Shared
 H₀:Hp
 env:Env
 outer:List Env
 stack:List Env
 ex:List Addr
 fn:Str->Bool
 calm:Bool
 pn:L0
 xe:Value->Shared->Prop
def jq(l:List Env):List Addr:=l.filterMap (·.frame)
abbrev Cx.fs(X:Cx):List Addr:=jq X.outer
def Rt(sc:Scope)(x:Str):Prop:=sc.names.lookup x=some .local\/sc.names.lookup x=some .cell\/sc.names.lookup x=some .free
def Nz(sc:Scope)(x:Str):Prop:=sc.names.lookup x=some .local\/sc.names.lookup x=some .cell
def Ry(env:Env)(h:Heap)(m:Str->Option Value)(x:Str)(u:Value):Prop:=
 (env.kindOf x=some .local/\m x=some u)\/((env.kindOf x=some .cell\/env.kindOf x=some .free)/\∃c,env.cells.lookup x=some c/\h.IsCell c (some u))
structure Cx.Ok (X:Cx):Prop where
 mod:Mod X.K X.mg X.base
 kind:X.env.scope.kind=.function
 glob:X.env.globals=mainGlobals
 blt:X.env.builtins=builtinsNs
 above:X.s₀.heap.objs.size<=X.env.locals
 inj:∀x y c,X.env.cells.lookup x=some c->X.env.cells.lookup y=some c->x=y
 has:∀x,(X.env.kindOf x=some .cell\/X.env.kindOf x=some .free)->∃c,X.env.cells.lookup x=some c
 cab:∀x c,X.fn x=true->X.env.cells.lookup x=some c->X.s₀.heap.objs.size<=c
 hd:X.calm=true->X.A.handled=none
 frames:X.A.frames=some X.stack
 stk:X.stack=X.outer\/(X.stack=X.env::X.outer/\X.env.frame=some X.env.locals)
 exf:∀b∈X.ex,b≠X.env.locals/\∀x c,X.env.cells.lookup x=some c->c≠b
 bs:∀b o,X.base.get? b=some o->X.s₀.heap.get? b=some o/\X.H₀ b=none
 bsz:X.base.objs.size<=X.s₀.heap.objs.size
 noex:∀b o,X.base.get? b=some o->b∉X.ex
 exfs:∀b∈X.ex,b∉X.fs
 funs:X.s₀.heap.FunFrames X.base X.outer
 frf:∀b∈X.fs,X.H₀ b=none
structure Inv (X:Cx) (pins:L0) (Z:List (Option V)) (H:Hp) (s:Shared):Prop where
 ok:X.Ok
 os:s.os=X.s₀.os
 bare:AllBare s.gens
 base:Un X.fs X.ex X.H₀ H X.s₀.heap s.heap
 loc:∃m,s.heap.Ns X.env.locals m/\∀(i:Nat) (x:Str) (v:V),X.N[i]?=some x->Z[i]?=some (some v)->Rt X.env.scope x->∃u,RelV v u/\Ry X.env s.heap m x u
 cell:∀x c,X.env.cells.lookup x=some c->∃v,s.heap.IsCell c v
 free:H X.env.locals=none
 freeC:∀x c,X.env.cells.lookup x=some c->H c=none
 pin:∀p∈X.pn++pins,s.heap.get? p.1=some p.2/\H p.1=none/\p.1≠X.env.locals/\p.1∉X.fs/\∀v,p.2.data≠ .cell v
 hok:HOk X.prog X.w H s.heap
 len:Z.length=X.N.length
section
variable{X:Cx}{pins:L0}{Z:List (Option V)}{H H':Hp}{s:Shared}{h':Heap}
theorem Cx.Ok.nofr(ok:X.Ok){b:Addr}{o:Obj}(e:X.base.get? b=some o):b∉X.fs:=λa=>by
 have:=(ok.funs.mem a).1
 rw[e]at this;cases this
theorem Inv.bs(I:Inv X pins Z H s):∀b o,X.base.get? b=some o->s.heap.get? b=some o/\H b=none:=λb o e=>
 ⟨I.base.keep b o (I.ok.bs b o e).1 (I.ok.bs b o e).2 (I.ok.nofr e) (I.ok.noex b o e),I.base.free b o (I.ok.bs b o e).1 (I.ok.bs b o e).2 (I.ok.noex b o e)⟩
theorem Inv.bk(I:Inv X pins Z H s):∀b o,X.base.get? b=some o->s.heap.get? b=some o:=λb o e=>(I.bs b o e).1
theorem Inv.mod(I:Inv X pins Z H s):Mod X.K X.mg X.base:=I.ok.mod
theorem Inv.kIn(I:Inv X pins Z H s):X.K.In s.heap:=I.ok.mod.kin.keeps I.bk
theorem Inv.lt(I:Inv X pins Z H s):X.env.locals<s.heap.objs.size:=let ⟨_,a,_⟩:=I.loc;a.lt
theorem Inv.sz(I:Inv X pins Z H s):X.s₀.heap.objs.size<=s.heap.objs.size:=Su I.ok.above (SF I.lt)
theorem Inv.nofs(I:Inv X pins Z H s){a:Addr}(h:s.heap.objs.size<=a):a∉X.fs:=λc=>by
 obtain⟨_,o,b,_⟩:=I.ok.funs.mem c;exact absurd (RY (RS b) (Su I.sz h)) (S6 _)
theorem Inv.cne(I:Inv X pins Z H s):∀x c,X.env.cells.lookup x=some c->c≠X.env.locals:=λx c e z=>by
 obtain⟨v,o,d,hd⟩:=I.cell x c e;obtain⟨m,⟨o',es,ep,a,b,_⟩,_⟩:=I.loc;rw[z,a]at d;cases d;rw[b]at hd;cases hd
theorem Inv.funs(I:Inv X pins Z H s):s.heap.FunFrames X.base X.outer:=by
 have all:∀(l:List Env),(∀b∈jq l,b∈X.fs)->X.s₀.heap.FunFrames X.base l->s.heap.FunFrames X.base l:=by
  intro l
  induction l with
  |nil=>intro _ _;trivial
  |cons env r g=>
    intro f k;obtain⟨m,⟨L,o,a,j,i,hd⟩,h⟩:=k;have d:L∈X.fs:=f L (by unfold jq;rw[List.filterMap_cons,a];exact List.mem_cons_self);obtain⟨n,e⟩:=I.base.slot L o i (I.ok.frf L d) d λz=>I.ok.exfs L z d;exact⟨m,⟨L,_,a,j,e,hd⟩,g (λb c=>f b (by unfold jq;rw[List.filterMap_cons,a];exact List.mem_cons_of_mem _ c)) h⟩
 exact all X.outer (λ_ c=>c) I.ok.funs
theorem Inv.stack(I:Inv X pins Z H s):s.heap.FunFrames X.base X.stack:=by
 rcases I.ok.stk with e|⟨e,b⟩
 ·rw[e];exact I.funs
 ·rw[e];obtain⟨m,a,_⟩:=I.loc;refine .cons (by rw[I.ok.kind];decide) b a ?_ I.funs;exact Heap.get?_none_of_le (Su I.ok.bsz I.ok.above)
theorem Inv.stkSub(I:Inv X pins Z H s):∀b∈jq X.stack,b∈X.env.locals::X.fs:=λb a=>by
 rcases I.ok.stk with e|⟨e,c⟩
 ·rw[e]at a;exact on _ a
 ·rw[e]at a;unfold jq at a;rw[List.filterMap_cons,c]at a;exact a
theorem Inv.stkFree(I:Inv X pins Z H s):∀b∈jq X.stack,H b=none:=λb a=>by
 rcases RO.mp (I.stkSub b a) with e|a
 ·rw[e];exact I.free
 ·obtain⟨_,o,c,_⟩:=I.ok.funs.mem a;exact I.base.free b o c (I.ok.frf b a) λz=>I.ok.exfs b z a
theorem Inv.step{g':Array GenState}{t':Nat}{d':Drawn}{ch:List Addr}(I:Inv X pins Z H s)
 (g:∀b∈ch,(b∈X.ex\/X.s₀.heap.objs.size<=b)/\b≠X.env.locals/\(∀x c,X.env.cells.lookup x=some c->c≠b)/\∀p∈X.pn++pins,p.1≠b)
 (keep:∀b o,b≠X.env.locals->b∉X.fs->b∉ch->s.heap.get? b=some o->H b=none->h'.get? b=some o)
 (slot:∀b o,b≠X.env.locals->b∈X.fs->b∉ch->s.heap.get? b=some o->H b=none->∃E,h'.get? b=some {o with slots:=E}) (free:∀b o,b∉ch->s.heap.get? b=some o->H b=none->H' b=none)
 (there:∀b o,b∉ch->s.heap.get? b=some o->∃o',h'.get? b=some o')
 (tups:∀b xs,H b=some (.tup xs)->H' b=some (.tup xs)) (frzs:∀b o u,H b=some (.frz o u)->H' b=some (.frz o u)) (tbls:∀b l,H b=some (.tbl l)->H' b=some (.tbl l)/\∀c o,H c=some (.own b)->s.heap.get? c=some o->H' c=some (.own b)/\h'.get? c=some o)
 (ns:∀m,s.heap.Ns X.env.locals m->h'.Ns X.env.locals m) (hok:HOk X.prog X.w H' h') (L:AllBare g'):
 Inv X pins Z H' {s with heap:=h',gens:=g',drawn:=d',toks:=t'}:=by
 have B:∀b o,X.s₀.heap.get? b=some o->b≠X.env.locals:=λb o e=>Sc (RY (RS e) I.ok.above)
 have j:∀b o,X.s₀.heap.get? b=some o->b∉X.ex->b∉ch:=λb o e a y=>by
  rcases(g b y).1 with z|z
  ·exact a z
  ·exact absurd (RY (RS e) z) (S6 _)
 have h:∀x c,X.env.cells.lookup x=some c->∀v,s.heap.IsCell c v->h'.IsCell c v:=λx c e v ⟨o,A,hd⟩=>by
  have f:c∉ch:=λz=>(g c z).2.2.1 x c e rfl;by_cases G:c∈X.fs
  ·obtain⟨E,q⟩:=slot c o (I.cne x c e) G f A (I.freeC x c e);exact⟨_,q,hd⟩
  ·exact⟨o,keep c o (I.cne x c e) G f A (I.freeC x c e),hd⟩
 refine⟨I.ok,I.os,L,⟨λb o e n y a=>?_,λb o e n y a=>?_,λb o e n a=>?_,λb o e a=>?_,λb xs e=>tups b xs (I.base.tups b xs e),λb o xs e=>frzs b o xs (I.base.frzs b o xs e),λb ps e=>⟨(tbls b ps (I.base.tbls b ps e).1).1,λc o t C=>let ⟨N,M⟩:=(I.base.tbls b ps e).2 c o t C;(tbls b ps (I.base.tbls b ps e).1).2 c o N M⟩⟩,?_,λx c e=>?_,?_,λx c e=>?_,λp hp=>?_,hok,I.len⟩
 ·exact keep b o (B b o e) y (j b o e a) (I.base.keep b o e n y a) (I.base.free b o e n a)
 ·obtain⟨E,t⟩:=I.base.slot b o e n y a;obtain⟨D,C⟩:=slot b _ (B b o e) y (j b o e a) t (I.base.free b o e n a);exact⟨D,C⟩
 ·obtain⟨o',t⟩:=I.base.there b o e a;exact free b o' (j b o e a) t (I.base.free b o e n a)
 ·obtain⟨o',t⟩:=I.base.there b o e a;exact there b o' (j b o e a) t
 · obtain⟨m,J,K⟩:=I.loc;refine⟨m,ns m J,λi x v t C O=>?_⟩;obtain⟨u,r,l⟩:=K i x v t C O;refine⟨u,r,?_⟩;rcases l with l|⟨k,c,e,z⟩
   ·exact .inl l
   ·exact .inr ⟨k,c,e,h x c e _ z⟩
 ·obtain⟨v,z⟩:=I.cell x c e;exact⟨v,h x c e v z⟩
 ·obtain⟨m,⟨o,_,_,A,_⟩,_⟩:=I.loc;exact free _ o (λz=>(g _ z).2.1 rfl) A I.free
 ·obtain⟨v,o,A,hd⟩:=I.cell x c e;exact free c o (λz=>(g c z).2.2.1 x c e rfl) A (I.freeC x c e)
 ·obtain⟨e,n,ne,F,d⟩:=I.pin p hp;have f:p.1∉ch:=λz=>(g p.1 z).2.2.2 p hp rfl;exact⟨keep p.1 p.2 ne F f e n,free p.1 p.2 f e n,ne,F,d⟩
theorem Inv.un{t':Nat}(I:Inv X pins Z H s)(u:Un X.fs [] H H' s.heap h')(hok:HOk X.prog X.w H' h'):Inv X pins Z H' {s with heap:=h',toks:=t'}:=by
 obtain⟨m,⟨o,es,ep,g,r⟩,_⟩:=id I.loc;obtain⟨k,j⟩:=u.any g I.free (by simp)
 exact I.step (g':=s.gens) (d':=s.drawn) (ch:=[]) (λ_ z=>nomatch z) (λb o _ c _ e n=>u.keep b o e n c (by simp)) (λb o _ c _ e n=>u.slot b o e n c (by simp)) (λb o _ e n=>u.free b o e n (by simp)) (λb o _ e=>u.there b o e (by simp)) u.tups u.frzs u.tbls (λl i=>by
  obtain⟨o',d,f,a,h⟩:=i;rw[g]at a;cases a
  exact⟨_,d,f,j,h⟩) hok I.bare
theorem Inv.call{g':Array GenState}{t':Nat}{d':Drawn}{ch:List Addr}(I:Inv X pins Z H s)(u:Un (jq X.stack) ch H H' s.heap h')(hok:HOk X.prog X.w H' h')(q:AllBare g')
 (f:∀b∈ch,(b∈X.ex\/X.s₀.heap.objs.size<=b)/\b≠X.env.locals/\(∀x c,X.env.cells.lookup x=some c->c≠b)/\∀p∈X.pn++pins,p.1≠b):
 Inv X pins Z H' {s with heap:=h',gens:=g',drawn:=d',toks:=t'}:=by
 obtain⟨m,⟨o,es,ep,j,r⟩,_⟩:=id I.loc;obtain⟨v,g⟩:=u.any j I.free λz=>(f _ z).2.1 rfl
 exact I.step (ch:=ch) f (λb o g t a e n=>u.keep b o e n (λz=>(RO.mp (I.stkSub b z)).elim g t) a) (λb o _ _ a e n=>u.any e n a) (λb o a e n=>u.free b o e n a) (λb o a e=>u.there b o e a) u.tups u.frzs u.tbls (λy l=>by
  obtain⟨o',h,i,d,k⟩:=l;rw[j]at d;cases d
  exact⟨_,h,i,g,k⟩) hok q
theorem Inv.turned{t':Nat}{a:Addr}(I:Inv X pins Z H s)(k:∀b o,b≠a->s.heap.get? b=some o->h'.get? b=some o)(g:H a=none)(h:a≠X.env.locals)
 (A:a∈X.ex\/X.s₀.heap.objs.size<=a) (y:∀x c,X.env.cells.lookup x=some c->c≠a) (w:∀p∈X.pn++pins,p.1≠a):Inv X pins Z H {s with heap:=h',toks:=t'}:=by
 have f:∀b u,H b=some u->b≠a:=λb u e z=>by rw[z,g]at e;cases e
 refine I.step (g':=s.gens) (d':=s.drawn) (ch:=[a]) (λb t=>?_) (λb o _ _ d e _=>k b o (λz=>d (by simp[z])) e) (λb o _ _ d e _=>⟨o.slots,k b o (λz=>d (by simp[z])) e⟩) (λ_ _ _ _ n=>n)
  (λb o d e=>⟨o,k b o (λz=>d (by simp[z])) e⟩) (λ_ _ e=>e) (λ_ _ _ e=>e) (λ_ _ e=>⟨e,λc o i B=>⟨i,k c o (bf i g) B⟩⟩) (λm l=>?_) (λb u e=>?_) I.bare
 · have e:b=a:=by simpa using t
   subst e;exact⟨A,h,y,w⟩
 ·obtain⟨o,es,ep,j,r⟩:=l;exact⟨o,es,ep,k _ o (Th h) j,r⟩
 · refine(I.hok b u e).stay (λc v d q=>k c v ?_ q) (λ_ q=>q) λ_ _ q=>q;rcases d with z|z
   ·rw[z];exact f b u e
   ·exact f c _ z
theorem Inv.tok(I:Inv X pins Z H s)(t:Nat):Inv X pins Z H {s with toks:=t}:=I.un (h':=s.heap) (t':=t) Un.refl I.hok
theorem Inv.kept{t':Nat}(I:Inv X pins Z H s)(k:∀b u,s.heap.get? b=some u->h'.get? b=some u):Inv X pins Z H {s with heap:=h',toks:=t'}:=I.un (Un.kept k) (I.hok.kept k)
theorem Inv.laid{a:Addr}{o:HO}{t':Nat}(I:Inv X pins Z H s)(k:∀b u,s.heap.get? b=some u->h'.get? b=some u)(hp:s.heap.objs.size<=a)(new:ObjOk X.prog X.w (upd H a o) h' a o):
 Inv X pins Z (upd H a o) {s with heap:=h',toks:=t'}:=I.un (Un.laid k hp (I.hok.fresh hp)) (I.hok.laid k hp new)
theorem Inv.write{x e:Addr}{o:HO}{t':Nat}(I:Inv X pins Z H s)(c:QH (H x))(d:e=x\/H e=some (.own x))(k:∀b u,b≠e->s.heap.get? b=some u->h'.get? b=some u)(a:∃u,h'.get? e=some u)
 (new:ObjOk X.prog X.w (upd H x o) h' x o):Inv X pins Z (upd H x o) {s with heap:=h',toks:=t'}:=I.un (Un.write c d k a) (I.hok.write c d k a new)
theorem Inv.pins_of{a:L0}(I:Inv X pins Z H s)(h:∀p∈a,s.heap.get? p.1=some p.2/\H p.1=none/\p.1≠X.env.locals/\p.1∉X.fs/\∀v,p.2.data≠ .cell v):Inv X a Z H s:=
 ⟨I.ok,I.os,I.bare,I.base,I.loc,I.cell,I.free,I.freeC,λp hp=>(RW.mp hp).elim (λz=>I.pin p (RX _ z)) (h p),I.hok,I.len⟩
theorem nZ{N:List Str}(c:N.Nodup){i j:Nat}{x:Str}(a:N[i]?=some x)(b:N[j]?=some x):i=j:=by
 obtain⟨g,e⟩:=R5.mp a;obtain⟨f,d⟩:=R5.mp b;exact(List.getElem_inj c).mp (e.trans d.symm)
theorem zI{M:Model}{A:Around}{E:L1}{i:Nat}{x:Str}{v:V}{u:Value}{Q:Unit->Shared->Prop}(I:Inv X pins Z H s)(hN:X.N.Nodup)(hi:X.N[i]?=some x)(C:Nz X.env.scope x)(r:RelV v u)
 (h:∀s',Inv X pins (Z.set i (some v)) H s'->(∃a,Heap.SameBut a s.heap s'.heap/\(a=X.env.locals\/X.env.cells.lookup x=some a))->Q () s') (hf:X.fn x=true\/X.env.scope.names.lookup x=some .local:=by first | exact .inl rfl | exact .inr rfl | assumption):wpAny M A (storeName X.env x u) Q E s:=by
 obtain⟨m,hn,hl⟩:=id I.loc;have T:(X.env.scope.kind == .class||(X.env.scope.kind == .module&&X.env.locals != X.env.globals))=false:=by rw[I.ok.kind];rfl
 have J:i<Z.length:=by rw[I.len];exact(R5.mp hi).1
 have cne:=I.cne
 have t:∀{a:Addr} {h':Heap},(∃o,s.heap.get? a=some o/\H a=none)->Heap.SameBut a s.heap h'->HOk X.prog X.w H h':=λ{a h'} ha f b ob e=>by
  obtain⟨_,_,F⟩:=ha;refine(I.hok b ob e).stay (λc w' B q=>(f.2 c ?_).trans q) (λ_ q=>q) λ_ _ q=>q;rintro rfl;rcases B with rfl|B
  ·rw[F]at e;cases e
  ·rw[F]at B;cases B
 rcases C with G|G
 · refine wpAny_storeName_local G hn (λh' hn' f=>?_) T;obtain⟨oL,_,_,hoL,_⟩:=id hn;refine h _ ⟨I.ok,I.os,I.bare,⟨λb o e n O C=>?_,λb o e n O C=>?_,I.base.free,λb o e C=>?_,I.base.tups,I.base.frzs,λb l q=>⟨(I.base.tbls b l q).1,λc o g D=>let ⟨Y,f2⟩:=(I.base.tbls b l q).2 c o g D;⟨Y,(f.2 c (bf Y I.free)).trans f2⟩⟩⟩,⟨_,hn',λj y v' g D e3=>?_⟩,λy c e=>?_,I.free,I.freeC,λp hp=>?_,t ⟨oL,hoL,I.free⟩ f,by simpa using I.len⟩ ⟨_,f,.inl rfl⟩
   ·exact(f.2 b (Sc (RY (RS e) I.ok.above))).trans (I.base.keep b o e n O C)
   ·obtain⟨sl,g⟩:=I.base.slot b o e n O C;exact⟨sl,(f.2 b (Sc (RY (RS e) I.ok.above))).trans g⟩
   ·obtain⟨o',g⟩:=I.base.there b o e C;exact⟨o',(f.2 b (Sc (RY (RS e) I.ok.above))).trans g⟩
   · by_cases K:j=i
     ·subst K;rw[hi]at g;cases g;rw[Ti J]at D;cases D;exact⟨u,r,.inl ⟨G,by simp⟩⟩
     · rw[T8 (Th K)]at D;obtain⟨u',r',q⟩:=hl j y v' g D e3;refine⟨u',r',?_⟩;rcases q with ⟨k,e⟩|⟨k,c,e,z⟩
       · refine .inl ⟨k,?_⟩
         have:y≠x:=λe=>K (nZ hN g (e▸hi))
         simp[this,e]
       ·exact .inr ⟨k,c,e,z.sameBut f (cne y c e)⟩
   ·obtain⟨w',z⟩:=I.cell y c e;exact⟨w',z.sameBut f (cne y c e)⟩
   ·obtain⟨e,n,ne,nf,d⟩:=I.pin p hp;exact⟨(f.2 p.1 ne).trans e,n,ne,nf,d⟩
 · have L:X.fn x=true:=by
    rcases hf with z|z
    ·exact z
    ·rw[z]at G;cases G
   obtain⟨c,B⟩:=I.ok.has x (.inl G);obtain⟨w',z⟩:=I.cell x c B;refine wpAny_storeName_cell I.ok.kind G B z (λh' W f=>?_);obtain⟨oc,S,R⟩:=id z;refine h {s with heap:=h'} ⟨I.ok,I.os,I.bare,⟨λb o e n O C=>?_,λb o e n O C=>?_,I.base.free,λb o e C=>?_,I.base.tups,I.base.frzs,λb l q=>⟨(I.base.tbls b l q).1,λP o g D=>let ⟨Y,f2⟩:=(I.base.tbls b l q).2 P o g D;⟨Y,(f.2 P (bf Y (I.freeC x c B))).trans f2⟩⟩⟩,⟨m,hn.sameBut f (Th (cne x c B)),λj y v' g D e3=>?_⟩,λy P e=>?_,I.free,I.freeC,λp hp=>?_,t ⟨oc,S,I.freeC x c B⟩ f,by simpa using I.len⟩ ⟨c,f,.inr B⟩
   ·exact(f.2 b (Sc (RY (RS e) (I.ok.cab x c L B)))).trans (I.base.keep b o e n O C)
   ·obtain⟨sl,g⟩:=I.base.slot b o e n O C;exact⟨sl,(f.2 b (Sc (RY (RS e) (I.ok.cab x c L B)))).trans g⟩
   ·obtain⟨o',g⟩:=I.base.there b o e C;exact⟨o',(f.2 b (Sc (RY (RS e) (I.ok.cab x c L B)))).trans g⟩
   · by_cases K:j=i
     ·subst K;rw[hi]at g;cases g;rw[Ti J]at D;cases D;exact⟨u,r,.inr ⟨.inl G,c,B,W⟩⟩
     · rw[T8 (Th K)]at D;obtain⟨u',r',q⟩:=hl j y v' g D e3;refine⟨u',r',?_⟩;rcases q with q|⟨k,P,e,z'⟩
       ·exact .inl q
       ·refine .inr ⟨k,P,e,z'.sameBut f ?_⟩;rintro rfl;exact K (nZ hN g (I.ok.inj _ _ _ e B▸hi))
   · by_cases U:P=c
     ·subst U;exact⟨_,W⟩
     ·obtain⟨w2,z2⟩:=I.cell y P e;exact⟨w2,z2.sameBut f U⟩
   ·obtain⟨e,n,ne,nf,d⟩:=I.pin p hp;refine⟨(f.2 p.1 ?_).trans e,n,ne,nf,d⟩;intro q;rw[q,S]at e;have q':oc=p.2:=R9 e;exact d w' (by rw[<-q'];exact R)
theorem nD{M:Model}{A:Around}{E:L1}{i:Nat}{x:Str}{v:V}{u:Value}{Q:Unit->Shared->Prop}(I:Inv X pins Z H s)(c:X.N.Nodup)(hi:X.N[i]?=some x)(a:Nz X.env.scope x)(r:RelV v u)
 (h:∀s',Inv X pins (Z.set i (some v)) H s'->Q () s') (b:X.fn x=true\/X.env.scope.names.lookup x=some .local:=by first | exact .inl rfl | exact .inr rfl | assumption):wpAny M A (storeName X.env x u) Q E s:=
 zI I c hi a r (λs' d _=>h s' d) b
theorem Inv.call'{s':Shared}{ch:List Addr}(I:Inv X pins Z H s)(d:s'.os=s.os)(u:Un (jq X.stack) ch H H' s.heap s'.heap)(hok:HOk X.prog X.w H' s'.heap)(f:AllBare s'.gens)
 (a:∀b∈ch,(b∈X.ex\/X.s₀.heap.objs.size<=b)/\b≠X.env.locals/\(∀x c,X.env.cells.lookup x=some c->c≠b)/\∀p∈X.pn++pins,p.1≠b):Inv X pins Z H' s':=by
 obtain⟨h',g',d',t',o'⟩:=s';have e:o'=s.os:=d;subst e;exact I.call (g':=g') (t':=t') (d':=d') u hok f a
end
abbrev XK:=Value->Option Addr->Hp->Prop
abbrev St:=List (Option V)
abbrev VK:=V->Hp->Prop
abbrev TE:=St->Hp->VK->Prop
abbrev TT:=St->Hp->(Bool->Hp->Prop)->Prop
abbrev TA:=St->Hp->(List V->Hp->Prop)->Prop
structure Ends where
 nx:St->Hp->Prop
 rt:VK
 bk:St->Hp->Prop:=λ_ _=>False
 ct:St->Hp->Prop:=λ_ _=>False
abbrev TS:=Ends->St->Hp->Prop
def EP(X:Cx)(a:L0)(Z:St)(Q:VK)(u:Value)(s':Shared):Prop:=∃v H',Inv X a Z H' s'/\RelV v u/\Q v H'
def TP(X:Cx)(a:L0)(Z:St)(Q:Bool->Hp->Prop)(b:Bool)(s':Shared):Prop:=∃H',Inv X a Z H' s'/\Q b H'
def AP(X:Cx)(a:L0)(Z:St)(Q:List V->Hp->Prop)(us:List Value)(s':Shared):Prop:=∃vs H',Inv X a Z H' s'/\Vals vs us/\Q vs H'
def SP(X:Cx)(b:L0)(D:Ends)(f:Flow)(s':Shared):Prop:=
 match f with
 |.next=>∃a H',Inv X b a H' s'/\D.nx a H'
 |.brk=>∃a H',Inv X b a H' s'/\D.bk a H'
 |.cont=>∃a H',Inv X b a H' s'/\D.ct a H'
 |.ret u=>∃v a H',Inv X b a H' s'/\RelV v u/\D.rt v H'
def PE(X:Cx)(e:Expr)(t:TE):Prop:=
 ∀(a:L0) (s:Shared) (Z:St) (H:Hp) (Q:VK),Inv X a Z H s->t Z H Q->wpAny (model X.prog X.w) X.A (eval e X.env) (EP X a Z Q) X.xe s
def PT(X:Cx)(e:Expr)(t:TT):Prop:=
 ∀(a:L0) (s:Shared) (Z:St) (H:Hp) (Q:Bool->Hp->Prop),Inv X a Z H s->t Z H Q->wpAny (model X.prog X.w) X.A (isTrue e X.env (eval e X.env)) (TP X a Z Q) X.xe s
def PW(X:Cx)(e:Expr)(t:TT):Prop:=
 ∀(whole:Sem Value) (a:L0) (s:Shared) (Z:St) (H:Hp) (Q:Bool->Hp->Prop),Inv X a Z H s->t Z H Q->wpAny (model X.prog X.w) X.A (isTrue e X.env whole) (TP X a Z Q) X.xe s
theorem PW.pt{X:Cx}{e:Expr}{t:TT}(h:PW X e t):PT X e t:=h _
def PA(X:Cx)(es:List Expr)(t:TA):Prop:=
 ∀(pos:Pos) (a:L0) (s:Shared) (Z:St) (H:Hp) (Q:List V->Hp->Prop),Inv X a Z H s->t Z H Q->wpAny (model X.prog X.w) X.A (spliced (backTo pos (starEach es X.env))) (AP X a Z Q) X.xe s
def PS(X:Cx)(st:Stmt)(t:TS):Prop:=
 ∀(a:L0) (s:Shared) (Z:St) (H:Hp) (D:Ends),Inv X a Z H s->t D Z H->wpAny (model X.prog X.w) X.A (exec st X.env) (SP X a D) X.xe s
def Fw(X:Cx)(st:List Stmt)(t:TS):Prop:=
 ∀(a:L0) (s:Shared) (Z:St) (H:Hp) (D:Ends),Inv X a Z H s->t D Z H->wpAny (model X.prog X.w) X.A (execs st X.env) (SP X a D) X.xe s
theorem bV{W:Type}{t:Sem W}{Q b:W->Shared->Prop}{M:Model}{A:Around}{E:L1}{s:Shared}(h:wpAny M A t Q E s)(c:∀a s,Q a s->b a s):wpAny M A t b E s:=S3 h c λ_ _ x=>x
section
variable{X:Cx}
def eT(i:Nat):TE:=λZ H Q=>∃v,Z[i]?=some (some v)/\Q v H
def tC(v:V):TE:=λ_ H Q=>Q v H
theorem KJ{i:Nat}{x:Str}{pos:Pos}(q:X.N[i]?=some x)(k:Rt X.env.scope x)(hd:(x==("__debug__" : Str))=false:=by decide)(g:(x==("__classdict__" : Str))=false:=by decide):PE X (.Name x pos) (eT i):=by
 intro f s Z H Q I h;obtain⟨v,e,h⟩:=h;obtain⟨m,n,p⟩:=I.loc;obtain⟨u,r,l⟩:=p i x v q e k;have d:EP X f Z Q u s:=⟨v,H,I,r,h⟩;rcases l with ⟨b,o⟩|⟨b,c,j,a⟩
 ·exact wpAny_Name (wpAny_loadName_local I.ok.kind b n o d) hd
 · rcases b with b|b
   ·exact wpAny_Name (wpAny_loadName_cell I.ok.kind b j a d) hd
   ·exact wpAny_Name (wpAny_loadName_free I.ok.kind b j a d g) hd
theorem ah{i j pos}:PE X (.Constant (.int i) j pos) (tC (.int i)):=λ_ _ _ H _ I h=>wpAny_Constant_int ⟨.int i,H,I.tok _,⟨_,rfl⟩,h⟩
theorem jB{b j pos}:PE X (.Constant (.bool b) j pos) (tC (.bl b)):=λ_ _ _ H _ I h=>Constant_bool ⟨.bl b,H,I,rfl,h⟩
theorem rQ{j pos}:PE X (.Constant .none j pos) (tC .non):=λ_ _ _ H _ I h=>Constant_none ⟨.non,H,I,rfl,h⟩
theorem jP{x j pos}:PE X (.Constant (.str x) j pos) (tC (.str x)):=λ_ _ _ H _ I h=>Calls.Constant_str ⟨.str x,H,I.tok _,⟨_,rfl⟩,h⟩
def Gl(X:Cx)(x:Str):Prop:=X.env.kindOf x=some .globalImplicit
theorem jm{E:L1}{a:L0}{s:Shared}{Z:St}{H:Hp}{x:Str}{u:Value}{pos:Pos}{Q:L1}(I:Inv X a Z H s)(c:Gl X x)(b:X.mg x=some u)(h:Q u s)
 (hd:(x==("__debug__" : Str))=false:=by decide):wpAny (model X.prog X.w) X.A (eval (.Name x pos) X.env) Q E s:=
 Uk I.ok.kind c (Calls.loadGlobal_global (by rw[I.ok.glob];exact I.mod.glob.keeps I.bk) b h) hd
theorem lS{E:L1}{a:L0}{s:Shared}{Z:St}{H:Hp}{x:Str}{u:Value}{pos:Pos}{Q:L1}(I:Inv X a Z H s)(e:Gl X x)(d:X.mg x=none)(b:bootBuiltins x=some u)(h:Q u s)
 (c:x ≠ "__name__" := by decide) (hd:(x==("__debug__" : Str))=false:=by decide):wpAny (model X.prog X.w) X.A (eval (.Name x pos) X.env) Q E s:=by
 obtain⟨i,g,f⟩:=I.mod.blt;exact Uk I.ok.kind e (Calls.loadGlobal_builtin (by rw[I.ok.glob];exact I.mod.glob.keeps I.bk) d (by rw[I.ok.blt];exact g.keeps I.bk) ((f x c).trans b) h) hd
theorem fJ{x:Str}{v:V}{u:Value}{pos:Pos}(b:Gl X x)(a:X.mg x=some u)(r:RelV v u)(hd:(x==("__debug__" : Str))=false:=by decide):PE X (.Name x pos) (tC v):=
 λ_ _ _ H _ I h=>jm I b a ⟨v,H,I,r,h⟩ hd
theorem Gq{x:Str}{v:V}{u:Value}{pos:Pos}(d:Gl X x)(c:X.mg x=none)(a:bootBuiltins x=some u)(r:RelV v u)(b:x ≠ "__name__" := by decide)(hd:(x==("__debug__" : Str))=false:=by decide):PE X (.Name x pos) (tC v):=
 λ_ _ _ H _ I h=>lS I d c a ⟨v,H,I,r,h⟩ b hd
variable{a b:Expr}{ta tb:TE}{pos:Pos}
def PC(X:Cx)(f:CmpOp)(a b:Expr)(t:TE):Prop:=
 ∀(c:L0) (s:Shared) (Z:St) (H:Hp) (Q:VK),Inv X c Z H s->t Z H Q->
  wpAny (model X.prog X.w) X.A (eval a X.env) (λv e=>wpAny (model X.prog X.w) X.A (eval b X.env) (λu d=>wpAny (model X.prog X.w) X.A (compareOp f v u) (EP X c Z Q) X.xe d) X.xe e) X.xe s
theorem ut(b:Expr){a:CmpOp}(h:a≠ .In)(c:a≠ .NotIn):behindInMarks a b=false:=by
 have e:(a == CmpOp.In)=false:=by cases a <;> first | rfl | exact absurd rfl h
 have d:(a == CmpOp.NotIn)=false:=by cases a <;> first | rfl | exact absurd rfl c
 cases b<;>simp[behindInMarks,e,d]
def tB(t:TE):TT:=λZ H Q=>t Z H λx L=>∃c,x=.bl c/\Q c L
theorem KN{d:CmpOp}{t:TE}(h:PC X d a b t)(f:behindInMarks d b=false:=by first | exact ut _ (by decide) (by decide) | rfl):PE X (.Compare a [d] [b] pos) t:=λc s Z H Q I e=>wpAny_Compare1 (h c s Z H Q I e) f
theorem Cu{f:CmpOp}{t:TE}(h:PC X f a b t)(g:behindInMarks f b=false:=by first | exact ut _ (by decide) (by decide) | rfl):PT X (.Compare a [f] [b] pos) (tB t):=by
 intro e s Z H Q I k;refine wpAny_isTrue_Compare1 (bV (h e s Z H _ I k) λv o g=>bV g λu s2 l=>bV l λc n ⟨x,L,m,i,j⟩=>?_) g;obtain⟨d,rfl,q⟩:=j;cases i;exact Us ⟨L,m,q⟩
variable{tA tB':TT}{bX:List Expr}
def NL(t u:TT):TT:=λZ H Q=>t Z H λc L=>if c=true then u Z L Q else Q false L
def tOr(t u:TT):TT:=λZ H Q=>t Z H λc L=>if c=true then Q true L else u Z L Q
theorem yf(d:PT X a tA):PW X (.BoolOp .And [a] pos) tA:=by
 intro f b s Z H Q I h;refine isTrue_and (bV (d b s Z H Q I h) λc g e=>?_);cases c with
 |true=>exact isTrue_and_nil e
 |false=>exact e
theorem Cq(d:PT X a tA):PW X (.BoolOp .Or [a] pos) tA:=by
 intro f b s Z H Q I h;refine isTrue_or (bV (d b s Z H Q I h) λc g e=>?_);cases c with
 |false=>exact isTrue_or_nil e
 |true=>exact e
theorem Cr(k:PT X a tA)(j:PW X (.BoolOp .And (b::bX) pos) tB'):PW X (.BoolOp .And (a::b::bX) pos) (NL tA tB'):=by
 intro g d s Z H Q I h;refine isTrue_and (bV (k d s Z H _ I h) λc i ⟨L,f,e⟩=>?_);cases c with
 |true=>exact j g d i Z L Q f e
 |false=>exact⟨L,f,e⟩
theorem HZ(k:PT X a tA)(j:PW X (.BoolOp .Or (b::bX) pos) tB'):PW X (.BoolOp .Or (a::b::bX) pos) (tOr tA tB'):=by
 intro g d s Z H Q I h;refine isTrue_or (bV (k d s Z H _ I h) λc i ⟨L,f,e⟩=>?_);cases c with
 |true=>exact⟨L,f,e⟩
 |false=>exact j g d i Z L Q f e
end
def SqL(K:F0)(H:Hp)(a:Addr)(xs:List V):Prop:=
 Rd H a (.lst xs)\/
  ∃(o:Obj) (its:Array Value) (n:Nat),K.lookup a=some o/\o.cls=.type "list" /\ o.dict=none/\o.data=.seq its n/\its.size<=sizeLine/\Vals xs its.toList
def SqT(K:F0)(H:Hp)(a:Addr)(xs:List V):Prop:=
 Rd H a (.tup xs)\/
  ∃(o:Obj) (its:Array Value) (n:Nat),K.lookup a=some o/\o.cls=.type "tuple" /\ o.data=.seq its n/\its.size<=sizeLine/\Vals xs its.toList
def Rs:Value->Option V
 |.none=>some .non
 |.bool b=>some (.bl b)
 |.int i _=>some (.int i)
 |.str x _=>some (.str x)
 |.bytes b _=>some (.byt b)
 |.float b _=>some (.flt b)
 |.ref a=>some (.ref a)
 |.type n=>some (.ty n)
 |_=>none
theorem RelV.abs{x:V}{u:Value}(r:RelV x u):Rs u=some x:=by
 cases x with
 |non=>cases r;rfl
 |bl _=>cases r;rfl
 |int _=>obtain⟨t,rfl⟩:=r;rfl
 |str _=>obtain⟨t,rfl⟩:=r;rfl
 |byt _=>obtain⟨t,rfl⟩:=r;rfl
 |flt _=>obtain⟨t,rfl⟩:=r;rfl
 |ref _=>cases r;rfl
 |ty _=>cases r;rfl
theorem RelV.inj{x y:V}{u:Value}(r:RelV x u)(q:RelV y u):x=y:=R9 (r.abs.symm.trans q.abs)
theorem Vals.inj:∀{xs ys:List V} {us:List Value},Vals xs us->Vals ys us->xs=ys
 |_,_,_,.nil,.nil=>rfl
 |_,_,_,.cons r t,.cons a t'=>by rw[r.inj a,Vals.inj t t']
section
variable{X:Cx}{pins:L0}{Z:St}{H:Hp}{s:Shared}{a:Addr}{xs ys:List V}
theorem SqL.of{K:F0}(h:H a=some (.lst xs)):SqL K H a xs:=.inl (.inl h)
theorem SqT.of{K:F0}(h:H a=some (.tup xs)):SqT K H a xs:=.inl (.inl h)
theorem Inv.list(I:Inv X pins Z H s)(h:SqL X.K H a xs):∃its:List Value,Vals xs its/\PlainL s.heap a its.toArray/\xs.length<=sizeLine:=by
 rcases h with h|⟨o,its,n,c,d,hd,b,f,r⟩
 ·obtain⟨z,its,n,r,e⟩:=h.ok I.hok;exact⟨its,r,⟨_,n,e,rfl,rfl,rfl⟩,z⟩
 ·refine⟨its.toList,r,⟨o,n,I.kIn a o c,d,hd,by simpa using b⟩,?_⟩;have e:=r.length;simp only[Ss]at e;omega
theorem Inv.tuple(I:Inv X pins Z H s)(h:SqT X.K H a xs):∃its:List Value,Vals xs its/\IsTup s.heap a its.toArray/\xs.length<=sizeLine:=by
 rcases h with h|⟨o,its,n,c,d,b,f,r⟩
 ·obtain⟨z,its,r,p⟩:=h.ok I.hok;exact⟨its,r,p,z⟩
 ·refine⟨its.toList,r,⟨o,I.kIn a o c,d,n,by simpa using b⟩,?_⟩;have e:=r.length;simp only[Ss]at e;omega
theorem Inv.list_inj(I:Inv X pins Z H s)(h:SqL X.K H a xs)(h':SqL X.K H a ys):xs=ys:=by
 obtain⟨its,r,⟨o,n,e,_,_,d⟩,_⟩:=I.list h;obtain⟨its',c,⟨o',f,b,_,_,d'⟩,_⟩:=I.list h';rw[e]at b;cases b;rw[d]at d';injection d' with M _
 have:its=its':=by simpa using congrArg Array.toList M
 subst this;exact r.inj c
end
abbrev Cx.wish(X:Cx)(E:L1):Cx:={X with xe:=E}
abbrev Cx.nox(X:Cx):Cx:=X.wish λ_ _=>False
theorem Cx.Ok.wish{X:Cx}(ok:X.Ok)(E:L1):(X.wish E).Ok:=
 ⟨ok.mod,ok.kind,ok.glob,ok.blt,ok.above,ok.inj,ok.has,ok.cab,ok.hd,ok.frames,ok.stk,ok.exf,ok.bs,ok.bsz,ok.noex,ok.exfs,ok.funs,ok.frf⟩
theorem Cx.Ok.unwish{X:Cx}{E:L1}(ok:(X.wish E).Ok):X.Ok:=
 ⟨ok.mod,ok.kind,ok.glob,ok.blt,ok.above,ok.inj,ok.has,ok.cab,ok.hd,ok.frames,ok.stk,ok.exf,ok.bs,ok.bsz,ok.noex,ok.exfs,ok.funs,ok.frf⟩
section
variable{X:Cx}{pins:L0}{Z:St}{H:Hp}{s:Shared}{E:L1}
theorem Inv.wish(I:Inv X pins Z H s)(E:L1):Inv (X.wish E) pins Z H s:=⟨I.ok.wish E,I.os,I.bare,I.base,I.loc,I.cell,I.free,I.freeC,I.pin,I.hok,I.len⟩
theorem Inv.unwish(I:Inv (X.wish E) pins Z H s):Inv X pins Z H s:=⟨I.ok.unwish,I.os,I.bare,I.base,I.loc,I.cell,I.free,I.freeC,I.pin,I.hok,I.len⟩
theorem SP.unwish{D:Ends}{f:Flow}{s':Shared}(h:SP (X.wish E) pins D f s'):SP X pins D f s':=by
 cases f with
 |next=>obtain⟨a,H',I,q⟩:=h;exact⟨a,H',I.unwish,q⟩
 |brk=>obtain⟨a,H',I,q⟩:=h;exact⟨a,H',I.unwish,q⟩
 |cont=>obtain⟨a,H',I,q⟩:=h;exact⟨a,H',I.unwish,q⟩
 |ret u=>obtain⟨v,a,H',I,r,q⟩:=h;exact⟨v,a,H',I.unwish,r,q⟩
end
section
variable{X:Cx}{st:Stmt}{bX:List Stmt}{t u:TS}{e:Expr}{te:TE}{pos:Pos}
def HC:TS:=λD Z H=>D.nx Z H
def FR(t u:TS):TS:=λD Z H=>t {D with nx:=u D} Z H
theorem aV:Fw X [] HC:=λ_ _ Z H _ I h=>S4 ⟨Z,H,I,h⟩
theorem ae(e:PS X st t)(d:Fw X bX u):Fw X (st::bX) (FR t u):=by
 intro a s Z H D I h;refine TF (bV (e a s Z H {D with nx:=u D} I h) λf c q=>?_);cases f with
 |next=>
   obtain⟨b,H',g,q⟩:=q;exact d a c b H' D g q
 |ret v=>exact q
 |brk=>exact q
 |cont=>exact q
theorem ai(b:PS X st t):Fw X [st] t:=by
 intro a s Z H D I h;refine TF (bV (b a s Z H D I h) λf c q=>?_);cases f with
 |next=>exact S4 q
 |ret v=>exact q
 |brk=>exact q
 |cont=>exact q
theorem Inv.quiet{a:L0}{Z:St}{H:Hp}{s:Shared}(I:Inv X a Z H s):interactive X.env=false:=by simp[interactive,I.ok.kind]
def nC(te:TE):TS:=λD Z H=>te Z H λ_ L=>D.nx Z L
theorem aC(d:PE X e te)(c:swapsWith e none pos.line X.env=pure false:=by rfl):PS X (.Expr e pos) (nC te):=by
 intro a s Z H D I h;exact wpAny_Expr_any (bV (d a s Z H _ I h) λv g ⟨x,L,f,i,b⟩=>⟨Z,L,f,b⟩) I.quiet c
def NH(te:TE):TS:=λD Z H=>te Z H D.rt
theorem bC(d:PE X e te):PS X (.Return (some e) pos) (NH te):=by
 intro a s Z H D I h;exact wpAny_Return_some (bV (d a s Z H _ I h) λv g ⟨x,L,f,b,c⟩=>⟨x,Z,L,f,b,c⟩)
def HB:TS:=λD _ H=>D.rt .non H
theorem Gm:PS X (.Return none pos) HB:=λ_ _ Z H _ I h=>wpAny_Return_none ⟨.non,Z,H,I,rfl,h⟩
def FT(c:TT)(t u:TS):TS:=λD Z H=>c Z H λb L=>if b=true then t D Z L else u D Z L
theorem bO{c:Expr}{a b:List Stmt}{f:TT}(k:PT X c f)(m:Fw X a t)(l:Fw X b u):PS X (.If c a b pos) (FT f t u):=by
 intro e s Z H D I h;refine wpAny_If (bV (k e s Z H _ I h) λd g ⟨L,j,i⟩=>?_);cases d with
 |true=>exact m e g Z L D j i
 |false=>exact l e g Z L D j i
end
abbrev TG:=V->St->Hp->(St->Hp->Prop)->Prop
abbrev Nk:=List V->St->Hp->(St->Hp->Prop)->Prop
def PG(X:Cx)(a:Expr)(t:TG):Prop:=
 ∀(b:L0) (s:Shared) (Z:St) (H:Hp) (v:V) (u:Value) (Q:St->Hp->Prop),Inv X b Z H s->RelV v u->t v Z H Q->
  wpAny (model X.prog X.w) X.A (assign a X.env u) (λ_ s'=>∃c H',Inv X b c H' s'/\Q c H') X.xe s
def QW(X:Cx)(c:List Expr)(t:Nk):Prop:=
 ∀(a:L0) (s:Shared) (Z:St) (H:Hp) (vs:List V) (us:List Value) (Q:St->Hp->Prop),Inv X a Z H s->Vals vs us->t vs Z H Q->
  wpAny (model X.prog X.w) X.A (assignInOrder ((assignEach c X.env).map (·.2)) us) (λ_ s'=>∃b H',Inv X a b H' s'/\Q b H') X.xe s
abbrev Ni:=V->V->V->Hp->(Hp->Prop)->Prop
def QF(X:Cx)(t:Ni):Prop:=
 ∀(a:L0) (s:Shared) (Z:St) (H:Hp) (o i v:V) (ov b u:Value) (Q:Hp->Prop),Inv X a Z H s->RelV o ov->RelV i b->RelV v u->t o i v H Q->
  wpAny (model X.prog X.w) X.A (setItem ov b u) (λ_ s'=>∃H',Inv X a Z H' s'/\Q H') X.xe s
section
variable{X:Cx}{pos:Pos}
def eh(i:Nat):TG:=λv Z H Q=>Q (Z.set i (some v)) H
theorem cc{i:Nat}{x:Str}(d:X.N.Nodup)(hi:X.N[i]?=some x)(b:Nz X.env.scope x)(c:X.fn x=true\/X.env.scope.names.lookup x=some .local:=by first | exact .inl rfl | exact .inr rfl | assumption):PG X (.Name x pos) (eh i):=by
 intro a s Z H v u Q I r h;exact wpAny_assign_Name (nD I d hi b r (λs' e=>⟨_,H,e,h⟩) c)
def Py:Nk:=λvs Z H Q=>vs=[]/\Q Z H
def EG(t:TG)(u:Nk):Nk:=λvs Z H Q=>∃v r,vs=v::r/\t v Z H λa H'=>u r a H' Q
theorem yl:QW X [] Py:=by
 intro a s Z H vs us Q I r h;obtain⟨e,h⟩:=h;subst e;cases r;exact assignInOrder_nil ⟨Z,H,I,h⟩
theorem kM{e:Expr}{es:List Expr}{t:TG}{u:Nk}(j:PG X e t)(i:QW X es u)
 (g:(assignEach (e::es) X.env).map (·.2)=assign e X.env::(assignEach es X.env).map (·.2):=by rfl):QW X (e::es) (EG t u):=by
 intro a s Z H vs us Q I r h;obtain⟨v,vr,k,h⟩:=h;subst k;cases r with
 |cons r d=>
   rw[g];refine assignInOrder_cons (bV (j a s Z H _ _ _ I r h) λ_ c ⟨b,L,l,f⟩=>?_);exact i a c b L _ _ Q l d f
def Pw(K:F0)(n:Nat)(t:Nk):TG:=λv Z H Q=>∃a xs,v=.ref a/\SqT K H a xs/\xs.length=n/\t xs Z H Q
theorem CG{es:List Expr}{k:Nat}{t:Nk}{n:Nat}(q:X.calm=true)(h:QW X es t)
 (m:(assignEach es X.env).length=n:=by rfl) (f:(assignEach es X.env).findIdx? (·.1)=none:=by rfl):PG X (.Tuple es k pos) (Pw X.K n t):=by
 intro c s Z H v u Q I r d;obtain⟨a,xs,w,l,p,d⟩:=d;subst w;cases r;obtain⟨its,g,j,y⟩:=I.tuple l;refine assign_Tuple_tuple (I.ok.hd q) j (by simp[m,<-p,g.length]) f λh' i=>?_;have x:Inv X c Z H {s with heap:=h'}:=I.kept (t':=s.toks) λb o e=>i b o (Sc (RS e)) e;exact h c _ Z H xs _ Q x (by simpa using g) d
def Px(to a:TE)(t:Ni):TG:=λv Z H Q=>to Z H λo L=>a Z L λi c=>t o i v c λb=>Q Z b
theorem KH{o i:Expr}{to c:TE}{t:Ni}(m:PE X o to)(hi:PE X i c)(l:QF X t)
 (n:∀v,assign (.Subscript o i pos) X.env v=(do
   let ov <-holding [v] (eval o X.env)
   let b <-holding [v,ov] (eval i X.env)
   standAt pos
   holding [v,ov,b] (setItem ov b v)
   release [v,ov,b] []):=by intro _;rfl):PG X (.Subscript o i pos) (Px to c t):=by
 intro a s Z H v u Q I r h;rw[n];refine no (Tt (bV (m a s Z H _ I h) λov d ⟨x,L,w,f,k⟩=>?_));refine no (Tt (bV (hi a d Z L _ w k) λb s2 ⟨y,A,q,e,j⟩=>?_));refine no (Uy (no (Tt (bV (l a s2 Z A x y v ov b u _ q f e r j) λ_ B ⟨z,p,g⟩=>?_))));exact wpAny_release ⟨Z,z,p,g⟩
def rs(te:TE)(g:TG):TS:=λD Z H=>te Z H λx L=>g x Z L D.nx
theorem KA{b e:Expr}{te:TE}{g:TG}(l:PE X e te)(k:PG X b g)(j:swapsWithSole [b] e pos.line X.env=pure false:=by rfl)(i:swappedStores [b] e X.env=pure none:=by rfl)
 (m:(assignEach [b] X.env).map (·.2)=[assign b X.env]:=by rfl):PS X (.Assign [b] e pos) (rs te g):=by
 intro a s Z H D I h;refine wpAny_Assign_stores (bV (l a s Z H _ I h) λv c ⟨x,L,n,d,f⟩=>?_) j i;rw[m];exact bV (k a c Z L x v _ n d f) λ_ s2 q=>q
theorem a7{i:Nat}{x:Str}{e:Expr}{te:TE}{a:Pos}(l:X.N.Nodup)(hi:X.N[i]?=some x)(f:Nz X.env.scope x)(k:PE X e te)(g:swapsWith e (some (.Name x a)) pos.line X.env=pure false:=by rfl)(j:X.fn x=true\/X.env.scope.names.lookup x=some .local:=by first | exact .inl rfl | exact .inr rfl | assumption):
 PS X (.Assign [.Name x a] e pos) (rs te (eh i)):=by
 intro b s Z H D I h;refine wpAny_Assign_Name (bV (k b s Z H _ I h) λv o ⟨y,L,n,c,d⟩=>?_) g;exact nD n l hi f c (λs2 m=>⟨_,L,m,d⟩) j
end
section
variable{X:Cx}{pos:Pos}
def Bc(c:TT)(tb:TS):TS:=λD Z H=>∃W:Nat->St->Hp->Prop,(∃m,W m Z H)/\∀m Z H,W m Z H->
 c Z H λb L=>if b=true then ∃N:St->Hp->Prop,(∀a H',N a H'->∃d,d<m/\W d a H')/\tb {D with nx:=N,ct:=N,bk:=D.nx} Z L else D.nx Z L
theorem Cy{c:Expr}{body:List Stmt}{t:TT}{tb:TS}(hp:PassesOwn (model X.prog X.w) X.A X.env X.xe)(F:PT X c t)(G:Fw X body tb):PS X (.While c body [] pos) (Bc t tb):=by
 intro d s Z H D I h;obtain⟨W,⟨E,B⟩,i⟩:=h;refine wpAny_While (codeAny_whileLoop (λn s'=>∃g H',Inv X d g H' s'/\W n g H') ?_ E ⟨Z,H,I,B⟩);rintro n C ⟨e,L,J,z⟩;refine S9 hp (bV (F d C e L _ J (i n e L z)) λb s2 ⟨y,x,l⟩=>?_);cases b with
 |true=>
   obtain⟨N,u,l⟩:=l;rw[RF rfl];refine S9 hp (bV (G d s2 e y _ x l) λf K k=>?_);cases f with
   |next=>
     obtain⟨a,j,r,o⟩:=k;obtain⟨p,q,m⟩:=u a j o;exact⟨p,q,a,j,r,m⟩
   |cont=>
     obtain⟨a,j,r,o⟩:=k;obtain⟨p,q,m⟩:=u a j o;exact⟨p,q,a,j,r,m⟩
   |brk=>exact k
   |ret v=>exact k
 |false=>
   rw[RE RQ];exact S4 ⟨e,y,x,l⟩
end
structure It where
 go:Nat->Hp->Prop
 yld:Nat->Hp->V->Hp->Prop
 stop:Nat->Hp->Prop
def qc(X:Cx)(a:L0)(H:Hp)(b:Addr):Prop:=
 H b=none/\b≠X.env.locals/\b∉X.fs/\(b∈X.ex\/X.s₀.heap.objs.size<=b)/\(∀x c,X.env.cells.lookup x=some c->c≠b)/\∀p∈X.pn++a,p.1≠b
theorem Inv.fpOk{X:Cx}{a:L0}{Z:St}{H H':Hp}{s:Shared}{b:Addr}(I:Inv X a Z H s)(d:s.heap.objs.size<=b)(f:H' b=none):qc X a H' b:=by
 refine⟨f,Nat.ne_of_gt (RY I.lt d),I.nofs d,.inr (Su I.sz d),λx c e z=>?_,λp hp z=>?_⟩
 ·obtain⟨v,q⟩:=I.cell x c e;exact absurd (RY q.lt (by rw[z];exact d)) (S6 _)
 ·exact absurd (RY (RS (I.pin p hp).1) (by rw[z];exact d)) (S6 _)
structure Turn (P:Program) (w:World) (K:F0) (tg:Expr) (J:It) (fp:List Addr) (it:Addr) (tn:Nat->Heap->Prop):Prop where
 mem:it∈fp
 obj:∀i h,tn i h->∀b∈fp,∃o,h.get? b=some o/\∀v,o.data≠ .cell v
 keep:∀i h h',tn i h->(∀b∈fp,∀o,h.get? b=some o->h'.get? b=some o)->tn i h'
 item:∀(X:Cx),X.prog=P->X.w=w->X.K=K->X.calm=true->∀(i:Nat) (pins:L0) (s:Shared) (Z:St) (H:Hp) (E:L1),Inv X pins Z H s->(∀b∈fp,qc X pins H b)->tn i s.heap->J.go i H->
  wpAny (model P w) X.A (pyNext (.ref it)) (λr s1=>∃u,r=some u/\
   wpAny (model P w) X.A (letOwnedTupleGo tg (.ref it) u) (λ_ s2=>∃x H',Inv X pins Z H' s2/\RelV x u/\J.yld i H x H'/\tn (i+1) s2.heap/\∀b∈fp,H' b=none) E s1) E s
 done:∀(X:Cx),X.prog=P->X.w=w->X.K=K->X.calm=true->∀(i:Nat) (pins:L0) (s:Shared) (Z:St) (H:Hp) (E:L1),Inv X pins Z H s->(∀b∈fp,qc X pins H b)->tn i s.heap->J.stop i H->
  wpAny (model P w) X.A (pyNext (.ref it)) (λr s1=>r=none/\Inv X pins Z H s1) E s
 self:∀(A:Around) (i:Nat) (s:Shared) (Q:L1) (E:L1),tn i s.heap->Q (.ref it) s->wpAny (model P w) A (pyIter (.ref it)) Q E s
abbrev TI:=St->Hp->(It->Hp->Prop)->Prop
def PIE(X:Cx)(a:L0)(Z:St)(g:Expr)(R:It->Hp->Prop)(c:Value)(s2:Shared):Prop:=
 ∃(e:Addr) (f:List Addr) (d:Nat->Heap->Prop) (J:It) (H':Hp),c=.ref e/\Inv X a Z H' s2/\Turn X.prog X.w X.K g J f e d/\d 0 s2.heap/\(∀b∈f,qc X a H' b)/\R J H'
def PI(X:Cx)(c iter:Expr)(b:TI):Prop:=
 ∀(a:L0) (s:Shared) (Z:St) (H:Hp) (R:It->Hp->Prop),Inv X a Z H s->b Z H R->
  wpAny (model X.prog X.w) X.A (eval iter X.env) (λv d=>wpAny (model X.prog X.w) X.A (pyIter v) (PIE X a Z c R) X.xe d) X.xe s
theorem Jf{M:Model}{A:Around}{E:L1}{s:Shared}{b:Expr}{c:Addr}{u:Value}{o:Obj}{n:String}{vs:Array Value}{Q:Unit->Shared->Prop}(d:s.heap.get? c=some o)(f:o.cls=.type n)(hd:o.data=.fields vs)
 (e:["enumerate","zip","dict_itemiterator","dict_reverseitemiterator","odict_iterator","itertools.zip_longest","itertools.pairwise"].contains n=false) (a:Q () s):wpAny M A (letOwnedTupleGo b (.ref c) u) Q E s:=by
 unfold letOwnedTupleGo
 cases b <;> first
  |exact RP a
  | (cases u <;> first
      |exact RP a
      | (refine no (wpAny_load d ?_)
         rw[f,hd];show wpAny M A (if (["enumerate","zip","dict_itemiterator","dict_reverseitemiterator","odict_iterator","itertools.zip_longest","itertools.pairwise"].contains n&&vs[0]?==some (rawInt _))=true then _ else _) Q E s;rw[RE (by intro h;rw[e,Bool.false_and]at h;cases h)]
         exact RP a))
def RA(K:F0)(a:Addr):It:=
 ⟨λi H=>∃xs x,SqL K H a xs/\xs[i]?=some x,λi H x H'=>H'=H/\∀xs,SqL K H a xs->xs[i]?=some x,λi H=>∃xs,SqL K H a xs/\xs.length<=i⟩
def QJ(lo:Int)(n:Nat):It:=⟨λi _=>i<n,λi H x H'=>H'=H/\x=.int (lo+i),λi _=>n<=i⟩
theorem zG{P:Program}{w:World}{K:F0}{M:Expr}(a g:Addr):Turn P w K M (RA K a) [g] g (λi h=>h.IsListIter g a i) where
 mem:=by simp
 obj:=λi h st b j=>by
  have e:b=g:=by simpa using j
  subst e;obtain⟨o,e,c,d⟩:=st;exact⟨o,e,λv z=>by rw[d]at z;cases z⟩
 keep:=λi h h' st k=>st.at λo e=>k g (by simp) o e
 item:=by
  intro X A t B L i f s Z H E I n st y;subst A t B;obtain⟨xs,x,m,r⟩:=y;obtain⟨its,q,p,Q⟩:=I.list m;obtain⟨u,S,O⟩:=q.get r;obtain⟨J,G,T,F,D,C⟩:=n g (by simp);refine wpAny_pyNext_list_item st p.isList (x:=u) (by simpa using S) λh' l N=>?_;have V:Inv X f Z H {s with heap:=h'}:=I.turned (t':=s.toks) (λb o j e=>(N.2 b j).trans e) J G F D C;obtain⟨o,e,c,d⟩:=id l;exact⟨u,rfl,Jf (s:={s with heap:=h'}) e c d (by decide) ⟨x,H,V,O,⟨rfl,λys R=>by rw[I.list_inj R m];exact r⟩,l,λb j=>(n b j).1⟩⟩
 done:=by
  intro X A t B L i f s Z H E I n st y;subst A t B;obtain⟨xs,m,r⟩:=y;obtain⟨its,q,p,Q⟩:=I.list m;obtain⟨J,G,T,F,D,C⟩:=n g (by simp);have Y:=q.length;exact wpAny_pyNext_list_end (I.ok.hd L) st p.isList (by simp;omega) λh' U=>⟨rfl,I.turned (t':=s.toks) (λb o j e=>U b o j e) J G F D C⟩
 self:=λ_ _ _ _ _ st h=>wpAny_pyIter_listiter st h
theorem v7{P:Program}{w:World}{K:F0}{D:Expr}(c:Addr)(lo:Int)(n:Nat):Turn P w K D (QJ lo n) [c] c (λi h=>IsRangeIter h c (lo+(i:Nat)*1) ((n:Int)-(i:Nat)) 1) where
 mem:=by simp
 obj:=λi h st b d=>by
  have e:b=c:=by simpa using d
  subst e
  exact⟨_,st,λv z=>by
   have C:Data.fields _=Data.cell v:=z
   cases C⟩
 keep:=λi h h' st k=>k c (by simp) _ st
 item:=by
  intro X p j q m i a s Z H E I g st l;subst p j q;obtain⟨A,y,J,x,u,r⟩:=g c (by simp);have W:=Walks.range (prog:=X.prog) (w:=X.w) (I.ok.hd m) c lo 1 n;refine W.item i s _ _ l st λv h' B G f F=>?_;obtain⟨t,rfl⟩:=G;have M:Inv X a Z H {s with heap:=h',toks:=B}:=I.turned (λb o d e=>F b o (by simpa using d) e) A y x u r;refine⟨_,rfl,Jf (s:={s with heap:=h',toks:=B}) (n := "range_iterator") f rfl rfl (by decide) ⟨.int (lo+i),H,M,⟨t,?_⟩,⟨rfl,rfl⟩,f,λb d=>(g b d).1⟩⟩;rw[Int.mul_one]
 done:=by
  intro X p j q m i a s Z H E I g st l;subst p j q;obtain⟨A,y,J,x,u,r⟩:=g c (by simp);exact wpAny_pyNext_range_end (I.ok.hd m) st (by have:n<=i:=l;omega) λh' L=>⟨rfl,I.turned (t':=s.toks) (λb o d e=>L b o d e) A y x u r⟩
 self:=λ_ _ _ _ _ st h=>wpAny_pyIter_rangeiter st h
section
variable{X:Cx}{tg:Expr}
def qR(K:F0)(b:TE):TI:=λZ H R=>b Z H λx L=>∃a,x=.ref a/\(∃xs,SqL K L a xs)/\R (RA K a) L
theorem Go{l:Expr}{g:TE}(m:PE X l g):PI X tg l (qR X.K g):=by
 intro c s Z H R I h;refine bV (m c s Z H _ I h) λv d ⟨x,L,f,i,j⟩=>?_;obtain⟨a,e,⟨xs,k⟩,q⟩:=j;subst e;cases i;obtain⟨its,r,p,t⟩:=f.list k;refine wpAny_pyIter_list p.isList ?_;refine⟨d.heap.objs.size,[d.heap.objs.size],_,_,L,rfl,f.kept (t':=d.toks) λb o e=>RM _ e,zG a _,⟨_,Sb _ rfl,rfl,rfl⟩,λb n=>?_,q⟩;have e:b=d.heap.objs.size:=by simpa using n
 subst e;exact f.fpOk (RU _) (f.hok.fresh (RU _))
theorem ui{a:L0}{Z:St}{H:Hp}{s:Shared}{R:It->Hp->Prop}{E:L1}{lo hi:Int}{t u v:Tok}{c:Nat}(I:Inv X a Z H s)(j:-(2 ^ 62)<=lo)(i:lo<2 ^ 62)(h:-(2 ^ 62)<=hi)(g:hi<2 ^ 62)
 (q:R (QJ lo (hi-lo).toNat) H):wpAny (model X.prog X.w) X.A (pyIter (.ref s.heap.objs.size)) (PIE X a Z tg R) E {s with heap:=s.heap.push {cls:=.type "range",data:=.fields #[.int lo t,.int hi u,.int 1 v]},toks:=c}:=by
 refine wpAny_pyIter_range (IsRange.new ..) (small_one j i h g) ?_;have d:Inv X a Z H {s with heap:=s.heap.push {cls:=.type "range",data:=.fields #[.int lo t,.int hi u,.int 1 v]},toks:=c}:=I.kept λb o e=>RM _ e
 refine⟨(s.heap.push {cls:=.type "range",data:=.fields #[.int lo t,.int hi u,.int 1 v]}).objs.size,[(s.heap.push {cls:=.type "range",data:=.fields #[.int lo t,.int hi u,.int 1 v]}).objs.size],_,_,H,rfl,
  d.kept (t':=c) λb o e=>RM _ e,v7 _ lo (hi-lo).toNat,?_,λb f=>?_,q⟩
 · have l:lo+((0:Nat):Int)*1=lo:=by simp
   have k:(((hi-lo).toNat:Nat):Int)-((0:Nat):Int)=Builtin.Range.rangeSize lo hi 1:=by rw[rangeSize_one];split<;>omega
   show IsRangeIter _ _ (lo+((0:Nat):Int)*1) ((((hi-lo).toNat:Nat):Int)-((0:Nat):Int)) 1;rw[l,k];exact Sb _ rfl
 · have e:b=(s.heap.push {cls:=.type "range",data:=.fields #[.int lo t,.int hi u,.int 1 v]}).objs.size:=by simpa using f
   subst e;exact d.fpOk (RU _) (d.hok.fresh (RU _))
def Jb(a:TA):TI:=λZ H R=>a Z H λvs L=>∃j:Int,vs=[.int j]/\-(2 ^ 62)<=j/\j<2 ^ 62/\R (QJ 0 j.toNat) L
def Ja(a:TA):TI:=λZ H R=>a Z H λvs L=>∃i j:Int,vs=[.int i,.int j]/\(-(2 ^ 62)<=i/\i<2 ^ 62/\-(2 ^ 62)<=j/\j<2 ^ 62)/\R (QJ i (j-i).toNat) L
theorem dg{a:Expr}{d:TA}{p pos:Pos}(m:Gl X "range")(l:X.mg "range" = none)(n:PA X [a] d)(k:starEach [a] X.env=[(false,eval a X.env)]:=by rfl):PI X tg (.Call (.Name "range" p) [a] [] pos) (Jb d):=by
 intro b s Z H R I h;refine Call_ (lS I m l boot_range (Tv (bV (n pos b s Z H _ I h) λus u ⟨vs,L,o,g,c⟩=>?_) k rfl));obtain⟨j,e,c,i,q⟩:=c;subst e;cases g with
 |cons r f=>
   cases f;obtain⟨t,rfl⟩:=r;exact call_range_1 (ui o (by omega) (by omega) c i (by simpa using q))
theorem qC{a b:Expr}{k:TA}{p pos:Pos}(x:Gl X "range")(w:X.mg "range" = none)(y:PA X [a,b] k)(v:starEach [a,b] X.env=[(false,eval a X.env),(false,eval b X.env)]:=by rfl)(d:starEach [b] X.env=[(false,eval b X.env)]:=by rfl):
 PI X tg (.Call (.Name "range" p) [a,b] [] pos) (Ja k):=by
 intro c s Z H R I h;refine Call_ (lS I x w boot_range (Tv (bV (y pos c s Z H _ I h) λus A ⟨vs,L,z,l,g⟩=>?_) (by rw[v,d]) (by rw[d];rfl)));obtain⟨i,j,e,⟨g,u,o,n⟩,q⟩:=g;subst e;cases l with
 |cons r f=>
   cases f with
   |cons m f=>
     cases f;obtain⟨t,rfl⟩:=r;obtain⟨t',rfl⟩:=m;exact call_range_2 (ui z g u o n q)
def JF(d:TI)(g:TG)(tb:TS):TS:=λD Z H=>d Z H λJ L=>∃W:Nat->Nat->St->Hp->Prop,(∃m,W 0 m Z L)/\∀i m Z H,W i m Z H->
 (J.stop i H/\D.nx Z H)\/(J.go i H/\∃N:St->Hp->Prop,(∀a H',N a H'->∃c,c<m/\W (i+1) c a H')/\∀x H',J.yld i H x H'->g x Z H' λb e=>tb {D with nx:=N,ct:=N,bk:=D.nx} b e)
def nM(a:List Addr)(h:Heap):L0:=a.filterMap λb=>(h.get? b).map λo=>(b,o)
theorem ig{a:List Addr}{h:Heap}{b:Addr}{o:Obj}(c:b∈a)(e:h.get? b=some o):(b,o)∈nM a h:=Ul.mpr ⟨b,c,by rw[e];rfl⟩
theorem z8{a:List Addr}{h:Heap}{p:Addr×Obj}(hp:p∈nM a h):p.1∈a/\h.get? p.1=some p.2:=by
 obtain⟨b,c,e⟩:=Ul.mp hp;cases q:h.get? b with
 |none=>rw[q]at e;cases e
 |some o=>
   rw[q]at e;have d:(b,o)=p:=R9 e;subst d;exact⟨c,q⟩
theorem Inv.pinned{a:L0}{Z:St}{H:Hp}{s:Shared}{c:List Addr}(I:Inv X a Z H s)(i:∀b∈c,qc X a H b)(h:∀b∈c,∃o,s.heap.get? b=some o/\∀v,o.data≠ .cell v):Inv X (a++nM c s.heap) Z H s:=
 I.pins_of λp hp=>(RW.mp hp).elim (λz=>I.pin p (RN _ z)) λz=>by
  obtain⟨f,e⟩:=z8 z;obtain⟨l,k,j,_⟩:=i p.1 f;obtain⟨o,g,d⟩:=h p.1 f;rw[e]at g;cases g;exact⟨e,l,k,j,d⟩
theorem Inv.unpinned{a pl:L0}{Z:St}{H:Hp}{s:Shared}(I:Inv X (a++pl) Z H s):Inv X a Z H s:=I.pins_of λp hp=>I.pin p (RN _ (RX _ hp))
theorem dP{iter:Expr}{body:List Stmt}{Y:TI}{g:TG}{tb:TS}{pos:Pos}(hp:PassesOwn (model X.prog X.w) X.A X.env X.xe)(hc:X.calm=true)(hi:PI X tg iter Y)(hg:PG X tg g)(p:Fw X body tb)
 (hs:∀x,foldedSetIterable iter X.env x=pure x:=by intro _;rfl):PS X (.For tg iter body [] pos) (JF Y g tb):=by
 intro c s Z H D I h;refine wpAny_For (bV (hi c s Z H _ I h) λv s1 h1=>bV h1 λitv s2 h2=>?_) hs;obtain⟨it,L,tn,J,H2,e,I2,T,Q,f2,W,⟨m0,w0⟩,C⟩:=h2;subst e
 -- what P true of the z F through the loop
 have l:∀{H':Hp},(∀b∈L,H' b=none)->∀b∈L,qc X c H' b:=λhn b p=>⟨hn b p,(f2 b p).2⟩;refine codeAny_forLoop_any (λn s'=>∃i k H',Inv X c k H' s'/\tn i s'.heap/\(∀b∈L,H' b=none)/\W i n k H') ?_ m0 ⟨0,Z,H2,I2,Q,λb p=>(f2 b p).1,w0⟩;rintro n s3 ⟨i,j,M,I3,E,K,w3⟩;rcases C i n j M w3 with ⟨stop,qn⟩|⟨go,N,hN,step⟩
 ·refine S9 hp (bV (T.done X rfl rfl rfl hc i c s3 j M X.xe I3 (l K) E stop) λr s4 ⟨S,I4⟩=>?_);subst S;exact S4 ⟨j,M,I4,qn⟩
 · refine S9 hp (bV (T.item X rfl rfl rfl hc i c s3 j M X.xe I3 (l K) E go) λr s4 ⟨u,S,h4⟩=>?_);subst S;refine S9 hp (bV h4 λ_ s5 ⟨x,H5,I5,r5,y5,B,U⟩=>?_);have V:=I5.pinned (l U) (T.obj _ _ B);refine S9 hp (bV (hg _ s5 j H5 x u _ V r5 (step x H5 y5)) λ_ s6 ⟨O,H6,I6,q6⟩=>?_);refine S9 hp (bV (p _ s6 O H6 _ I6 q6) λf R y=>?_)
   have again:∀{a:St} {t:Hp},Inv X (c++nM L s5.heap) a t R->N a t->∃m,m<n/\∃i k H',Inv X c k H' R/\tn i R.heap/\(∀b∈L,H' b=none)/\W i m k H':=λ{a t} q G=>by
    obtain⟨m',hm,w7⟩:=hN a t G;refine⟨m',hm,i+1,a,t,q.unpinned,T.keep _ _ _ B λb p o e=>(q.pin (b,o) (RN _ (RN _ (ig p e)))).1,λb p=>?_,w7⟩;obtain⟨o,e,d⟩:=T.obj _ _ B b p;exact(q.pin (b,o) (RN _ (RN _ (ig p e)))).2.1
   cases f with
   |next=>obtain⟨a,t,q,G⟩:=y;exact again q G
   |cont=>obtain⟨a,t,q,G⟩:=y;exact again q G
   |brk=>obtain⟨a,t,q,y⟩:=y;exact⟨a,t,q.unpinned,y⟩
   |ret v=>obtain⟨x7,a,t,q,r7,y⟩:=y;exact⟨x7,a,t,q.unpinned,r7,y⟩
end
abbrev R2:=V->V->Hp->VK->Prop
def l6(X:Cx)(f:Value->Value->Sem Value)(r:R2):Prop:=
 ∀(a:L0) (s:Shared) (Z:St) (H:Hp) (x y:V) (v u:Value) (Q:VK),Inv X a Z H s->RelV x v->RelV y u->r x y H Q->
  wpAny (model X.prog X.w) X.A (f v u) (EP X a Z Q) X.xe s
def Ru(X:Cx)(f:Value->Sem Value)(r:V->Hp->VK->Prop):Prop:=
 ∀(a:L0) (s:Shared) (Z:St) (H:Hp) (x:V) (v:Value) (Q:VK),Inv X a Z H s->RelV x v->r x H Q->
  wpAny (model X.prog X.w) X.A (f v) (EP X a Z Q) X.xe s
def gy(X:Cx)(f:Value)(r:List V->Hp->VK->Prop):Prop:=
 ∀(a:L0) (s:Shared) (Z:St) (H:Hp) (xs:List V) (us:List Value) (Q:VK),Inv X a Z H s->Vals xs us->r xs H Q->
  wpAny (model X.prog X.w) X.A (call f us) (EP X a Z Q) X.xe s
def Bi(r:R2)(a tb:TE):TE:=λZ H Q=>a Z H λx L=>tb Z L λy b=>r x y b Q
def tUn(r:V->Hp->VK->Prop)(a:TE):TE:=λZ H Q=>a Z H λx L=>r x L Q
def rI(C:Int->Int->Prop)(g:Int->Int->V):R2:=λx y H Q=>∃i j,x=.int i/\y=.int j/\C i j/\Q (g i j) H
def ye(g:Int->Int->V):R2:=λx y H Q=>∃i j,x=.int i/\y=.int j/\Q (g i j) H
def rU(g:Int->V):V->Hp->VK->Prop:=λx H Q=>∃i,x=.int i/\Q (g i) H
section
variable{X:Cx}{a b c:Expr}{ta tb tc:TE}{pos:Pos}
theorem MY(p:PE X a ta)(o:PE X b tb){c:L0}{s:Shared}{Z:St}{H:Hp}{R:V->V->Hp->Prop}(I:Inv X c Z H s)
 (h:ta Z H λx L=>tb Z L λy d=>R x y d) {Q:L1} {f:Value->Value->Sem Value}
 (n:∀v u s2 x y d,Inv X c Z d s2->RelV x v->RelV y u->R x y d->wpAny (model X.prog X.w) X.A (f v u) Q X.xe s2):
 wpAny (model X.prog X.w) X.A (eval a X.env) (λv g=>wpAny (model X.prog X.w) X.A (eval b X.env) (λu e=>wpAny (model X.prog X.w) X.A (f v u) Q X.xe e) X.xe g) X.xe s:=by
 refine bV (p c s Z H _ I h) λv i ⟨x,L,r,k,m⟩=>?_;refine bV (o c i Z L _ r m) λu s2 ⟨y,d,q,j,l⟩=>?_;exact n v u s2 x y d q k j l
theorem aG{d:Operator}{r:R2}(g:l6 X (binaryOp d) r)(j:PE X a ta)(i:PE X b tb):PE X (.BinOp a d b pos) (Bi r ta tb):=by
 intro c s Z H Q I h;exact wpAny_BinOp (MY j i I h λv u s2 x y l k f e q=>g c s2 Z l x y v u Q k f e q)
theorem H9{c:UnaryOp}{r:V->Hp->VK->Prop}(g:Ru X (unaryOp c) r)(i:PE X a ta):PE X (.UnaryOp c a pos) (tUn r ta):=by
 intro b s Z H Q I h;exact UnaryOp_ (bV (i b s Z H _ I h) λv d ⟨x,L,j,e,f⟩=>g b d Z L x v Q j e f)
theorem Ox{f:Value->Value->Sem Value}{C:Int->Int->Prop}{g:Int->Int->Int}
 (rule:∀(i j:Int) (t u:Tok) (s:Shared) (Q:L1) (E:L1),C i j->Q (.int (g i j) s.toks) {s with toks:=s.toks+1}->wpAny (model X.prog X.w) X.A (f (.int i t) (.int j u)) Q E s):
 l6 X f (rI C λi j=>.int (g i j)):=by
 intro a s Z H x y v u Q I c b h;obtain⟨i,j,rfl,rfl,d,q⟩:=h;obtain⟨t,rfl⟩:=c;obtain⟨t',rfl⟩:=b;exact rule i j t t' s _ _ d ⟨.int (g i j),H,I.tok _,⟨_,rfl⟩,q⟩
theorem Ov{f:Value->Value->Sem Value}{g:Int->Int->Int}
 (rule:∀(i j:Int) (t u:Tok) (s:Shared) (Q:L1) (E:L1),Q (.int (g i j) s.toks) {s with toks:=s.toks+1}->wpAny (model X.prog X.w) X.A (f (.int i t) (.int j u)) Q E s):
 l6 X f (ye λi j=>.int (g i j)):=by
 intro a s Z H x y v u Q I c b h;obtain⟨i,j,rfl,rfl,q⟩:=h;obtain⟨t,rfl⟩:=c;obtain⟨t',rfl⟩:=b;exact rule i j t t' s _ _ ⟨.int (g i j),H,I.tok _,⟨_,rfl⟩,q⟩
theorem K7{f:Value->Value->Sem Value}{g:Int->Int->Bool}
 (rule:∀(i j:Int) (t u:Tok) (s:Shared) (Q:L1) (E:L1),Q (.bool (g i j)) s->wpAny (model X.prog X.w) X.A (f (.int i t) (.int j u)) Q E s):
 l6 X f (ye λi j=>.bl (g i j)):=by
 intro a s Z H x y v u Q I c b h;obtain⟨i,j,rfl,rfl,q⟩:=h;obtain⟨t,rfl⟩:=c;obtain⟨t',rfl⟩:=b;exact rule i j t t' s _ _ ⟨.bl (g i j),H,I,rfl,q⟩
def Np(i j:Int):Prop:=0<j/\j<1073741824
def No(i j:Int):Prop:=0<=j/\j<=1000000/\i.natAbs<2 ^ 64
def CMul(i j:Int):Prop:=(-(2 ^ 64)<i/\i<2 ^ 64)\/(-(2 ^ 64)<j/\j<2 ^ 64)
theorem CMul.ok{i j:Int}(h:CMul i j):IntMulOk i j:=by
 rcases h with ⟨b,a⟩|⟨b,a⟩
 ·exact .of_left (intBits_le_64 b a)
 ·exact .of_right (intBits_le_64 b a)
theorem v4(k:Nat):(0:Int)<=2 ^ k:=by
 rw[two_pow_cast];exact Int.natCast_nonneg _
theorem dW:l6 X (binaryOp .Add) (ye λi j=>.int (i+j)):=Ov λ_ _ _ _ _ _ _ q=>add_int q
theorem g9:l6 X (binaryOp .Sub) (ye λi j=>.int (i-j)):=Ov λ_ _ _ _ _ _ _ q=>sub_int q
theorem nR:l6 X (binaryOp .Mult) (rI CMul λi j=>.int (i*j)):=Ox λ_ _ _ _ _ _ _ a q=>mul_int q a.ok
theorem dU:l6 X (binaryOp .FloorDiv) (rI Np λi j=>.int (i / j)):=Ox λi j _ _ _ _ _ a q=>by
 have c:(0:Int)<j:=a.1;have b:j<1073741824:=a.2;exact floordiv_int (by omega) (by rw[Um i (by omega)];exact q) (.inl (PyProof.noPylong_small (by omega)))
theorem bv:l6 X (binaryOp .Mod) (rI (λ_ j=>0<j) λi j=>.int (i%j)):=Ox λi j _ _ _ _ _ a q=>by
 have b:(0:Int)<j:=a;exact mod_int' (by omega) (by rw[Int.fmod_eq_emod_of_nonneg i (by omega)];exact q)
theorem CQ:l6 X (binaryOp .Pow) (rI No λi j=>.int (i ^ j.toNat)):=Ox λ_ _ _ _ _ _ _ a q=>pow_int_small a.1 a.2.1 a.2.2 q
theorem K3:l6 X (binaryOp .RShift) (rI (λ_ j=>0<=j) λi j=>.int (i / 2 ^ j.toNat)):=Ox λi j _ _ _ _ _ a q=>
 rshift_int a (by rw[Um i (v4 _)];exact q)
theorem unI{f:Value->Sem Value}{g:Int->Int}
 (rule:∀(i:Int) (t:Tok) (s:Shared) (Q:L1) (E:L1),Q (.int (g i) s.toks) {s with toks:=s.toks+1}->wpAny (model X.prog X.w) X.A (f (.int i t)) Q E s):
 Ru X f (rU λi=>.int (g i)):=by
 intro a s Z H x v Q I b h;obtain⟨i,rfl,q⟩:=h;obtain⟨t,rfl⟩:=b;exact rule i t s _ _ ⟨.int (g i),H,I.tok _,⟨_,rfl⟩,q⟩
theorem AY:Ru X (unaryOp .USub) (rU λi=>.int (-i)):=unI λ_ _ _ _ _ q=>neg_int q
end
def JN:V->V->Bool
 |.non,.non=>true | .non,.int _=>true | .int _,.non=>true | .non,.bl _=>true | .bl _,.non=>true | .non,.str _=>true | .str _,.non=>true
 |.int _,.int _=>true | .bl _,.bl _=>true | .str _,.str _=>true | .byt _,.byt _=>true
 |.int _,.str _=>true | .str _,.int _=>true | .bl _,.str _=>true | .str _,.bl _=>true
 |_,_=>false
def rEq:R2:=λx y H Q=>JN x y=true/\Q (.bl (decide (x=y))) H
def rNe:R2:=λx y H Q=>JN x y=true/\Q (.bl (!decide (x=y))) H
theorem yM{i j:Int}:decide (V.int i=V.int j)=(i==j):=by
 rw[Ue];simp
theorem EX{i j:Bool}:decide (V.bl i=V.bl j)=(i==j):=by
 rw[Ue];simp
theorem yL{i j:Str}:decide (V.str i=V.str j)=(i==j):=by
 rw[Ue];simp
theorem yN{i j:Array UInt8}:decide (V.byt i=V.byt j)=(i.toList==j.toList):=by
 rw[Ue];cases i;cases j;simp
section
variable{X:Cx}{a b c:Expr}{ta tb tc:TE}{pos:Pos}
theorem bx{a:L0}{Z:St}{H:Hp}{s:Shared}{Q:VK}{k k':Bool}(I:Inv X a Z H s)(q:Q (.bl k) H)(e:k=k'):EP X a Z Q (.bool k') s:=by
 subst e;exact⟨.bl k,H,I,rfl,q⟩
theorem cV:l6 X (compareOp .Eq) rEq:=by
 intro d s Z H x y v u Q I c a h;obtain⟨b,q⟩:=h;cases x with
 |non=>
   cases c;cases y with
   |non=>cases a;exact PySem.EqNone.eq_none_none (bx I q (by simp))
   |bl j=>cases a;exact PySem.EqNone.eq_none_bool (bx I q (by simp))
   |int j=>obtain⟨t',rfl⟩:=a;exact PySem.EqNone.eq_none_int (bx I q (by simp))
   |str j=>obtain⟨t',rfl⟩:=a;exact PySem.EqNone.eq_none_str (bx I q (by simp))
   |_=>exact absurd (show false=true from b) RQ
 |bl i=>
   cases c;cases y with
   |non=>cases a;exact PySem.EqNone.eq_bool_none (bx I q (by simp))
   |bl j=>cases a;exact eq_bool (bx I q EX)
   |str j=>obtain⟨t',rfl⟩:=a;exact PySem.EqMixed.eq_bool_str (bx I q (by simp))
   |_=>exact absurd (show false=true from b) RQ
 |int i=>
   obtain⟨t,rfl⟩:=c;cases y with
   |non=>cases a;exact PySem.EqNone.eq_int_none (bx I q (by simp))
   |int j=>obtain⟨t',rfl⟩:=a;exact eq_int (bx I q yM)
   |str j=>obtain⟨t',rfl⟩:=a;exact PySem.EqMixed.eq_int_str (bx I q (by simp))
   |_=>exact absurd (show false=true from b) RQ
 |str i=>
   obtain⟨t,rfl⟩:=c;cases y with
   |non=>cases a;exact PySem.EqNone.eq_str_none (bx I q (by simp))
   |bl j=>cases a;exact PySem.EqMixed.eq_str_bool (bx I q (by simp))
   |int j=>obtain⟨t',rfl⟩:=a;exact PySem.EqMixed.eq_str_int (bx I q (by simp))
   |str j=>obtain⟨t',rfl⟩:=a;exact eq_str (bx I q yL)
   |_=>exact absurd (show false=true from b) RQ
 |byt i=>
   obtain⟨t,rfl⟩:=c;cases y with
   |byt j=>obtain⟨t',rfl⟩:=a;exact PySem.W.eq_bytes (bx I q yN)
   |_=>exact absurd (show false=true from b) RQ
 |_=>cases y<;>exact absurd (show false=true from b) RQ
theorem CS:l6 X (compareOp .NotEq) rNe:=by
 intro d s Z H x y v u Q I c a h;obtain⟨b,q⟩:=h;cases x with
 |non=>
   cases c;cases y with
   |non=>cases a;exact PySem.EqNone.ne_none_none (bx I q (by simp))
   |bl j=>cases a;exact PySem.EqNone.ne_none_bool (bx I q (by simp))
   |int j=>obtain⟨t',rfl⟩:=a;exact PySem.EqNone.ne_none_int (bx I q (by simp))
   |str j=>obtain⟨t',rfl⟩:=a;exact PySem.EqNone.ne_none_str (bx I q (by simp))
   |_=>exact absurd (show false=true from b) RQ
 |bl i=>
   cases c;cases y with
   |non=>cases a;exact PySem.EqNone.ne_bool_none (bx I q (by simp))
   |bl j=>cases a;exact ne_bool (bx I q (congrArg not EX))
   |str j=>obtain⟨t',rfl⟩:=a;exact PySem.EqMixed.ne_bool_str (bx I q (by simp))
   |_=>exact absurd (show false=true from b) RQ
 |int i=>
   obtain⟨t,rfl⟩:=c;cases y with
   |non=>cases a;exact PySem.EqNone.ne_int_none (bx I q (by simp))
   |int j=>obtain⟨t',rfl⟩:=a;exact ne_int (bx I q (congrArg not yM))
   |str j=>obtain⟨t',rfl⟩:=a;exact PySem.EqMixed.ne_int_str (bx I q (by simp))
   |_=>exact absurd (show false=true from b) RQ
 |str i=>
   obtain⟨t,rfl⟩:=c;cases y with
   |non=>cases a;exact PySem.EqNone.ne_str_none (bx I q (by simp))
   |bl j=>cases a;exact PySem.EqMixed.ne_str_bool (bx I q (by simp))
   |int j=>obtain⟨t',rfl⟩:=a;exact PySem.EqMixed.ne_str_int (bx I q (by simp))
   |str j=>obtain⟨t',rfl⟩:=a;exact ne_str (bx I q (congrArg not yL))
   |_=>exact absurd (show false=true from b) RQ
 |byt i=>
   obtain⟨t,rfl⟩:=c;cases y with
   |byt j=>obtain⟨t',rfl⟩:=a;exact PySem.W.ne_bytes (bx I q (congrArg not yN))
   |_=>exact absurd (show false=true from b) RQ
 |_=>cases y<;>exact absurd (show false=true from b) RQ
theorem qG:l6 X (compareOp .Lt) (ye λi j=>.bl (decide (i<j))):=K7 λ_ _ _ _ _ _ _ q=>lt_int q
theorem yo:l6 X (compareOp .Gt) (ye λi j=>.bl (decide (j<i))):=K7 λ_ _ _ _ _ _ _ q=>gt_int q
theorem Ou:l6 X (compareOp .GtE) (ye λi j=>.bl (decide (j<=i))):=K7 λ_ _ _ _ _ _ _ q=>ge_int q
theorem CT:l6 X (compareOp .Is) (λx y H Q=>y=.non/\Q (.bl (decide (x=.non))) H):=by
 intro b s Z H x y v u Q I a c h;obtain⟨rfl,q⟩:=h;cases c;refine is_none_gen (bx I q ?_)
 cases x <;> first
  |(cases a;rfl)
  |(obtain⟨t,rfl⟩:=a;rfl)
theorem a8(b:Expr){a:CmpOp}(h:a≠ .In:=by decide)(c:a≠ .NotIn:=by decide):behindInMarks a b=false:=by
 have e:(a == CmpOp.In)=false:=by cases a <;> first | rfl | exact absurd rfl h
 have d:(a == CmpOp.NotIn)=false:=by cases a <;> first | rfl | exact absurd rfl c
 cases b<;>simp[behindInMarks,e,d]
theorem Gp{d:CmpOp}{r:R2}(g:l6 X (compareOp d) r)(k:PE X a ta)(j:PE X b tb)(i:behindInMarks d b=false):PE X (.Compare a [d] [b] pos) (Bi r ta tb):=by
 intro c s Z H Q I h;exact wpAny_Compare1 (MY k j I h λv u s2 x y m l f e q=>g c s2 Z m x y v u Q l f e q) i
def Bf(t:TE):TT:=λZ H Q=>t Z H λx H'=>∃k,x=.bl k/\Q k H'
theorem aK{f:CmpOp}{r:R2}(p:l6 X (compareOp f) r)(w:PE X a ta)(t:PE X b tb)(q:behindInMarks f b=false):PT X (.Compare a [f] [b] pos) (Bf (Bi r ta tb)):=by
 intro d s Z H Q I h
 refine wpAny_isTrue_Compare1 (bV (w d s Z H _ I h) λv g ⟨x,L,C,l,o⟩=>bV (t d g Z L _ C o) λu s2 ⟨y,E,B,j,n⟩=>
  bV (p d s2 Z E x y v u _ B l j n) λc F ⟨z,D,A,i,k,e,m⟩=>?_) q
 subst e;cases i;exact Us ⟨D,A,m⟩
theorem r9:(sizeLine:Nat)<2 ^ 63:=by rw[T9];decide
theorem AW{x:V}{us:List Value}(r:Vals [x] us):∃u,us=[u]/\RelV x u:=by
 cases r with
 |cons b a=>cases a;exact⟨_,rfl,b⟩
theorem NC{x y:V}{us:List Value}(r:Vals [x,y] us):∃u a,us=[u,a]/\RelV x u/\RelV y a:=by
 cases r with
 |cons e d=>
   cases d with
   |cons c b=>cases b;exact⟨_,_,rfl,e,c⟩
end
structure ObjM (h:Heap) (x dx C:Addr) (mA:Str->Option Value):Prop where
 obj:h.get? x=some (PySem.W.instObj C dx)
 ns:h.Ns1 dx mA
 ne:dx≠x
theorem Ai{h:Heap}{dx:Addr}{d:Str->Option Value}(n:h.Ns1 dx d):∃c,h.get? dx=some c/\∀name,PySem.W.lookIn name c=some (d name):=by
 obtain⟨o,es,ep,g,hd,j,_,i⟩:=n;refine⟨o,g,λname=>?_⟩;have e:=i name;unfold nsFind findBy at e;rw[<-Array.find?_toList]at e;unfold PySem.W.lookIn;rw[hd];dsimp only;split
 ·rename_i y q;rw[q]at e;exact congrArg some e
 · rename_i q;rw[q]at e
   have a:es.toList.any (·.refKey)=false:=by
    rw[List.any_eq_false];intro y f;obtain⟨z,t,b⟩:=j y (Ua.mp f);simp[DictEntry.refKey,b]
   have k:¬ es.toList.any (·.refKey)=true:=by rw[a];exact RQ
   rw[RE k];exact congrArg some e
theorem ObjM.look{h:Heap}{x dx C:Addr}{b:Str->Option Value}(I:ObjM h x dx C b):∃a,PySem.W.InstAt h x (PySem.W.instObj C dx) C (some a)/\∀name,PySem.W.lookIn name a=some (b name):=
 let ⟨a,c,d⟩:=Ai I.ns
 ⟨a,⟨I.obj,rfl,rfl,c⟩,d⟩
section
variable{prog:Program}{w:World}{A:Around}{E:L1}{s:Shared}{K:F0}{x dx C f:Addr}{mA:Str->Option Value}{name:Str}{v:Value}
theorem GT{a:Bool}{Q:L1}(X:K.In s.heap)(I:ObjM s.heap x dx C mA)(f:PySem.W.plainGet K C name=true)(e:PySem.W.hasDictIn K C=true)
 (g:PySem.W.findIn K (.ref C) name=some none) (c:mA name=some v) (b:PySem.W.handedIn v=true) (h:Q v {s with toks:=s.toks+1}):
 wpAny (model prog w) A (getAttr (.ref x) name a) Q E s:=by
 obtain⟨i,J,d⟩:=I.look;exact PySem.W.get_value X J (Ug f).1 (PySem.W.findObj_own e g rfl (by rw[d,c])) b h
theorem EE{pl:Sem Bool}{Q:Value×List Value->Shared->Prop}(X:K.In s.heap)(I:ObjM s.heap x dx C mA)(a:PySem.W.plainGet K C name=true)
 (g:PySem.W.findIn K (.ref C) name=some (some (.ref f))) (d:PySem.W.isFn K (.ref f)=true) (c:mA name=none) (h:Q (.ref f,[.ref x]) s):
 wpAny (model prog w) A (getMethod (.ref x) name pl) Q E s:=by
 obtain⟨b,J,e⟩:=I.look;exact PySem.W.method_fn X J (Ug a).1 (Ug a).2 g (Tj.mp d) (by show(PySem.W.lookIn name b).map (·.isSome)=some false;rw[e,c];rfl) h
theorem F9{ns:List Str}{Q:Unit->Shared->Prop}(X:K.In s.heap)(I:ObjM s.heap x dx C mA)
 (m:PySem.W.findIn K (.ref C) "__setattr__" = some (some (.builtin "object.__setattr__"))) (hp:PySem.W.plainOver K C=true) (l:PySem.W.takerIn K C name=some none) (n:PySem.W.hasDictIn K C=true)
 (k:PySem.Within mA ns) (hsz:ns.length<=sizeLine)
 (h:∀h',ObjM h' x dx C (λy=>if y=name then some v else mA y)->Heap.SameBut dx s.heap h'->Q () {s with heap:=h',toks:=s.toks+2}):
 wpAny (model prog w) A (setAttr (.ref x) name v) Q E s:=by
 obtain⟨t,J,z⟩:=I.look;refine PySem.W.set_plain X J m (PySem.W.osa_open (s:={s with toks:=s.toks+1}) (r:=none) X J hp l λb=>?_);obtain⟨B,o,g⟩:=PySem.W.any_some n;have j:s.heap.get? x=some ⟨.ref C,some dx,.plain,#[]⟩:=I.obj;refine no (RP (no (no (wpAny_loadPart j (no (PySem.W.Looks.here (s:={s with toks:=s.toks+1}) (PySem.W.looks_clsIn X o) ?_))))));rw[g];refine RP (a:=some dx) (no (RP (no ?_)));refine wpAny_nsSet1 (s:={s with toks:=s.toks+1}) I.ns λh' d c=>?_;obtain⟨u,p,q,e,f,i⟩:=d.count (PySem.Within.cons name v k);refine no (wpAny_lookBehind e (by rw[f];exact pastItsLine_dict (Su i (by rw[RL];omega))) ?_);exact RP (h _ ⟨(c.2 _ (Th I.ne)).trans I.obj,d,I.ne⟩ c)
theorem DZ{R:Result->Shared->Prop}{vs:List Value}{a:List (Str×Value)}(X:K.In s.heap)(b:PySem.W.makesIn K C=true)
 (hi:PySem.W.findIn K (.ref C) "__init__" = some (some (.ref f))) (c:PySem.W.typeIn K (.ref f)=some (.type "function"))
 (h:codeAny (model prog w) (A.under (.builtin "type.__call__" ⟨.ref C::vs,a⟩)) (.call (.ref f) ⟨.ref (s.heap.objs.size+1)::vs,a⟩) (PySem.W.InitBack (s.heap.objs.size+1) R)
   {s with heap:=(s.heap.push PySem.W.emptyDict).push (PySem.W.instObj C s.heap.objs.size)}):
 codeAny (model prog w) A (.call (.ref C) ⟨vs,a⟩) R s:=by
 obtain⟨e,g,d,t,os⟩:=s;exact PySem.W.make_core (PySem.W.makes_of X b) (PySem.W.looks_findIn X hi) (λself=>PySem.W.bind_fn X self c) (.inl rfl) h
end
def fP(f:Str)(v:V):List (Str×V)->List (Str×V)
 |[]=>[(f,v)]
 |(g,x)::r=>if g=f then (g,v)::r else (g,x)::fP f v r
theorem mo(f g:Str)(v:V):∀fs:List (Str×V),(fP f v fs).lookup g=if g=f then some v else fs.lookup g
 | []=>by
   show List.lookup g [(f,v)]=_;by_cases h:g=f
   ·have a:(g==f)=true:=Tj.mpr h;simp only[List.lookup,a,RF h]
   ·have a:(g==f)=false:=Sr.mpr h;simp only[List.lookup,a,RE h]
 | (k,x)::r=>by
   have c:=mo f g v r;rw[show fP f v ((k,x)::r)=(if k=f then (k,v)::r else (k,x)::fP f v r) from rfl];by_cases b:k=f
   · rw[RF b];by_cases h:g=k
     ·have a:(g==k)=true:=Tj.mpr h;simp only[List.lookup,a,RF (h.trans b)]
     ·have a:(g==k)=false:=Sr.mpr h;simp only[List.lookup,a,RE (λe:g=f=>h (e.trans b.symm))]
   · rw[RE b];by_cases h:g=k
     ·have a:(g==k)=true:=Tj.mpr h;simp only[List.lookup,a,RE (λe:g=f=>b (h.symm.trans e))]
     ·have a:(g==k)=false:=Sr.mpr h;simp only[List.lookup,a];exact c
theorem lT(f:Str)(v:V):∀fs:List (Str×V),f∈(fP f v fs).map (·.1)/\∀g,g∈fs.map (·.1)->g∈(fP f v fs).map (·.1)
 |[]=>⟨by simp[fP],λg h=>by simp at h⟩
 | (k,x)::r=>by
   obtain⟨c,b⟩:=lT f v r;rw[show fP f v ((k,x)::r)=(if k=f then (k,v)::r else (k,x)::fP f v r) from rfl];by_cases a:k=f
   ·rw[RF a];subst a;exact⟨by simp,λg h=>by simpa using h⟩
   · rw[RE a];refine⟨?_,λg h=>?_⟩
     ·rw[RJ];exact on _ c
     · rw[RJ]at h ⊢;rcases RO.mp h with e|e
       ·exact RO.mpr (.inl e)
       ·exact on _ (b g e)
theorem mz(f:Str)(v:V):∀fs:List (Str×V),(fP f v fs).length<=fs.length+1
 |[]=>by simp[fP]
 | (k,x)::r=>by
   have b:=mz f v r;rw[show fP f v ((k,x)::r)=(if k=f then (k,v)::r else (k,x)::fP f v r) from rfl];by_cases a:k=f
   ·rw[RF a,RL,RL];omega
   ·rw[RE a,RL,RL];omega
theorem RelO.some_of{v:V}{o:Option Value}(r:RelO (some v) o):∃u,o=some u/\RelV v u:=by
 cases o with
 |none=>exact(show False from r).elim
 |some u=>exact⟨u,rfl,r⟩
theorem RelO.none_of{o:Option Value}(r:RelO none o):o=none:=by
 cases o with
 |none=>rfl
 |some u=>exact(show False from r).elim
theorem Av{v:V}{u:Value}(r:RelV v u):PySem.W.handedIn u=true:=by
 cases v with
 |non=>cases(show u=Value.none from r);rfl
 |bl b=>cases(show u=Value.bool b from r);rfl
 |int i=>obtain⟨t,e⟩:=(show ∃t,u=Value.int i t from r);cases e;rfl
 |str x=>obtain⟨t,e⟩:=(show ∃t,u=Value.str x t from r);cases e;rfl
 |byt b=>obtain⟨t,e⟩:=(show ∃t,u=Value.bytes b t from r);cases e;rfl
 |flt b=>obtain⟨t,e⟩:=(show ∃t,u=Value.float b t from r);cases e;rfl
 |ref a=>cases(show u=Value.ref a from r);rfl
 |ty n=>cases(show u=Value.type n from r);rfl
section
variable{P:Program}{w:World}{H H':Hp}{h h':Heap}{a C dx:Addr}{fs fs':List (Str×V)}
theorem sk(hok:HOk P w H h)(e:H a=some (.ins C dx fs)):∃b,ObjM h a dx C b/\(∀f,RelO (fs.lookup f) (b f))/\PySem.Within b (fs.map (·.1))/\fs.length<=1000/\H dx=some (.own a):=by
 obtain⟨d,z,ne,ob,b,n,r,q⟩:=(show ObjOk P w H h a (.ins C dx fs) from hok a _ e);exact⟨b,⟨ob,n,ne⟩,r,q,z,d⟩
end
structure Cls (K:F0) (C:Addr):Prop where
 pg:PySem.W.plainGet K C Str.empty=true
 hd:PySem.W.hasDictIn K C=true
 po:PySem.W.plainOver K C=true
 sa:PySem.W.findIn K (.ref C) "__setattr__" = some (some (.builtin "object.__setattr__"))
theorem Cls.get{K:F0}{C:Addr}(c:Cls K C)(f:Str):PySem.W.plainGet K C f=true:=c.pg
def NoAttr(K:F0)(C:Addr)(f:Str):Prop:=PySem.W.findIn K (.ref C) f=some none
theorem NoAttr.taker{K:F0}{C:Addr}{f:Str}(n:NoAttr K C f):PySem.W.takerIn K C f=some none:=by
 unfold PySem.W.takerIn;rw[show PySem.W.findIn K (.ref C) f=some none from n];rfl
structure Meth (K:F0) (C:Addr) (m:Str) (f:Addr):Prop where
 at_:PySem.W.findIn K (.ref C) m=some (some (.ref f))
 fn:PySem.W.isFn K (.ref f)=true
 kp:PySem.W.keepIn K (.ref f)=true
section
variable{X:Cx}{pins:L0}{Z:St}{H:Hp}{s:Shared}{a C dx:Addr}{fs:List (Str×V)}{f:Str}{v:V}{A:Around}{E:L1}
theorem xf{b:Bool}{Q:L1}(I:Inv X pins Z H s)(e:H a=some (.ins C dx fs))(c:Cls X.K C)(n:NoAttr X.K C f)(l:fs.lookup f=some v)
 (h:∀u s',Inv X pins Z H s'->RelV v u->Q u s'):wpAny (model X.prog X.w) A (getAttr (.ref a) f b) Q E s:=by
 obtain⟨g,O,r,_,_,_⟩:=sk I.hok e;obtain⟨u,i,d⟩:=RelO.some_of (v:=v) (o:=g f) (by rw[<-l];exact r f);exact GT I.kIn O (c.get f) c.hd n i (Av d) (h u _ (I.tok _) d)
theorem jX{m:Str}{g:Addr}{pl:Sem Bool}{Q:Value×List Value->Shared->Prop}(I:Inv X pins Z H s)(e:H a=some (.ins C dx fs))(c:Cls X.K C)(k:Meth X.K C m g)(l:fs.lookup m=none)
 (h:Q (.ref g,[.ref a]) s):wpAny (model X.prog X.w) A (getMethod (.ref a) m pl) Q E s:=by
 obtain⟨b,O,r,_,_,_⟩:=sk I.hok e;have d:b m=none:=RelO.none_of (by rw[<-l];exact r m);exact EE I.kIn O (c.get m) k.at_ k.fn d h
theorem wd{y:V}{u:Value}{Q:Unit->Shared->Prop}(I:Inv X pins Z H s)(e:H a=some (.ins C dx fs))(c:Cls X.K C)(n:NoAttr X.K C f)(D:fs.length<1000)(m:RelV y u)
 (h:∀s',Inv X pins Z (upd H a (.ins C dx (fP f y fs))) s'->Q () s'):wpAny (model X.prog X.w) A (setAttr (.ref a) f u) Q E s:=by
 obtain⟨j,O,r,i,_,k⟩:=sk I.hok e;have p:(fs.map (·.1)).length<=sizeLine:=by rw[RH,T9];omega
 refine F9 I.kIn O c.sa c.po n.taker c.hd i p λh' d l=>h _ ?_;have hd:∃o,h'.get? dx=some o:=let ⟨o,_,_,B,_⟩:=d.ns;⟨o,B⟩
 refine I.write (x:=a) (e:=dx) (by rw[e];exact True.intro) (.inr k) (λb q v z=>(l.2 b v).trans z) hd ?_;refine⟨by rw[aS O.ne];exact k,?_,O.ne,d.obj,_,d.ns,λg=>?_,λg t=>?_⟩
 ·have:=mz f y fs;omega
 · show RelO ((fP f y fs).lookup g) (if g=f then some u else j g);rw[mo];by_cases q:g=f
   ·rw[RF q,RF q];exact m
   ·rw[RE q,RE q];exact r g
 · by_cases q:g=f
   ·rw[q];exact(lT f y fs).1
   ·refine(lT f y fs).2 g (i g λz=>t ?_);show(if g=f then some u else j g)=none;rw[RE q];exact z
theorem Inv.made(I:Inv X pins Z H s):Inv X pins Z (upd (upd H s.heap.objs.size (.own (s.heap.objs.size+1))) (s.heap.objs.size+1) (.ins C s.heap.objs.size []))
 {s with heap:=(s.heap.push PySem.W.emptyDict).push (PySem.W.instObj C s.heap.objs.size)}:=by
 have c:(s.heap.push PySem.W.emptyDict).get? s.heap.objs.size=some PySem.W.emptyDict:=Sb s.heap rfl
 have h:((s.heap.push PySem.W.emptyDict).push (PySem.W.instObj C s.heap.objs.size)).get? (s.heap.objs.size+1)=some (PySem.W.instObj C s.heap.objs.size):=by
  have:=Sb (s.heap.push PySem.W.emptyDict) (o:=PySem.W.instObj C s.heap.objs.size) rfl
  rwa [Uo]at this
 have g:(s.heap.push PySem.W.emptyDict).Ns s.heap.objs.size (λ_=>none):=⟨PySem.W.emptyDict,#[],_,c,rfl,(λe f=>absurd f (by simp)),λ_=>rfl⟩;have i:=I.laid (a:=s.heap.objs.size) (o:=.own (s.heap.objs.size+1)) (h':=s.heap.push PySem.W.emptyDict) (t':=s.toks) (λb u q=>RM _ q) (RU _) ⟨_,c⟩;refine i.laid (a:=s.heap.objs.size+1) (o:=.ins C s.heap.objs.size []) (t':=s.toks) (λb u q=>RM _ q) (Nat.le_of_eq (Uo _ _)) ?_;have ne:s.heap.objs.size≠s.heap.objs.size+1:=Sc (T5 _);refine⟨by rw[aS ne,aY],SR _,ne,h,λ_=>none,(Heap.Ns1.of_empty g).at λo q=>RM _ q,λ_=>True.intro,λy d=>absurd rfl d⟩
theorem He{prog:Program}{w:World}{env:Env}{e:Expr}{f:Str}{pos:Pos}{s:Shared}{Q:L1}(b:attributeBase e f env (eval e env)=eval e env)
 (h:wpAny (model prog w) A (eval e env) (λo a=>wpAny (model prog w) A (getAttr o f true) Q E a) E s):wpAny (model prog w) A (eval (.Attribute e f pos) env) Q E s:=
 Attribute_any_ h (by rw[arm_eval_Attribute,b])
end
def zH(K:F0)(b:TE)(f:Str):TE:=λZ H Q=>b Z H λx L=>∃a C dx fs v,x=.ref a/\L a=some (.ins C dx fs)/\Cls K C/\NoAttr K C f/\fs.lookup f=some v/\Q v L
def Gf(K:F0)(d c:TE)(f:Str):TS:=λD Z H=>c Z H λy L=>d Z L λx b=>∃a C dx fs,x=.ref a/\b a=some (.ins C dx fs)/\Cls K C/\NoAttr K C f/\fs.length<1000/\
 D.nx Z (upd b a (.ins C dx (fP f y fs)))
section
variable{X:Cx}{o e value:Expr}{f:Str}{pos pos' tpos:Pos}{ta tv:TE}
theorem KM(i:PE X e ta)(j:attributeBase e f X.env (eval e X.env)=eval e X.env):PE X (.Attribute e f pos) (zH X.K ta f):=by
 intro b s Z H Q I h;refine He j (bV (i b s Z H _ I h) λu r ⟨x,L,o,d,a,C,dx,fs,v,ex,k,c,n,l,q⟩=>?_);subst ex;obtain rfl:u=Value.ref a:=d;exact xf o k c n l λp s2 m g=>⟨v,L,m,g,q⟩
theorem fS(m:PE X o ta)(j:PE X value tv)(k:swapsWith value (some (.Attribute o f pos')) pos.line X.env=pure false):PS X (.Assign [.Attribute o f pos'] value pos) (Gf X.K ta tv f):=by
 intro b s Z H D I h;refine plainObj_wpAny_Assign_Attribute (bV (j b s Z H _ I h) λu d ⟨y,L,v,e,q⟩=>bV (m b d Z L _ v q) λov s2 ⟨x,z,t,g,a,C,dx,fs,ex,p,c,n,l,i⟩=>?_) k;subst ex;obtain rfl:ov=Value.ref a:=g;exact wd t p c n l e λw r=>⟨Z,_,r,i⟩
end
structure Room (k:Nat) (A:Around):Prop where
 hd:A.handled=none
 dp:A.depth+3*k+5<recursionLimit
 un:A.units+16*k+200<cLine
theorem Room.mono{j k:Nat}{A:Around}(r:Room k A)(h:j<=k):Room j A:=⟨r.hd,by have:=r.dp;omega,by have:=r.un;omega⟩
theorem Room.deeper{k:Nat}{A:Around}(r:Room (k+1) A)(env:Env):Room k (A.deeper env):=
 ⟨r.hd,by have:=r.dp;show A.depth+1+3*k+5<_;omega,by have:=r.un;show A.units+3+16*k+200<_;omega⟩
theorem wV{A:Around}{C:Addr}{us:List Value}{a:List (Str×Value)}:(A.under (.builtin "type.__call__" ⟨.ref C::us,a⟩)).depth=A.depth+1:=by
 first | rfl | simp[Around.under,Code.weight,Code.isCreation,Code.isGuard,Code.isCaller,Code.frames,Code.isFrame,guardIds]
theorem wU{A:Around}{C:Addr}{us:List Value}{a:List (Str×Value)}:(A.under (.builtin "type.__call__" ⟨.ref C::us,a⟩)).units=A.units+1:=by
 first | rfl | simp[Around.under,Code.cUnits,Code.frames,Code.isFrame]
theorem Room.make{k:Nat}{A:Around}(r:Room (k+1) A)(C:Addr)(us:List Value)(a:List (Str×Value)):Room k (A.under (.builtin "type.__call__" ⟨.ref C::us,a⟩)):=
 ⟨r.hd,by have:=r.dp;rw[wV];omega,by have:=r.un;rw[wU];omega⟩
theorem Room.depth{k:Nat}{A:Around}(r:Room k A):A.depth<recursionLimit:=by have:=r.dp;omega
theorem Room.units{k:Nat}{A:Around}(r:Room k A):A.units+64<cLine:=by have:=r.un;omega
def dE:TA:=λ_ H Q=>Q [] H
def bS(b:TE)(a:TA):TA:=λZ H Q=>b Z H λx L=>a Z L λxs c=>Q (x::xs) c
section
variable{X:Cx}{e:Expr}{es:List Expr}{te:TE}{t:TA}{pos:Pos}
theorem ac:PA X [] dE:=λ_ _ _ _ H Q I h=>Ut ⟨[],H,I,.nil,h⟩
theorem aa(k:PE X e te)(j:PA X es t)(i:starEach (e::es) X.env=(false,eval e X.env)::starEach es X.env:=by rfl):PA X (e::es) (bS te t):=by
 intro pos a s Z H Q I h;rw[i];show wpAny _ _ (spliced ((false,eval e X.env)::backTo pos (starEach es X.env))) _ _ s;refine TR (bV (k a s Z H _ I h) λu b ⟨x,L,m,d,g⟩=>?_);exact bV (j pos a b Z L _ m g) λus s2 ⟨xs,n,l,c,f⟩=>⟨x::xs,n,l,.cons d c,f⟩
def JE(t:TA):TE:=λZ H Q=>t Z H λxs L=>xs.length<=sizeLine/\∀p,L p=none->Q (.ref p) (upd L p (.tup xs))
def FS(t:TA):TE:=λZ H Q=>t Z H λxs L=>xs.length<=sizeLine/\∀p,L p=none->Q (.ref p) (upd L p (.lst xs))
theorem cN{f}(h:PA X es t):PE X (.Tuple es f pos) (JE t):=by
 intro a s Z H Q I g;refine wpAny_Tuple_spliced (bV (h pos a s Z H _ I g) λus c ⟨xs,L,d,r,z,q⟩=>⟨by rw[<-r.length];exact z,?_⟩);have i:L c.heap.objs.size=none:=d.hok.fresh (RU _);refine⟨.ref c.heap.objs.size,upd L c.heap.objs.size (.tup xs),d.laid (t':=c.toks) (λb u e=>RM _ e) (RU _) ?_,rfl,q _ i⟩;exact⟨z,us,r,⟨_,Sb _ rfl,rfl,_,rfl⟩⟩
theorem bp(h:PA X es t):PE X (.List es pos) (FS t):=by
 intro a s Z H Q I f;refine wpAny_List_spliced (bV (h pos a s Z H _ I f) λus c ⟨xs,L,d,r,z,q⟩=>⟨by rw[<-r.length];exact z,?_⟩);have g:L c.heap.objs.size=none:=d.hok.fresh (RU _);refine⟨.ref c.heap.objs.size,upd L c.heap.objs.size (.lst xs),d.laid (t':=c.toks) (λb u e=>RM _ e) (RU _) ?_,rfl,q _ g⟩;exact⟨z,us,0,r,Sb _ rfl⟩
end
abbrev Sp:=List V->Hp->VK->XK->Prop
abbrev xK:=List Env->Hp->Shared->XK->Value->Shared->Prop
structure Env0 (P:Program) (w:World) (K:F0) (mg:Str->Option Value) (base:Heap) (A:Around) (outer:List Env) (s:Shared) (H:Hp):Prop where
 frames:A.frames=some outer
 mod:Mod K mg base
 bs:∀b o,base.get? b=some o->s.heap.get? b=some o/\H b=none
 bsz:base.objs.size<=s.heap.objs.size
 funs:s.heap.FunFrames base outer
 frf:∀b∈jq outer,H b=none
 hok:HOk P w H s.heap
 bare:AllBare s.gens
def CE(outer:List Env)(P:Program)(w:World)(H:Hp)(s:Shared)(Q:VK)(u:Value)(s':Shared):Prop:=
 ∃v H',s'.os=s.os/\AllBare s'.gens/\Un (jq outer) [] H H' s.heap s'.heap/\HOk P w H' s'.heap/\RelV v u/\Q v H'
def CR(CX:xK)(outer:List Env)(P:Program)(w:World)(H:Hp)(s:Shared)(Q:VK)(E:XK)(r:Result)(s':Shared):Prop:=
 match r with
 |.ok (.ret u)=>CE outer P w H s Q u s'
 |.ok _=>False
 |.error e=>CX outer H s E e s'
structure FnOk (P:Program) (w:World) (K:F0) (mg:Str->Option Value) (base:Heap) (CX:xK) (k:Nat) (f:Addr) (fd:FuncData) (ps:List Str) (sp:Sp):Prop where
 len:∀vs H Q E,sp vs H Q E->vs.length=ps.length
 run:∀(A:Around) (outer:List Env) (s:Shared) (H:Hp) (args:Args) (us:List Value) (vs:List V) (Q:VK) (E:XK),Room k A->Env0 P w K mg base A outer s H->BindsTo s fd args (ps.zip us)->Vals vs us->sp vs H Q E->
  codeAny (model P w) A (.call (.ref f) args) (CR CX outer P w H s Q E) s
theorem FnOk.imp{P:Program}{w:World}{K:F0}{mg:Str->Option Value}{base:Heap}{CX:xK}{k:Nat}{f:Addr}{fd:FuncData}{ps:List Str}{sp a:Sp}(F:FnOk P w K mg base CX k f fd ps sp)
 (h:∀vs H Q E,a vs H Q E->sp vs H Q E):FnOk P w K mg base CX k f fd ps a:=
 ⟨λvs H Q E q=>F.len vs H Q E (h _ _ _ _ q),λA outer s H args us vs Q E d e g b c=>F.run A outer s H args us vs Q E d e g b (h _ _ _ _ c)⟩
theorem Env0.make{P:Program}{w:World}{K:F0}{mg:Str->Option Value}{base:Heap}{A:Around}{outer:List Env}{s:Shared}{H:Hp}(e:Env0 P w K mg base A outer s H)(C:Addr)(us:List Value)(a:List (Str×Value)):
 Env0 P w K mg base (A.under (.builtin "type.__call__" ⟨.ref C::us,a⟩)) outer s H:=⟨by first | exact e.frames | (simpa [Around.under,Code.envs,Code.isFrame,pushEnvs] using e.frames),e.mod,e.bs,e.bsz,e.funs,e.frf,e.hok,e.bare⟩
section
variable{X:Cx}{pins:L0}{Z:St}{H:Hp}{s s':Shared}
theorem Inv.env0(I:Inv X pins Z H s):Env0 X.prog X.w X.K X.mg X.base X.A X.stack s H:=
 ⟨I.ok.frames,I.ok.mod,I.bs,Su I.ok.bsz I.sz,I.stack,I.stkFree,I.hok,I.bare⟩
theorem Inv.after{Q:VK}{u:Value}(I:Inv X pins Z H s)(h:CE X.stack X.prog X.w H s Q u s'):EP X pins Z Q u s':=by
 obtain⟨v,H',os,bare,un,hok,r,q⟩:=h;obtain⟨c,g,d,t,a⟩:=s';obtain rfl:a=s.os:=os;exact⟨v,H',I.call (h':=c) (g':=g) (d':=d) (t':=t) (ch:=[]) un hok bare (λb z=>absurd z (by simp)),r,q⟩
end
def l8(sp:Sp)(a:List V)(E:XK)(t:TA):TE:=λZ H Q=>t Z H λvs L=>sp (vs++a) L Q E
def kB(C:Addr)(m:Str)(sp:Sp)(b:List V)(E:XK)(c:TE)(t:TA):TE:=λZ H Q=>c Z H λx L=>∃a dx fs,x=.ref a/\L a=some (.ins C dx fs)/\fs.lookup m=none/\
 t Z L λvs d=>sp (x::(vs++b)) d Q E
def Bj(C:Addr)(sp:Sp)(a:List V)(E:XK)(t:TA):TE:=λZ H Q=>t Z H λvs L=>∀x dx,L x=none->L dx=none->dx≠x->
 sp (.ref x::(vs++a)) (upd (upd L dx (.own x)) x (.ins C dx [])) (λv b=>v=.non/\Q (.ref x) b) E
def Binds(K:F0)(fd:FuncData)(ps:List Str)(ds:List Value):Prop:=
 ∀(s:Shared) (us:List Value),K.In s.heap->(us++ds).length=ps.length->BindsTo s fd ⟨us,[]⟩ (ps.zip (us++ds))
theorem Binds.all{K:F0}{fd:FuncData}{ps:List Str}(h:∀us:List Value,us.length=ps.length->bindArgs fd ⟨us,[]⟩=pure (ps.zip us)):Binds K fd ps []:=λs us _ a=>by
 rw[Sk]at a ⊢;exact .of_eq (h us a)
def iA(CX:xK)(X:Cx)(E:XK):Prop:=∀(a:L0) (Z:St) (H:Hp) (s:Shared) (e:Value) (s':Shared),Inv X a Z H s->CX X.stack H s E e s'->X.xe e s'
section
variable{X:Cx}{CX:xK}{k:Nat}{f C:Addr}{fd:FuncData}{ps:List Str}{sp:Sp}{dvs:List V}{ds:List Value}{E:XK}{x m:Str}{p pos apos:Pos}{e o:Expr}{es:List Expr}{ta:TE}{t:TA}
theorem wj{a:L0}{Z:St}{H:Hp}{s:Shared}{Q:VK}{us:List Value}{vs:List V}(F:FnOk X.prog X.w X.K X.mg X.base CX k f fd ps sp)(g:Room k X.A)(j:Binds X.K fd ps ds)(hd:Vals dvs ds)(d:iA CX X E)
 (I:Inv X a Z H s) (r:Vals vs us) (h:sp (vs++dvs) H Q E):wpAny (model X.prog X.w) X.A (call (.ref f) us) (EP X a Z Q) X.xe s:=by
 have c:Vals (vs++dvs) (us++ds):=r.append hd;have i:(us++ds).length=ps.length:=by rw[<-c.length];exact F.len _ _ _ _ h
 refine wpAny_call (TY (F.run X.A X.stack s H ⟨us,[]⟩ (us++ds) (vs++dvs) Q E g I.env0 (j s us I.kIn i) c h) λr s' b=>?_);cases r with
 |error e=>exact d a Z H s e s' I b
 |ok l=>
   cases l with
   |ret u=>exact I.after b
   |next=>exact False.elim b
   |brk=>exact False.elim b
   |cont=>exact False.elim b
theorem bw(F:FnOk X.prog X.w X.K X.mg X.base CX k f fd ps sp)(i:Room k X.A)(m:Gl X x)(j:X.mg x=some (.ref f))(l:PySem.W.keepIn X.K (.ref f)=true)(o:Binds X.K fd ps ds)(hd:Vals dvs ds)(g:iA CX X E)
 (u:PA X (e::es) t) (c:(x==("__debug__" : Str))=false:=by decide) (n:starEach (e::es) X.env=(false,eval e X.env)::starEach es X.env:=by rfl) (b:(backTo pos (starEach es X.env)).any (·.1)=false:=by rfl):
 PE X (.Call (.Name x p) (e::es) [] pos) (l8 sp dvs E t):=by
 intro a s Z H Q I h;refine S8 (jm I m j ?_ c);refine Tk (h₀:=X.base) I.ok.mod.kin l (bV (u pos a s Z H _ I h) λus v ⟨vs,L,d,r,q⟩=>⟨d.kIn,?_⟩) n b;exact wj F i o hd g d r q
theorem aE{pl:Sem Bool}(G:PE X o ta)(c:Cls X.K C)(i:Meth X.K C m f)(F:FnOk X.prog X.w X.K X.mg X.base CX k f fd ps sp)(D:Room k X.A)(J:Binds X.K fd ps ds)(hd:Vals dvs ds)(z:iA CX X E)(M:PA X (e::es) t)
 (d:starEach (e::es) X.env=(false,eval e X.env)::starEach es X.env:=by rfl) (g:(backTo pos (starEach es X.env)).any (·.1)=false:=by rfl)
 (B:eval (.Call (.Attribute o m apos) (e::es) [] pos) X.env=(do
   let ov <-eval o X.env
   standAt apos.atName
   let (f,first) <-holding [ov] (getMethod ov m pl)
   callWith pos f first (backTo pos (starEach (e::es) X.env)) (backToKw pos (keywordEach [] X.env))):=by rfl):
 PE X (.Call (.Attribute o m apos) (e::es) [] pos) (kB C m sp dvs E ta t):=by
 intro b s Z H Q I h;refine T4 (pl:=pl) (bV (G b s Z H _ I h) λu p ⟨x,L,n,v,a,dx,fs,ex,N,l,q⟩=>?_) B;subst ex;obtain rfl:u=Value.ref a:=v;refine jX n N c i l ?_;refine Tk (first:=[.ref a]) (h₀:=X.base) I.ok.mod.kin i.kp (bV (M pos b p Z L _ n q) λus s2 ⟨vs,O,j,r,y⟩=>⟨j.kIn,?_⟩) d g;exact wj (us:=.ref a::us) (vs:=.ref a::vs) F D J hd z j (.cons rfl r) y
theorem gM{pl:Sem Bool}(p:PE X o ta)(c:Cls X.K C)(e:Meth X.K C m f)(F:FnOk X.prog X.w X.K X.mg X.base CX k f fd ps sp)(n:Room k X.A)(r:Binds X.K fd ps ds)(hd:Vals dvs ds)(i:iA CX X E)
 (j:eval (.Call (.Attribute o m apos) [] [] pos) X.env=(do
   let ov <-eval o X.env
   standAt apos.atName
   let (f,first) <-holding [ov] (getMethod ov m pl)
   callWith pos f first (backTo pos (starEach [] X.env)) (backToKw pos (keywordEach [] X.env))):=by rfl):
 PE X (.Call (.Attribute o m apos) [] [] pos) (kB C m sp dvs E ta dE):=by
 intro b s Z H Q I h;refine T4 (pl:=pl) (bV (p b s Z H _ I h) λu v ⟨x,L,d,g,a,dx,fs,ex,t,l,q⟩=>?_) j;subst ex;obtain rfl:u=Value.ref a:=g;refine jX d t c e l ?_;exact PySem.W.callWith_K0 (first:=[.ref a]) d.kIn e.kp (wj (us:=[.ref a]) (vs:=[.ref a]) F n r hd i d (.cons rfl .nil) q)
structure Mk (K:F0) (C f:Addr):Prop where
 makes:PySem.W.makesIn K C=true
 init:PySem.W.findIn K (.ref C) "__init__" = some (some (.ref f))
 fn:PySem.W.isFn K (.ref f)=true
 kp:PySem.W.keepIn K (.ref C)=true
theorem BN{a:L0}{Z:St}{H:Hp}{s:Shared}{Q:VK}{us:List Value}{vs:List V}(M:Mk X.K C f)(F:FnOk X.prog X.w X.K X.mg X.base CX k f fd ps sp)(m:Room (k+1) X.A)(o:Binds X.K fd ps ds)(hd:Vals dvs ds)
 (l:iA CX X E) (I:Inv X a Z H s) (r:Vals vs us)
 (h:∀x dx,H x=none->H dx=none->dx≠x->sp (.ref x::(vs++dvs)) (upd (upd H dx (.own x)) x (.ins C dx [])) (λv y=>v=.non/\Q (.ref x) y) E):
 wpAny (model X.prog X.w) X.A (call (.ref C) us) (EP X a Z Q) X.xe s:=by
 have g:=h (s.heap.objs.size+1) s.heap.objs.size (I.hok.fresh (Nat.le_succ _)) (I.hok.fresh (RU _)) (Sc (T5 _));have c:=Inv.made (C:=C) I;have d:Vals (V.ref (s.heap.objs.size+1)::(vs++dvs)) (Value.ref (s.heap.objs.size+1)::(us++ds)):=.cons rfl (r.append hd)
 have n:(Value.ref (s.heap.objs.size+1)::us++ds).length=ps.length:=by
  have e:=d.length;rw[F.len _ _ _ _ g]at e;exact e.symm
 refine wpAny_call (DZ (f:=f) I.kIn M.makes M.init (Tj.mp M.fn) (TY (F.run _ X.stack _ _ ⟨Value.ref (s.heap.objs.size+1)::us,[]⟩ (Value.ref (s.heap.objs.size+1)::(us++ds)) _ _ E (m.make C us [])
  (c.env0.make C us []) (o _ (Value.ref (s.heap.objs.size+1)::us) c.kIn n) d g) λr s' b=>?_))
 cases r with
 |error e=>exact l a Z _ _ e s' c b
 |ok p=>
   cases p with
   |ret u=>
     obtain⟨v,H',t,i,q,j⟩:=c.after b;subst q;exact⟨i,⟨V.ref (s.heap.objs.size+1),H',t,rfl,j⟩⟩
   |next=>exact False.elim b
   |brk=>exact False.elim b
   |cont=>exact False.elim b
theorem rR(M:Mk X.K C f)(F:FnOk X.prog X.w X.K X.mg X.base CX k f fd ps sp)(i:Room (k+1) X.A)(l:Gl X x)(j:X.mg x=some (.ref C))(n:Binds X.K fd ps ds)(hd:Vals dvs ds)(g:iA CX X E)
 (o:PA X (e::es) t) (c:(x==("__debug__" : Str))=false:=by decide) (m:starEach (e::es) X.env=(false,eval e X.env)::starEach es X.env:=by rfl) (b:(backTo pos (starEach es X.env)).any (·.1)=false:=by rfl):
 PE X (.Call (.Name x p) (e::es) [] pos) (Bj C sp dvs E t):=by
 intro a s Z H Q I h;refine S8 (jm I l j ?_ c);refine Tk (h₀:=X.base) I.ok.mod.kin M.kp (bV (o pos a s Z H _ I h) λus u ⟨vs,L,d,r,q⟩=>⟨d.kIn,?_⟩) m b;exact BN M F i n hd g d r q
end
def PK(X:Cx)(b:List Keyword)(t:TA):Prop:=
 ∀(pos:Pos) (a:L0) (s:Shared) (Z:St) (H:Hp) (Q:List V->Hp->Prop),Inv X a Z H s->t Z H Q->wpAny (model X.prog X.w) X.A (evalAll ((backToKw pos (keywordEach b X.env)).map (·.2))) (AP X a Z Q) X.xe s
section
variable{X:Cx}{CX:xK}{k:Nat}{f C:Addr}{fd:FuncData}{ps ks:List Str}{sp:Sp}{E:XK}{x m:Str}{p pos apos kpos:Pos}{e o:Expr}{es:List Expr}{kws:List Keyword}{te ta:TE}{t tk:TA}{nm:Option Str}
theorem CF:PK X [] dE:=λ_ _ _ _ H Q I h=>wpAny_evalAll_nil ⟨[],H,I,.nil,h⟩
theorem yj(j:PE X e te)(i:PK X kws t):PK X (⟨nm,e,kpos⟩::kws) (bS te t):=by
 intro pos a s Z H Q I h;show wpAny _ _ (evalAll ((do let v <-eval e X.env;standAt pos;pure v)::(backToKw pos (keywordEach kws X.env)).map (·.2))) _ _ s;refine wpAny_evalAll_cons (no (bV (j a s Z H _ I h) λu b ⟨x,L,l,d,g⟩=>no (Uy (RP ?_))));exact bV (i pos a b Z L _ l g) λus s2 ⟨xs,m,k,c,f⟩=>⟨x::xs,m,k,.cons d c,f⟩
variable{g:List Value->List Value->List Value}{gV:List V->List V->List V}
end
structure FnScope (N P:List Str) (sc:Scope):Prop where
 kind:sc.kind=.function
 co:sc.isCoroutine=false
 gen:sc.isGenerator=false
 nd:N.Nodup
 pre:N.take P.length=P
 par:∀x∈P,sc.names.lookup x=some .local\/sc.names.lookup x=some .cell
 nofree:∀y∈sc.names,y.2≠ .free
theorem q8{kindOf:Str->Option NameKind}{x:Str}:∀{binds:List (Str×Value)} {m:Str->Option Value},(∀v,(x,v)∉binds)->bindL kindOf binds m x=m x
 |[],_,_=>rfl
 | (n,v)::r,m,h=>by
   unfold bindL;rw[q8 λw a=>h w (List.mem_cons_of_mem _ a)];split
   · have:x≠n:=by rintro rfl;exact h v RG
     simp[this]
   ·rfl
theorem re{kindOf:Str->Option NameKind}{x:Str}:∀{binds:List (Str×Value)} {m:Str->Option Value},(∀v,(x,v)∉binds)->bindC kindOf binds m x=m x
 |[],_,_=>rfl
 | (n,v)::r,m,h=>by
   unfold bindC;rw[re λw a=>h w (List.mem_cons_of_mem _ a)];split
   ·rfl
   · have:x≠n:=by rintro rfl;exact h v RG
     simp[this]
theorem q9{kindOf:Str->Option NameKind}{x:Str}{v:Value}:∀{P:List Str} {vs:List Value} {i:Nat} {m:Str->Option Value},P.Nodup->P[i]?=some x->vs[i]?=some v->kindOf x=some .local->
 bindL kindOf (P.zip vs) m x=some v
 |[],_,_,_,_,h,_,_=>by simp at h
 |_::_,[],_,_,_,_,h,_=>by simp at h
 | p::P,w::vs,0,m,nd,b,a,c=>by
   simp at b a;subst b;subst a;show bindL kindOf ((p,w)::P.zip vs) m p=_;unfold bindL;rw[q8 λv d=>(List.nodup_cons.mp nd).1 (List.of_mem_zip d).1,if_pos c];simp
 | p::P,w::vs,i+1,m,nd,b,a,c=>by
   show bindL kindOf ((p,w)::P.zip vs) m x=_;unfold bindL;exact q9 (i:=i) (List.nodup_cons.mp nd).2 (by simpa using b) (by simpa using a) c
theorem rh{kindOf:Str->Option NameKind}{x:Str}{v:Value}:∀{P:List Str} {vs:List Value} {i:Nat} {m:Str->Option Value},P.Nodup->P[i]?=some x->vs[i]?=some v->kindOf x≠some .local->
 bindC kindOf (P.zip vs) m x=some v
 |[],_,_,_,_,h,_,_=>by simp at h
 |_::_,[],_,_,_,_,h,_=>by simp at h
 | p::P,w::vs,0,m,nd,b,a,c=>by
   simp at b a;subst b;subst a;show bindC kindOf ((p,w)::P.zip vs) m p=_;unfold bindC;rw[re λv d=>(List.nodup_cons.mp nd).1 (List.of_mem_zip d).1,if_neg c];simp
 | p::P,w::vs,i+1,m,nd,b,a,c=>by
   show bindC kindOf ((p,w)::P.zip vs) m x=_;unfold bindC;exact rh (i:=i) (List.nodup_cons.mp nd).2 (by simpa using b) (by simpa using a) c
def gf(N:List Str)(vs:List V):St:=vs.map some++List.replicate (N.length-vs.length) none
def oU(CX:xK)(P:Program)(w:World)(K:F0)(mg:Str->Option Value)(base:Heap)(N:List Str)(qual:Str)(scope:Scope)(f:Addr)(b:Value)(A:Around)(outer:List Env)(s:Shared)(H:Hp)(E:XK):Cx where
 prog:=P
 w:=w
 K:=K
 mg:=mg
 base:=base
 A:=A.deeper (envOfC qual scope s.heap.objs.size f b)
 N:=N
 s₀:=s
 H₀:=H
 env:=envOfC qual scope s.heap.objs.size f b
 outer:=outer
 stack:=envOfC qual scope s.heap.objs.size f b::outer
 ex:=[]
 calm:=true
 fn:=λ_=>true
 pn:=[]
 xe:=λe s'=>wpAny (model P w) (A.deeper (envOfC qual scope s.heap.objs.size f b)) («leaving» (envOfC qual scope s.heap.objs.size f b) e) (λ_ a=>CX outer H s E e a) (λc a=>CX outer H s E c a) s'
theorem vN{sc:Scope}{n:Nat}{x:Str}(h:sc.names.lookup x=some .cell):∃c,(cellsFrom n sc.names []).lookup x=some c:=by
 have q:=UH sc.names n [] (.inl h);exact Tb.mp q
theorem Aq{CX:xK}{P:Program}{w:World}{K:F0}{mg:Str->Option Value}{base:Heap}{N ps:List Str}{qual:Str}{scope:Scope}{f:Addr}{t:Value}{A:Around}{outer:List Env}{s B:Shared}{H:Hp}{E:XK}{us:List Value}{vs:List V}
 (S:FnScope N ps scope) (hd:A.handled=none) (g:Env0 P w K mg base A outer s H) (L:vs.length=ps.length) (r:Vals vs us)
 (x:InCallC s s.heap.objs.size (bindL (envOfC qual scope s.heap.objs.size f t).kindOf (ps.zip us) λ_=>none) (cellsFrom (s.heap.objs.size+1) scope.names []) (bindC (envOfC qual scope s.heap.objs.size f t).kindOf (ps.zip us) λ_=>none) B):
 Inv (oU CX P w K mg base N qual scope f t A outer s H E) [] (gf N vs) H B:=by
 have G:ps.length<=N.length:=by have:=congrArg List.length S.pre;rw[List.length_take]at this;omega
 obtain⟨o,J,rfl,D⟩:=x.done;have j:∀b:Addr,b∉(oU CX P w K mg base N qual scope f t A outer s H E).ex:=λb z=>absurd (show b∈([]:List Addr) from z) (by simp)
 refine⟨⟨g.mod,S.kind,rfl,rfl,RU _,λy z c o d=>?_,λy l=>?_,λy c _ h=>?_,λ_=>hd,Around.frames_deeper g.frames,.inr ⟨rfl,rfl⟩,λb z=>absurd z (j b),g.bs,g.bsz,λb _ _=>j b,λb z=>absurd z (j b),g.funs,g.frf⟩,
  rfl,g.bare,Un.kept D,⟨_,x.toInCall.ns,λi y v o d M=>?_⟩,λy c h=>⟨_,x.cell y c h⟩,g.hok.fresh (RU _),λy c h=>?_,λp hp=>absurd (show p∈([]:L0) from hp) (by simp),g.hok.kept D,?_⟩
 ·exact name_of_addr x.apart (S5 o) (S5 d)
 · have l:scope.names.lookup y=some .cell\/scope.names.lookup y=some .free:=l;rcases l with l|l
   ·exact vN l
   ·exact absurd rfl (S.nofree _ (S5 l))
 ·exact SF (x.above y c (S5 h))
 · have hi:i<vs.length:=by
    unfold gf at d;by_cases hi:i<vs.length
    ·exact hi
    ·rw[Tx (by simpa using hi)]at d;rw[TW]at d;split at d<;>cases d
   have I:vs[i]?=some v:=by
    unfold gf at d;rw[List.getElem?_append_left (by simpa using hi),List.getElem?_map]at d;cases e:vs[i]? with
    |none=>rw[e]at d;cases d
    |some a=>rw[e]at d;cases d;rfl
   obtain⟨u,C,F⟩:=r.get I
   have hp:ps[i]?=some y:=by
    rw[<-S.pre,List.getElem?_take_of_lt (by omega)];exact o
   have m:ps.Nodup:=by rw[<-S.pre];exact S.nd.sublist (List.take_sublist _ _)
   refine⟨u,F,?_⟩;rcases S.par y (Tz hp) with k|k
   ·exact .inl ⟨k,q9 m hp C k⟩
   ·obtain⟨c,e⟩:=vN (n:=s.heap.objs.size+1) k;refine .inr ⟨.inl k,c,e,?_⟩;have q:=x.cell y c e;rw[rh m hp C (by show scope.names.lookup y≠_;rw[k];decide)]at q;exact q
 ·exact g.hok.fresh (SF (x.above y c (S5 h)))
 ·unfold gf;show _=N.length;rw[List.length_append,List.length_map,List.length_replicate];omega
theorem fn_of{CX:xK}{P:Program}{w:World}{K:F0}{mg:Str->Option Value}{base:Heap}{k:Nat}{f:Addr}{name qual:Str}{c:Arguments}{body:List Stmt}{scope:Scope}{L kV p pm a ct oc:Value}{an O:Option Addr}
 {B:Array (Option Value)} {N ps:List Str} {sp:Sp} (lk:K.lookup f=some ⟨oc,O,.func (PySem.W.fnOf name qual c body scope L kV p pm an a ct),B⟩) (F:PySem.W.codeIn K a qual=true) (S:FnScope N ps scope)
 (len:∀vs H Q E,sp vs H Q E->vs.length=ps.length)
 (h:∀(A:Around) (outer:List Env) (s:Shared) (H:Hp) (vs:List V) (Q:VK) (E:XK),Room k (A.deeper (envOfC qual scope s.heap.objs.size f a))->sp vs H Q E->
   ∃t,Fw (oU CX P w K mg base N qual scope f a A outer s H E) body t/\t {nx:=λ_ H'=>Q .non H',rt:=Q} (gf N vs) H):
 FnOk P w K mg base CX (k+1) f (PySem.W.fnOf name qual c body scope L kV p pm an a ct) ps sp:=by
 refine⟨len,λA outer s H args us vs Q E D m Z r j=>?_⟩;have X:=len _ _ _ _ j;have M:K.In s.heap:=m.mod.kin.keeps λb o e=>(m.bs b o e).1;have C:s.heap.NoLimit:=m.mod.nolimit.keeps λb o e=>(m.bs b o e).1
 have g:∀y∈ps.zip us,scope.names.lookup y.1=some .local\/(scope.names.lookup y.1=some .cell/\((cellsFrom (s.heap.objs.size+1) scope.names []).lookup y.1).isSome=true):=λ⟨n,v⟩ R=>by
  rcases S.par n (List.of_mem_zip R).1 with q|q
  ·exact .inl q
  ·exact .inr ⟨q,UH _ _ _ (.inl q)⟩
 refine codeAny_call_function D.depth (M _ _ lk) rfl S.co S.gen rfl (PySem.W.codeRec_of M F) (Z _ _ _ _ ?_);refine wpAny_newFunctionEnv_cells S.kind g λenv Y G x=>?_;subst Y;refine⟨C.keeps x.toInCall.keep,codeAny_func ?_⟩;obtain⟨t,T,U⟩:=h A outer s H vs Q E (D.deeper _) j;have I:Inv (oU CX P w K mg base N qual scope f a A outer s H E) [] (gf N vs) H G:=Aq S D.hd m X r x;refine S3 (T [] G (gf N vs) H _ I U) (λfl s' i=>?_) λe s' i=>i
 have l:∀{d:St} {H':Hp} {v:V} {u:Value},Inv (oU CX P w K mg base N qual scope f a A outer s H E) [] d H' s'->RelV v u->Q v H'->CE outer P w H s Q u s':=
  λ{d H' v u} J z q=>⟨v,H',J.os,J.bare,J.base,J.hok,z,q⟩
 cases fl with
 |ret u=>
   obtain⟨v,d,H',J,z,q⟩:=i;exact l J z q
 |next=>
   obtain⟨d,H',J,q⟩:=i;exact l (v:=V.non) (u:=Value.none) J rfl q
 |brk=>
   obtain⟨_,_,_,q⟩:=i;exact False.elim q
 |cont=>
   obtain⟨_,_,_,q⟩:=i;exact False.elim q
section
variable{X:Cx}{x:Str}{p pos:Pos}{e:Expr}{es:List Expr}{t:TA}{id T:String}{r:List V->Hp->VK->Prop}
def FG(r:List V->Hp->VK->Prop)(t:TA):TE:=λZ H Q=>t Z H λvs L=>r vs L Q
theorem cU(n:gy X (.builtin id) r)(l:Gl X x)(k:X.mg x=none)(i:bootBuiltins x=some (.builtin id))(o:PA X (e::es) t)(j:x ≠ "__name__" := by decide)(c:(x==("__debug__" : Str))=false:=by decide)
 (m:starEach (e::es) X.env=(false,eval e X.env)::starEach es X.env:=by rfl) (b:(backTo pos (starEach es X.env)).any (·.1)=false:=by rfl):PE X (.Call (.Name x p) (e::es) [] pos) (FG r t):=by
 intro a s Z H Q I h;refine S8 (lS I l k i ?_ j c);exact PyProof.Rows.callWith_builtin1 (bV (o pos a s Z H _ I h) λus d ⟨vs,L,q,f,g⟩=>n a d Z L vs us Q q f g) m b
theorem ci(n:gy X (.type T) r)(l:Gl X x)(k:X.mg x=none)(i:bootBuiltins x=some (.type T))(o:PA X (e::es) t)(j:x ≠ "__name__" := by decide)(c:(x==("__debug__" : Str))=false:=by decide)
 (m:starEach (e::es) X.env=(false,eval e X.env)::starEach es X.env:=by rfl) (b:(backTo pos (starEach es X.env)).any (·.1)=false:=by rfl):PE X (.Call (.Name x p) (e::es) [] pos) (FG r t):=by
 intro a s Z H Q I h;refine S8 (lS I l k i ?_ j c);exact Tv (bV (o pos a s Z H _ I h) λus d ⟨vs,L,q,f,g⟩=>n a d Z L vs us Q q f g) m b
end
section
variable{X:Type}[DecidableEq X]
def jL(a:List (X×V))(k:X):Option V:=(a.find? λb=>decide (b.1=k)).map (·.2)
def fH(a:List (X×V))(k:X)(v:V):List (X×V):=
 if (a.any λb=>decide (b.1=k))=true then a.map (λb=>if b.1=k then (b.1,v) else b) else a++[(k,v)]
theorem AX{k:X}:jL ([]:List (X×V)) k=none:=rfl
theorem ky{p:X×V}{r:List (X×V)}{k:X}(e:p.1=k):jL (p::r) k=some p.2:=by simp[jL,Tr,e]
theorem kA{p:X×V}{r:List (X×V)}{k:X}(e:¬ p.1=k):jL (p::r) k=jL r k:=by simp[jL,Tr,e]
theorem t0(k:X):∀a:List (X×V),(a.any λb=>decide (b.1=k))=(jL a k).isSome
 |[]=>rfl
 | p::r=>by
   rw[Vf];by_cases e:p.1=k
   ·simp only[ky e,SX e,Bool.true_or,Option.isSome_some]
   ·rw[kA e,SC e,Bool.false_or];exact t0 k r
theorem my(a:List (X×V))(k:X)(v:V):(fH a k v).length<=a.length+1:=by
 unfold fH;split
 ·rw[RH];omega
 ·rw[RK,RL,List.length_nil];omega
theorem RelO.isSome_eq{o:Option V}{u:Option Value}(r:RelO o u):o.isSome=u.isSome:=by
 cases o with
 | none=>cases u with
   |none=>rfl
   |some _=>exact(show False from r).elim
 | some _=>cases u with
   |none=>exact(show False from r).elim
   |some _=>rfl
theorem RelO.getD{o:Option V}{u:Option Value}{d:V}{d':Value}(r:RelO o u)(rd:RelV d d'):RelV (o.getD d) (u.getD d'):=by
 cases o with
 | none=>cases u with
   |none=>exact rd
   |some _=>exact(show False from r).elim
 | some _=>cases u with
   |none=>exact(show False from r).elim
   |some _=>exact r
theorem KV.val{a:List (X×V)}{vs:List (X×Value)}(r:KV a vs)(k:X):RelO (jL a k) (valueAt vs k):=by
 unfold KV at r
 induction r with
 |nil=>exact True.intro
 |@cons p q ps c h t g=>
   obtain⟨f,i⟩:=h;by_cases e:p.1=k
   · have d:q.1=k:=f.symm.trans e;have b:valueAt (q::c) k=some q.2:=by simp[valueAt,Tr,d]
     rw[ky e,b];exact i
   · have d:¬ q.1=k:=λz=>e (f.trans z);have b:valueAt (q::c) k=valueAt c k:=by simp[valueAt,Tr,d]
     rw[kA e,b];exact g
theorem KV.any{a:List (X×V)}{vs:List (X×Value)}(r:KV a vs)(k:X):(a.any λb=>decide (b.1=k))=vs.any λb=>decide (b.1=k):=by
 unfold KV at r
 induction r with
 |nil=>rfl
 |cons h t c=>rw[Vf,Vf,c,h.1]
theorem KV.repl{b:List (X×V)}{vs:List (X×Value)}(r:KV b vs)(k:X){y:V}{u:Value}(d:RelV y u):
 KV (b.map λa=>if a.1=k then (a.1,y) else a) (vs.map λa=>if a.1=k then (a.1,u) else a):=by
 unfold KV at r ⊢
 induction r with
 |nil=>exact .nil
 |@cons p q ps i h t f=>
   rw[RJ,RJ];refine .cons ?_ f;obtain⟨c,g⟩:=h;by_cases e:p.1=k
   ·rw[RF e,RF (c.symm.trans e)];exact⟨c,d⟩
   ·rw[RE e,RE (λz=>e (c.trans z))];exact⟨c,g⟩
theorem KV.put{a:List (X×V)}{vs:List (X×Value)}(r:KV a vs)(k:X){y:V}{u:Value}(b:RelV y u):KV (fH a k y) (stored vs k u):=by
 unfold fH stored;rw[r.any k];by_cases e:(vs.any λc=>decide (c.1=k))=true
 ·rw[RF e,RF e];exact r.repl k b
 ·rw[RE e,RE e];exact Paired.snoc r ⟨rfl,b⟩
theorem KV.length{a:List (X×V)}{vs:List (X×Value)}(r:KV a vs):a.length=vs.length:=TQ r
end
theorem qO{P:Program}{w:World}{k:bJ}{u:Value}(r:RelV (kV k) u):(bz P w).is k u=true:=by
 cases k with
 |inl i=>obtain⟨t,e⟩:=(show ∃t,u=Value.int i t from r);subst e;exact uz P w i t
 |inr x=>obtain⟨t,e⟩:=(show ∃t,u=Value.str x t from r);subst e;exact uy P w x t
theorem qQ{P:Program}{w:World}:∀{ks:List bJ} {us:List Value},Vals (ks.map kV) us->ItemsAre (bz P w) ks us
 |[],_,r=>by rw[SM]at r;cases r;exact .nil
 | k::ks,_,r=>by
   rw[RJ]at r;cases r with
   |cons h t=>exact .cons (qO h) (qQ t)
abbrev KT(H:Hp):List (List bJ×V)->List (List bJ×Addr×Value)->Prop:=Paired λp q=>p.1=q.1/\H q.2.1=some (.tup (p.1.map kV))/\RelV p.2 q.2.2
theorem KT.val{H:Hp}{a:List (List bJ×V)}{xs:List (List bJ×Addr×Value)}(r:KT H a xs)(k:List bJ):RelO (jL a k) ((atKey xs k).map (·.2)):=by
 induction r with
 |nil=>exact True.intro
 |@cons p q ps c h t g=>
   obtain⟨f,_,i⟩:=h;by_cases e:p.1=k
   · have d:q.1=k:=f.symm.trans e;have b:atKey (q::c) k=some q.2:=by simp[atKey,Tr,d]
     rw[ky e,b];exact i
   · have d:¬ q.1=k:=λz=>e (f.trans z);have b:atKey (q::c) k=atKey c k:=by simp[atKey,Tr,d]
     rw[kA e,b];exact g
theorem KT.repl{H:Hp}{a:List (List bJ×V)}{xs:List (List bJ×Addr×Value)}(r:KT H a xs)(k:List bJ){y:V}{u:Value}(f:RelV y u):
 KT H (a.map λc=>if c.1=k then (c.1,y) else c) (xs.map (putAt k u)):=by
 induction r with
 |nil=>exact .nil
 |@cons p q ps j h t g=>
   rw[List.map_cons,List.map_cons];refine .cons ?_ g;obtain⟨b,d,i⟩:=h;unfold putAt;by_cases e:p.1=k
   ·rw[RF e,RF (b.symm.trans e)];exact⟨b,d,f⟩
   ·rw[RE e,RE (λz=>e (b.trans z))];exact⟨b,d,i⟩
theorem KT.put{H:Hp}{a:List (List bJ×V)}{xs:List (List bJ×Addr×Value)}(r:KT H a xs)(k:List bJ){b:Addr}{y:V}{u:Value}(f:H b=some (.tup (k.map kV)))(c:RelV y u):
 KT H (fH a k y) (storedH xs k b u):=by
 have e:(a.any λd=>decide (d.1=k))=(atKey xs k).isSome:=by
  rw[t0,(r.val k).isSome_eq,Option.isSome_map]
 unfold fH storedH;rw[e];by_cases q:(atKey xs k).isSome=true
 ·rw[RF q,RF q];exact r.repl k c
 ·rw[RE q,RE q];exact Paired.snoc r ⟨rfl,f,c⟩
theorem KT.keeps{H H':Hp}{a:List (List bJ×V)}{xs:List (List bJ×Addr×Value)}(r:KT H a xs)(c:∀b ys,H b=some (.tup ys)->H' b=some (.tup ys)):KT H' a xs:=
 Paired.mapP r λ_ _ z=>⟨z.1,c _ _ z.2.1,z.2.2⟩
section
variable{P:Program}{w:World}{H:Hp}{h:Heap}{a:Addr}
theorem HX{u:HO}(ok:HOk P w H h)(e:Rd H a u):ObjOk P w H h a u:=e.ok ok
theorem oQ{b:List (bJ×V)}(ok:HOk P w H h)(e:Rd H a (.dK b)):b.length<=sizeLine/\(a==sysModules)=false/\∃vs,KV b vs/\h.DictOf (bz P w) a vs:=
 show ObjOk P w H h a (.dK b) from HX ok e
theorem PQ{b:List (bJ×V)}(ok:HOk P w H h)(e:H a=some (.dK b)):b.length<=sizeLine/\(a==sysModules)=false/\∃vs,KV b vs/\h.DictOf (bz P w) a vs:=oQ ok (.inl e)
theorem jW{ks:List bJ}(ok:HOk P w H h)(e:H a=some (.tup (ks.map kV))):(tupleKind (bz P w)).is h ks a:=by
 obtain⟨_,its,r,o,d,c,n,b⟩:=(show ObjOk P w H h a (.tup (ks.map kV)) from ok a _ e);exact⟨o,its.toArray,n,d,c,b,by simpa using qQ r⟩
theorem oP{b:List (List bJ×V)}(ok:HOk P w H h)(e:Rd H a (.dT b)):b.length<=sizeLine/\(a==sysModules)=false/\
 ∃xs,KT H b xs/\h.DictOfH (tupleKind (bz P w)) a xs:=by
 obtain⟨z,y,xs,r,o,es,ep,n,k,j,i,g⟩:=(show ObjOk P w H h a (.dT b) from HX ok e);refine⟨z,y,xs,r,o,es,ep,n,k,j,i,λx c=>?_,g⟩
 have all:∀{l:List (List bJ×V)} {m:List (List bJ×Addr×Value)},KT H l m->∀x∈m,(tupleKind (bz P w)).is h x.1 x.2.1:=by
  intro l m q
  induction q with
  |nil=>intro x c;exact nomatch c
  |@cons p q ps s d t f=>
    intro x c;rcases RO.mp c with e|c
    ·subst e;exact jW ok (by rw[<-d.1];exact d.2.1)
    ·exact f x c
 exact all r x c
theorem PN{b:List (List bJ×V)}(ok:HOk P w H h)(e:H a=some (.dT b)):b.length<=sizeLine/\(a==sysModules)=false/\
 ∃xs,KT H b xs/\h.DictOfH (tupleKind (bz P w)) a xs:=oP ok (.inl e)
end
def DGet(H:Hp)(a:Addr)(y:V)(r:Option V):Prop:=
 (∃c k,Rd H a (.dK c)/\y=kV k/\r=jL c k)\/∃c k b,Rd H a (.dT c)/\y=.ref b/\H b=some (.tup (k.map kV))/\r=jL c k
def DPut(H:Hp)(a:Addr)(y v:V)(H':Hp):Prop:=
 (∃c k,H a=some (.dK c)/\y=kV k/\c.length<sizeLine/\H'=upd H a (.dK (fH c k v)))\/
 ∃c k b,H a=some (.dT c)/\y=.ref b/\H b=some (.tup (k.map kV))/\c.length<sizeLine/\H'=upd H a (.dT (fH c k v))
theorem DGet.k{H:Hp}{a:Addr}{b:List (bJ×V)}{k:bJ}(e:H a=some (.dK b)):DGet H a (kV k) (jL b k):=.inl ⟨b,k,.inl e,rfl,rfl⟩
theorem DPut.k{H:Hp}{a:Addr}{b:List (bJ×V)}{k:bJ}{v:V}(e:H a=some (.dK b))(c:b.length<sizeLine):DPut H a (kV k) v (upd H a (.dK (fH b k v))):=.inl ⟨b,k,e,rfl,c,rfl⟩
theorem DPut.t{H:Hp}{a b:Addr}{c:List (List bJ×V)}{k:List bJ}{v:V}(e:H a=some (.dT c))(f:H b=some (.tup (k.map kV)))(d:c.length<sizeLine):
 DPut H a (.ref b) v (upd H a (.dT (fH c k v))):=.inr ⟨c,k,b,e,rfl,f,d,rfl⟩
section
variable{X:Cx}{pins:L0}{Z:St}{H:Hp}{s:Shared}{a:Addr}{y v:V}{u r:Value}{o:Option V}{A:Around}{E:L1}
theorem Inv.big(I:Inv X pins Z H s):sysModules<s.heap.objs.size:=by
 have h:mainGlobals<s.heap.objs.size:=(I.mod.glob.keeps I.bk).lt;exact Nat.lt_trans (by decide) h
theorem AD{Q:L1}(r:A.units+1<cLine)(I:Inv X pins Z H s)(g:DGet H a y (some v))(q:RelV y u)(h:∀f s',Inv X pins Z H s'->RelV v f->Q f s'):
 wpAny (model X.prog X.w) A (getItem (.ref a) u) Q E s:=by
 rcases g with ⟨i,k,e,n,l⟩|⟨i,k,b,e,n,t,l⟩
 ·subst n;obtain⟨z,hd,vs,d,dd⟩:=oQ I.hok e;obtain⟨f,j,c⟩:=RelO.some_of (v:=v) (o:=valueAt vs k) (by rw[l];exact d.val k);exact wpAny_getItem_of (qO q) dd.mapOf j (h f _ (I.tok _) c)
 ·subst n;cases(show u=Value.ref b from q);obtain⟨z,hd,xs,d,dd⟩:=oP I.hok e;obtain⟨f,j,c⟩:=RelO.some_of (v:=v) (o:=(atKey xs k).map (·.2)) (by rw[l];exact d.val k);obtain⟨p,hp,m⟩:=Sd.mp j;refine wpAny_getItem_heap (Tl r) (jW I.hok t) dd hp ?_;rw[m];exact h f _ (I.tok _) c
theorem Rm{Q:L1}(j:A.units+1<cLine)(I:Inv X pins Z H s)(g:DGet H a y o)(i:RelV y u)(h:∀s',Inv X pins Z H s'->Q (.bool o.isSome) s'):
 wpAny (model X.prog X.w) A (compareOp .In u (.ref a)) Q E s:=by
 rcases g with ⟨d,k,e,f,l⟩|⟨d,k,b,e,f,m,l⟩
 ·subst f;obtain⟨z,hd,vs,c,dd⟩:=oQ I.hok e;refine wpAny_in_of (qO i) hd dd.mapOf ?_;rw[<-(c.val k).isSome_eq,<-l];exact h _ (I.tok _)
 ·subst f;cases(show u=Value.ref b from i);obtain⟨z,hd,xs,c,dd⟩:=oP I.hok e;refine wpAny_in_heap (Tl j) (jW I.hok m) hd dd ?_;have q:=(c.val k).isSome_eq;rw[Option.isSome_map]at q;rw[<-q,<-l];exact h _ (I.tok _)
theorem yO{h':Heap}{t':Nat}{ob:HO}(I:Inv X pins Z H s)(c:QH (H a))(d:Heap.SameBut a s.heap h')(f:∃q,h'.get? a=some q)(new:ObjOk X.prog X.w (upd H a ob) h' a ob):
 Inv X pins Z (upd H a ob) {s with heap:=h',toks:=t'}:=
 I.write (x:=a) (e:=a) c (.inl rfl) (λb q g z=>(d.2 b g).trans z) f new
theorem Mn{P:Program}{w:World}{H':Hp}{h':Heap}{b:List (bJ×V)}{vs:List (bJ×Value)}(z:b.length<=sizeLine)(hd:(a==sysModules)=false)(c:KV b vs)(dd:h'.DictOf (bz P w) a vs):
 ObjOk P w H' h' a (.dK b):=⟨z,hd,vs,c,dd⟩
theorem AC{H':Hp}{Q:Unit->Shared->Prop}(F:A.units+1<cLine)(I:Inv X pins Z H s)(g:DPut H a y v H')(x:RelV y u)(B:RelV v r)(h:∀s',Inv X pins Z H' s'->Q () s'):
 wpAny (model X.prog X.w) A (setItem (.ref a) u r) Q E s:=by
 rcases g with ⟨f,k,e,p,l,t⟩|⟨f,k,b,e,p,D,l,t⟩
 · subst p t;obtain⟨z,hd,vs,d,dd⟩:=PQ I.hok e;have m:vs.length<=sizeLine:=by rw[<-d.length];exact z
   have o:(fH f k v).length<=sizeLine:=by have:=my f k v;omega
   refine wpAny_setItem_pairs (hsz:=m) (qO x) dd λh' i n=>h _ ?_;have G:∃q,h'.get? a=some q:=let ⟨q,_,_,j,_⟩:=i;⟨q,j⟩
   exact yO I (by rw[e];exact True.intro) n G (Mn o hd (d.put k B) i)
 · subst p t;cases(show u=Value.ref b from x);obtain⟨z,hd,xs,d,dd⟩:=PN I.hok e;have m:xs.length<=sizeLine:=by rw[<-TQ d];exact z
   have o:(fH f k v).length<=sizeLine:=by have:=my f k v;omega
   refine wpAny_setItem_heap (hsz:=m) (Tl F) (jW I.hok D) dd λh' i n=>h _ ?_;obtain⟨q,es,ep,j,M,L,K,_,J⟩:=i;refine yO I (by rw[e];exact True.intro) n ⟨q,j⟩ ⟨o,hd,_,(d.put k D B).keeps λc ys C=>?_,q,es,ep,j,M,L,K,J⟩;rw[aS (OM C e (λz=>nomatch z))];exact C
end
def QG(i:Expr):Prop:=∀ov a,subscripted i false ov a=operate [ov,a] (getItem ov a)
theorem FV{prog:Program}{w:World}{A:Around}{E:L1}{s:Shared}{env:Env}{b a:Expr}{pos:Pos}{T id:String}{Q:L1}
 (n:typeLookup (.type T) "__getitem__" = pure (some (.builtin id))) (m:QG a)
 (h:wpAny (model prog w) A (eval b env) (λo f=>wpAny (model prog w) A (eval a env) (λi c=>c.TypeIs o T/\wpAny (model prog w) A (getItem o i) Q E c) E f) E s):
 wpAny (model prog w) A (eval (.Subscript b a pos) env) Q E s:=by
 refine Subscript_ (wpAny_mono h (λo f k=>wpAny_mono k (λi c d=>?_) λ_ _ x=>x) λ_ _ x=>x);obtain⟨l,d⟩:=d;unfold subscriptTail;refine wpAny_bind ?_;rw[getitemInPython_of_ne l.not_modules];refine wpAny_bind (wpAny_specialOf l n ?_)
 have g:wpAny (model prog w) A (subscripted a false o i) (λr e=>wpAny (model prog w) A (letTemporaryGo b o r >>= λ_=>pure r) Q E e) E c:=by
  rw[m o i];exact wpAny_operating (S3 d (λr e j=>no (wpAny_letTemporaryGo (RP j))) λ_ _ x=>x)
 first
  |exact RP (no g)
  |exact no (RP (no g))
  |exact no g
theorem u3{X:Cx}{c:L0}{Z:St}{H:Hp}{s:Shared}{a:Addr}{y:V}{o:Option V}(I:Inv X c Z H s)(g:DGet H a y o):s.TypeIs (.ref a) "dict" := by
 rcases g with ⟨d,k,e,_,_⟩|⟨d,k,b,e,_,_,_⟩
 ·obtain⟨_,_,vs,_,dd⟩:=oQ I.hok e;exact dd.typeIs
 ·obtain⟨_,_,xs,_,dd⟩:=oP I.hok e;exact dd.typeIs
def HE(c ty:TE):TE:=λZ H Q=>c Z H λx L=>ty Z L λy b=>∃a v,x=.ref a/\DGet b a y (some v)/\Q v b
def NI(ty c:TE):TE:=λZ H Q=>ty Z H λy L=>c Z L λx b=>∃a o,x=.ref a/\DGet b a y o/\Q (.bl o.isSome) b
def HV(d ty c:TE):TS:=λD Z H=>c Z H λv L=>d Z L λx f=>ty Z f λy e=>∃a b,x=.ref a/\DPut e a y v b/\D.nx Z b
section
variable{X:Cx}{o i e value:Expr}{pos pos' tpos:Pos}{td ty tv:TE}
theorem rT(m:X.A.units+1<cLine)(p:PE X o td)(hi:PE X i ty)(n:QG i):PE X (.Subscript o i pos) (HE td ty):=by
 intro b s Z H Q I h;refine FV PySem.F.slot_dict_getitem.lookup n (bV (p b s Z H _ I h) λu e ⟨x,L,r,j,l⟩=>bV (hi b e Z L _ r l) λB s2 ⟨y,t,d,f,a,v,ex,g,k⟩=>?_);subst ex;obtain rfl:u=Value.ref a:=j;exact⟨u3 d g,AD m d g f λw z q c=>⟨v,t,q,c,k⟩⟩
theorem wt(k:X.A.units+1<cLine)(hi:PE X i ty)(l:PE X o td):PC X .In i o (NI ty td):=by
 intro b s Z H Q I h;refine bV (hi b s Z H _ I h) λt c ⟨y,L,p,d,j⟩=>bV (l b c Z L _ p j) λu s2 ⟨x,q,n,e,a,ov,ex,g,f⟩=>?_;subst ex;obtain rfl:u=Value.ref a:=e;exact Rm k n g d λr m=>⟨.bl ov.isSome,q,m,rfl,f⟩
theorem fI(n:X.A.units+1<cLine)(q:PE X o td)(hi:PE X i ty)(m:PE X value tv)(p:swapsWith value (some (.Subscript o i pos')) pos.line X.env=pure false):
 PS X (.Assign [.Subscript o i pos'] value pos) (HV td ty tv):=by
 intro b s Z H D I h;refine wpAny_Assign_Subscript (bV (m b s Z H _ I h) λr c ⟨v,L,B,f,l⟩=>bV (q b c Z L _ B l) λu s2 ⟨x,E,z,e,k⟩=>bV (hi b s2 Z E _ z k) λJ G ⟨y,K,w,d,a,C,ex,g,j⟩=>?_) p;subst ex;obtain rfl:u=Value.ref a:=e;exact AC n w g d f λF t=>⟨Z,C,t,j⟩
end
theorem ET{P:Program}{w:World}{H:Hp}(h:Heap)(a:sysModules<h.objs.size):ObjOk P w H (h.push {cls:=.type "dict",data:=.dict #[]}) h.objs.size (.dK []):=
 ⟨SR _,Sr.mpr (Th (Sc a)),[],.nil,Heap.DictOf.new h⟩
theorem EN{P:Program}{w:World}{H:Hp}(h:Heap)(a:sysModules<h.objs.size):ObjOk P w H (h.push {cls:=.type "dict",data:=.dict #[]}) h.objs.size (.dT []):=
 ⟨SR _,Sr.mpr (Th (Sc a)),[],.nil,_,#[],0,Sb _ rfl,⟨rfl,rfl,rfl⟩,rfl,rfl,Sy⟩
def Bl:TE:=λ_ H Q=>∀p,H p=none->Q (.ref p) (upd H p (.dK []))
def Bk:TE:=λ_ H Q=>∀p,H p=none->Q (.ref p) (upd H p (.dT []))
section
variable{X:Cx}{pos:Pos}
theorem CH:PE X (.Dict [] [] pos) Bl:=λb s Z H Q I h=>
 wpAny_Dict_empty ⟨.ref s.heap.objs.size,_,I.laid (a:=s.heap.objs.size) (o:=.dK []) (t':=s.toks) (λ_ _ q=>RM _ q) (RU _) (ET s.heap I.big),rfl,h _ (I.hok.fresh (RU _))⟩
theorem dR:PE X (.Dict [] [] pos) Bk:=λb s Z H Q I h=>
 wpAny_Dict_empty ⟨.ref s.heap.objs.size,_,I.laid (a:=s.heap.objs.size) (o:=.dT []) (t':=s.toks) (λ_ _ q=>RM _ q) (RU _) (EN s.heap I.big),rfl,h _ (I.hok.fresh (RU _))⟩
end
structure M1 (X:Cx) (o:Expr) (m:Str) (apos:Pos) (e:Expr) (cpos:Pos):Prop where
 base:attributeBase o m X.env (eval o X.env)=eval o X.env
 few:((backTo cpos (starEach [e] X.env)).all (λx=>!x.1)&&(backToKw cpos (keywordEach [] X.env)).all (λx=>x.1.isSome)
  && decide (([e]:List Expr).length+([]:List Keyword).length+(if ([]:List Keyword).isEmpty then 0 else 1)<30))=true
 line:(apos.endLine==cpos.line)=true
 trees:backTo cpos (starEach [e] X.env)=[(false,eval e X.env)]
structure M2 (X:Cx) (o:Expr) (m:Str) (apos:Pos) (e f:Expr) (cpos:Pos):Prop where
 base:attributeBase o m X.env (eval o X.env)=eval o X.env
 few:((backTo cpos (starEach [e,f] X.env)).all (λx=>!x.1)&&(backToKw cpos (keywordEach [] X.env)).all (λx=>x.1.isSome)
  && decide (([e,f]:List Expr).length+([]:List Keyword).length+(if ([]:List Keyword).isEmpty then 0 else 1)<30))=true
 line:(apos.endLine==cpos.line)=true
 trees:backTo cpos (starEach [e,f] X.env)=[(false,eval e X.env),(false,eval f X.env)]
def QK(H:Hp)(a:Addr):Prop:=(∃b,Rd H a (.dK b))\/∃b,Rd H a (.dT b)
theorem Et{X:Cx}{c:L0}{Z:St}{H:Hp}{s:Shared}{a:Addr}(I:Inv X c Z H s)(d:QK H a):
 s.TypeIs (.ref a) "dict" /\ (∀b,Value.ref a=.ref b->∃ob,s.heap.get? b=some ob/\ob.dict=none)/\(a==sysModules)=false:=by
 rcases d with ⟨f,e⟩|⟨f,e⟩
 ·obtain⟨_,hd,vs,_,dd⟩:=oQ I.hok e;refine⟨dd.typeIs,λb q=>?_,hd⟩;cases q;obtain⟨ob,_,_,h,g,_⟩:=dd;exact⟨ob,h,g.2.1⟩
 ·obtain⟨_,hd,xs,_,dd⟩:=oP I.hok e;refine⟨dd.typeIs,λb q=>?_,hd⟩;cases q;obtain⟨ob,_,_,h,g,_⟩:=dd;exact⟨ob,h,g.2.1⟩
section
variable{X:Cx}{pins:L0}{Z:St}{H:Hp}{s:Shared}{a:Addr}{y d:V}{u r:Value}{o:Option V}{A:Around}{E:L1}
theorem Mr{Q:L1}(m:A.units+1<cLine)(I:Inv X pins Z H s)(g:DGet H a y o)(j:RelV y u)(h:∀i s',Inv X pins Z H s'->RelV (o.getD .non) i->Q i s'):
 wpAny (model X.prog X.w) A (call (.builtin "dict.get") [.ref a,u]) Q E s:=by
 rcases g with ⟨d,k,e,f,l⟩|⟨d,k,b,e,f,n,l⟩
 ·subst f;obtain⟨z,hd,vs,c,dd⟩:=oQ I.hok e;refine UI SS dd.typeIs Tn (UD _ _) (meets_dict_get (bz X.prog X.w) a (qO j) hd) ⟨_,dd.mapOf,h _ _ (I.tok _) ?_⟩;rw[l];exact(c.val k).getD rfl
 ·subst f;cases(show u=Value.ref b from j);obtain⟨z,hd,xs,c,dd⟩:=oP I.hok e;refine UI SS dd.typeIs Tn (UD _ _) (meetsH_dict_get (tupleKind (bz X.prog X.w)) a b hd) ⟨Tl m,k,xs,jW I.hok n,dd,h _ _ (I.tok _) ?_⟩;rw[l];exact(c.val k).getD rfl
theorem Mq{Q:L1}(n:A.units+1<cLine)(I:Inv X pins Z H s)(g:DGet H a y o)(m:RelV y u)(rd:RelV d r)(h:∀j s',Inv X pins Z H s'->RelV (o.getD d) j->Q j s'):
 wpAny (model X.prog X.w) A (call (.builtin "dict.get") [.ref a,u,r]) Q E s:=by
 rcases g with ⟨f,k,e,i,l⟩|⟨f,k,b,e,i,p,l⟩
 ·subst i;obtain⟨z,hd,vs,c,dd⟩:=oQ I.hok e;refine UI SS dd.typeIs Tn (UE _ _ _) (meets_dict_get_default (bz X.prog X.w) a (qO m) hd r) ⟨_,dd.mapOf,h _ _ (I.tok _) ?_⟩;rw[l];exact(c.val k).getD rd
 ·subst i;cases(show u=Value.ref b from m);obtain⟨z,hd,xs,c,dd⟩:=oP I.hok e;refine UI SS dd.typeIs Tn (UE _ _ _) (meetsH_dict_get_default (tupleKind (bz X.prog X.w)) a b hd r) ⟨Tl n,k,xs,jW I.hok p,dd,h _ _ (I.tok _) ?_⟩;rw[l];exact(c.val k).getD rd
end
def Bn(c ty:TE):TE:=λZ H Q=>c Z H λx L=>∃a,x=.ref a/\QK L a/\ty Z L λy b=>∃o,DGet b a y o/\Q (o.getD .non) b
def Bm(d ty c:TE):TE:=λZ H Q=>d Z H λx L=>∃a,x=.ref a/\QK L a/\ty Z L λy e=>c Z e λz b=>∃o,DGet b a y o/\Q (o.getD z) b
section
variable{X:Cx}{o e f:Expr}{apos cpos:Pos}{td ty tx:TE}
theorem nP(r:X.A.units+1<cLine)(t:PE X o td)(v:PE X e ty)(m:M1 X o "get" apos e cpos):PE X (.Call (.Attribute o "get" apos) [e] [] cpos) (Bn td ty):=by
 intro b s Z H Q I h;refine wpAny_Call_method m.base m.few m.line SQ SS UR (bV (t b s Z H _ I h) λu k ⟨x,L,f,n,a,ex,d,q⟩=>?_);subst ex;obtain rfl:u=Value.ref a:=n;obtain⟨j,i,_⟩:=Et f d;refine⟨j,i,?_⟩;rw[m.trees];refine To rfl (TD (TR (bV (v b k Z L _ f q) λE s2 ⟨y,B,z,l,ov,g,p⟩=>Ut ?_)));exact Mr r z g l λC D w c=>⟨_,B,w,c,p⟩
theorem CI(w:X.A.units+1<cLine)(B:PE X o td)(D:PE X e ty)(C:PE X f tx)(m:M2 X o "get" apos e f cpos):PE X (.Call (.Attribute o "get" apos) [e,f] [] cpos) (Bm td ty tx):=by
 intro b s Z H Q I h;refine wpAny_Call_method m.base m.few m.line SQ SS UR (bV (B b s Z H _ I h) λu l ⟨x,L,i,q,a,ex,d,v⟩=>?_);subst ex;obtain rfl:u=Value.ref a:=q;obtain⟨k,j,_⟩:=Et i d;refine⟨k,j,?_⟩;rw[m.trees]
 refine To rfl (TD (TR (bV (D b l Z L _ i v) λP s2 ⟨y,K,G,p,t⟩=>
  TR (bV (C b s2 Z K _ G t) λR O ⟨z,J,F,n,ov,g,r⟩=>Ut ?_))))
 exact Mq w F g p n λM N E c=>⟨_,J,E,c,r⟩
end
end L2
namespace HT
open PySem PyProof.Rows
def iF:List Int->List Int->Bool
 |[],[]=>false
 |[],_::_=>true
 |_::_,[]=>false
 |x::xs,y::ys=>if x=y then iF xs ys else decide (x<y)
theorem jT(x y:Int)(xs ys:List Int):iF (x::xs) (y::ys)=if x=y then iF xs ys else decide (x<y):=rfl
theorem ot(y:Int)(ys:List Int):iF [] (y::ys)=true:=rfl
theorem ou(x:Int)(xs:List Int):iF (x::xs) []=false:=rfl
section
variable{prog:Program}{w:World}{A:Around}{E:L1}{s:Shared}
def tW(n d:Nat):Option Int->Nat
 |none=>d
 |some v=>if v<0 then (v+(n:Int)).toNat else min v.toNat n
theorem uf(n d:Nat):tW n d none=d:=rfl
end
end HT
namespace L2
open PySem PySem.Spec PyProof.Rows
abbrev TO:=St->Hp->(Option Int->Hp->Prop)->Prop
def PO(X:Cx)(e:Option Expr)(t:TO):Prop:=
 ∀(a:L0) (s:Shared) (Z:St) (H:Hp) (Q:Option Int->Hp->Prop),Inv X a Z H s->t Z H Q->
  wpAny (model X.prog X.w) X.A (evalPart e X.env) (λu s'=>∃o H',Inv X a Z H' s'/\IsPart u o/\Q o H') X.xe s
def rq:TO:=λ_ H Q=>Q none H
def Bh(t:TE):TO:=λZ H Q=>t Z H λx L=>∃i,x=.int i/\Q (some i) L
theorem oB{ns:List Int}:∀{us:List Value},Vals (ns.map V.int) us->IntsAre us ns:=by
 induction ns with
 |nil=>intro us r;rw[SM]at r;cases r;exact .nil
 |cons n ns c=>
   intro us r;rw[RJ]at r;cases r with
   |cons b a=>
     obtain⟨t,e⟩:=b;subst e;exact .cons n t (c a)
section
variable{X:Cx}{e:Expr}{te:TE}{lo hi:Option Expr}{tl th:TO}{pos p2:Pos}
theorem yi:PO X none rq:=by
 intro a s Z H Q I h;rw[evalPart_none];exact RP ⟨none,H,I,.none,h⟩
theorem yh(h:PE X e te):PO X (some e) (Bh te):=by
 intro a s Z H Q I d;rw[evalPart_some];refine bV (h a s Z H _ I d) λu g ⟨x,L,f,b,c⟩=>?_;obtain⟨i,rfl,q⟩:=c;obtain⟨t,rfl⟩:=b;exact⟨some i,L,f,.int i t,q⟩
def Rv(X:Cx)(r:V->Option Int->Option Int->Hp->VK->Prop):Prop:=
 ∀(a:L0) (s:Shared) (Z:St) (H:Hp) (x:V) (v c b:Value) (lo hi:Option Int) (d:Addr) (Q:VK),Inv X a Z H s->RelV x v->s.heap.IsSliceOf d c b .none->IsPart c lo->IsPart b hi->r x lo hi H Q->
  ∃T id,typeLookup (.type T) "__getitem__" = pure (some (.builtin id))/\s.TypeIs v T/\wpAny (model X.prog X.w) X.A (getItem v (.ref d)) (EP X a Z Q) X.xe s
def Q2(r:V->Option Int->Option Int->Hp->VK->Prop)(te:TE)(tl th:TO):TE:=λZ H Q=>te Z H λx L=>tl Z L λl b=>th Z b λu a=>r x l u a Q
theorem um{r:V->Option Int->Option Int->Hp->VK->Prop}(y:Rv X r)(C:PE X e te)(z:PO X lo tl)(p:PO X hi th):PE X (.Subscript e (.Slice lo hi none p2) pos) (Q2 r te tl th):=by
 intro a s Z H Q I h;refine Subscript_ (bV (C a s Z H _ I h) λv i ⟨x,L,J,j,n⟩=>?_);refine wpAny_Slice (bV (z a i Z L _ J n) λf s2 ⟨l,K,G,pl,m⟩=>bV (p a s2 Z K _ G m) λd c ⟨u,g,F,o,k⟩=>?_);rw[evalPart_none];refine wpAny_pure ?_;have E:Inv X a Z g {c with heap:=c.heap.push {cls:=.type "slice",data:=.fields #[f,d,.none]}}:=F.kept (t':=c.toks) λb ob q=>Heap.get?_push_of_some _ q;obtain⟨T,id,D,t,B⟩:=y a {c with heap:=c.heap.push {cls:=.type "slice",data:=.fields #[f,d,.none]}} Z g x v f d l u c.heap.objs.size Q E j (Heap.IsSliceOf.new ..) pl o k;show wpAny (model X.prog X.w) X.A (subscriptTail e (.Slice lo hi none p2) v (.ref c.heap.objs.size)) (EP X a Z Q) X.xe {c with heap:=c.heap.push {cls:=.type "slice",data:=.fields #[f,d,.none]}};exact tail_any (ops:=[.ref c.heap.objs.size,v]) t D B (by with_unfolding_all rfl)
def u7(xs:List V)(lo hi:Option Int):List V:=(xs.drop (HT.tW xs.length 0 lo)).take (HT.tW xs.length xs.length hi-HT.tW xs.length 0 lo)
theorem u6(xs:List V)(lo hi:Option Int):(u7 xs lo hi).length<=xs.length:=by
 unfold u7;rw[List.length_take,List.length_drop];omega
end
def kU(n:Nat)(i:Int):Option Nat:=if 0<=i then (if i<n then some i.toNat else none) else if -(n:Int)<=i then some (i+n).toNat else none
def iK{W:Type}(xs:List W)(i:Int):Option W:=(kU xs.length i).bind λj=>xs[j]?
theorem sj{n:Nat}{i:Int}{j:Nat}(h:kU n i=some j):seqIndex? i n=some j/\j<n/\-(n:Int)<=i/\i<n:=by
 unfold kU at h;by_cases h0:0<=i
 · rw[RF h0]at h;by_cases a:i<n
   ·rw[RF a]at h;have e:i.toNat=j:=R9 h;exact⟨by rw[seqIndex_of h0 a,e],by omega,by omega,a⟩
   ·rw[RE a]at h;cases h
 · rw[RE h0]at h;by_cases a:-(n:Int)<=i
   ·rw[RF a]at h;have e:(i+n).toNat=j:=R9 h;exact⟨by rw[seqIndex_neg (by omega) a,e],by omega,a,by omega⟩
   ·rw[RE a]at h;cases h
theorem zq{W:Type}{xs:List W}{i:Int}{v:W}(h:iK xs i=some v):∃j,seqIndex? i xs.length=some j/\xs[j]?=some v/\j<xs.length/\-(xs.length:Int)<=i/\i<xs.length:=by
 unfold iK at h;cases e:kU xs.length i with
 |none=>rw[e]at h;cases h
 |some j=>
   rw[e]at h;obtain⟨d,c,b,a⟩:=sj e;exact⟨j,d,h,c,b,a⟩
theorem lK{W:Type}(xs:List W)(v:W):iK (xs++[v]) (-1)=some v:=by
 have a:(xs++[v]).length=xs.length+1:=by simp
 have e:kU (xs++[v]).length (-1)=some xs.length:=by
  unfold kU;rw[a,if_neg (by decide),if_pos (by omega)];congr 1;omega
 unfold iK;rw[e];show(xs++[v])[xs.length]?=some v;simp
def Ht(b:Expr):Prop:=∀o i,subscripted b false o i=operate [o,i] (getItem o i)
def QI(X:Cx)(r:R2):Prop:=
 ∀(c a:Expr) (b:L0) (s:Shared) (Z:St) (H:Hp) (x y:V) (v u:Value) (Q:VK),Inv X b Z H s->RelV x v->RelV y u->r x y H Q->
  subscripted a false v u=operate [v,u] (getItem v u)->wpAny (model X.prog X.w) X.A (subscriptTail c a v u) (EP X b Z Q) X.xe s
def Rw(X:Cx)(id:String)(r:V->List V->Hp->VK->Prop):Prop:=
 ∀(a:L0) (s:Shared) (Z:St) (H:Hp) (x:V) (xs:List V) (v:Value) (us:List Value) (Q:VK),Inv X a Z H s->RelV x v->Vals xs us->r x xs H Q->
  wpAny (model X.prog X.w) X.A (call (.builtin id) (v::us)) (EP X a Z Q) X.xe s
section
variable{X:Cx}{a b:Expr}{ta tb:TE}{pos:Pos}
theorem gN{r:R2}(g:QI X r)(j:PE X a ta)(i:PE X b tb)(f:Ht b):PE X (.Subscript a b pos) (Bi r ta tb):=by
 intro c s Z H Q I h;exact Subscript_ (MY j i I h λv u s2 x y l k e d q=>g a b c s2 Z l x y v u Q k e d q (f _ _))
def Ky(K:F0):R2:=λx y H Q=>∃p xs i v,x=.ref p/\y=.int i/\SqL K H p xs/\iK xs i=some v/\Q v H
def Gk(K:F0):R2:=λx y H Q=>∃p xs i v,x=.ref p/\y=.int i/\SqT K H p xs/\iK xs i=some v/\Q v H
theorem GQ:QI X (Ky X.K):=by
 intro d e a s Z H x y v u Q I n m h k;obtain⟨p,xs,i,z,rfl,rfl,o,B,q⟩:=h;cases n;obtain⟨t,rfl⟩:=m;obtain⟨its,r,pl,F⟩:=I.list o;obtain⟨j,c,E,J,D,C⟩:=zq B;obtain⟨w,l,f⟩:=r.get E;have A:=r.length;have G:=r9;have b:EP X a Z Q w s:=⟨z,H,I,f,q⟩;by_cases h0:0<=i
 · have g:i.toNat=j:=by
    rw[seqIndex_of h0 C]at c;exact R9 c
   exact item_listR pl.isList h0 (by omega) (by rw[g];simpa using l) b k
 · have g:(i+(its.toArray.size:Int)).toNat=j:=by
    rw[seqIndex_neg (by omega) D]at c;rw[RT,<-A];exact R9 c
   exact subscriptTail_builtinR (x:=w) pl.isList.typeIs slot_list_getitem.lookup
    (wpAny_getItem_list_neg (Q:=λr s'=>r=w/\EP X a Z Q r s') pl.isList (by omega) (by rw[RT]<;>omega) (by omega) (by rw[g];simpa using l) ⟨rfl,b⟩) k
theorem L8:QI X (Gk X.K):=by
 intro b c a s Z H x y v u Q I g f h k;obtain⟨p,xs,i,z,rfl,rfl,l,n,q⟩:=h;cases g;obtain⟨t,rfl⟩:=f;obtain⟨its,r,pl,C⟩:=I.tuple l;obtain⟨j,A,o,G,F,E⟩:=zq n;obtain⟨w,B,d⟩:=r.get o;have m:=r.length;have D:=r9;have e:EP X a Z Q w s:=⟨z,H,I,d,q⟩
 exact subscriptTail_builtinR (x:=w) pl.typeIs slot_tuple_getitem.lookup
  (getItem_tuple (j:=j) (Q:=λr s'=>r=w/\EP X a Z Q r s') pl (by omega) (by omega) (by rw[RT,<-m];exact A) (by simpa using B) ⟨rfl,e⟩) k
theorem wT(its:List Value)(n j:Nat)(u:Value):Obj.mapSeq (·.setIfInBounds j u) {cls:=.type "list",data:=.seq its.toArray n}={cls:=.type "list",data:=.seq (its.set j u).toArray n}:=by
 simp[Obj.mapSeq]
theorem Inv.lst{a:L0}{Z:St}{H:Hp}{s:Shared}{p:Addr}{xs:List V}(I:Inv X a Z H s)(h:H p=some (.lst xs)):
 ∃(its:List Value) (n:Nat),Vals xs its/\s.heap.get? p=some {cls:=.type "list",data:=.seq its.toArray n}/\xs.length<=sizeLine:=by
 obtain⟨z,its,n,r,e⟩:=I.hok p _ h;exact⟨its,n,r,e,z⟩
theorem Inv.lstUpd{a:L0}{Z:St}{H:Hp}{s:Shared}{p:Addr}{xs ys:List V}{its its':List Value}{n c:Nat}{f:Obj->Obj}(I:Inv X a Z H s)(h:H p=some (.lst xs))
 (i:s.heap.get? p=some {cls:=.type "list",data:=.seq its.toArray n}) (d:f {cls:=.type "list",data:=.seq its.toArray n}={cls:=.type "list",data:=.seq its'.toArray c}) (r:Vals ys its') (g:ys.length<=sizeLine) (t:Nat):
 Inv X a Z (upd H p (.lst ys)) {s with heap:=s.heap.update p f,toks:=t}:=by
 have e:(s.heap.update p f).get? p=some {cls:=.type "list",data:=.seq its'.toArray c}:=by
  rw[SU f i (by rw[d]<;>rfl),d]
 refine I.write (x:=p) (e:=p) (by rw[h];trivial) (.inl rfl) (λb u j q=>(Si _ _ (Th j)).trans q) ⟨_,e⟩ ?_;exact⟨g,its',c,r,e⟩
def HY:V->V->V->Hp->(Hp->Prop)->Prop:=λo i v H Q=>∃p xs k j,o=.ref p/\i=.int k/\H p=some (.lst xs)/\kU xs.length k=some j/\Q (upd H p (.lst (xs.set j v)))
theorem Bv:QF X HY:=by
 intro a s Z H o i v ov A u Q I w x m h;obtain⟨p,xs,k,j,rfl,rfl,hp,z,q⟩:=h;cases w;obtain⟨t,rfl⟩:=x;obtain⟨its,n,r,c,y⟩:=I.lst hp;obtain⟨b,C,g,f⟩:=sj z;have d:=r.length;have B:=r9
 have l:Inv X a Z (upd H p (.lst (xs.set j v))) {s with heap:=s.heap.update p (Obj.mapSeq (·.setIfInBounds j u))}:=
  I.lstUpd hp c (wT its n j u) (r.set m j) (by rw[SH];exact y) s.toks
 by_cases h0:0<=k
 · have e:k.toNat=j:=by
    rw[seqIndex_of h0 f]at b;exact R9 b
   exact PySem.W.ki_setAt c h0 (by omega) (by rw[RT,<-d];exact f) (by rw[e];exact⟨_,l,q⟩)
 · have e:(k+(its.toArray.size:Int)).toNat=j:=by
    rw[seqIndex_neg (by omega) g]at b;rw[RT,<-d];exact R9 b
   exact PySem.W.ki_setBack c (by omega) (by rw[RT,<-d];exact g) (by omega) (by rw[e];exact⟨_,l,q⟩)
theorem rB(lo hi:Option Int)(n:Nat):(sliceBounds lo hi none n).1=((HT.tW n 0 lo:Nat):Int)/\(sliceBounds lo hi none n).2.1=((HT.tW n n hi:Nat):Int)/\(sliceBounds lo hi none n).2.2=1:=by
 refine⟨?_,?_,rfl⟩
 · cases lo with
   |none=>simp[sliceBounds,HT.tW]
   |some i=>
     simp only[sliceBounds,HT.tW,Option.getD_none,show(1:Int)>0 by decide,U8];by_cases h:i<0
     ·simp only[h,U8]<;>omega
     ·simp only[h,Up]<;>omega
 · cases hi with
   |none=>simp[sliceBounds,HT.tW]
   |some i=>
     simp only[sliceBounds,HT.tW,Option.getD_none,show(1:Int)>0 by decide,U8];by_cases h:i<0
     ·simp only[h,U8]<;>omega
     ·simp only[h,Up]<;>omega
theorem qh(its:List Value)(lo hi:Option Int):slicePick its.toArray lo hi none=((its.drop (HT.tW its.length 0 lo)).take (HT.tW its.length its.length hi-HT.tW its.length 0 lo)).toArray:=by
 obtain⟨c,b,a⟩:=rB lo hi its.toArray.size;unfold slicePick;rw[c,b,a];simp only[sliceRange_one,pick_run,List.size_toArray]<;>rfl
def Gj(K:F0):V->Option Int->Option Int->Hp->VK->Prop:=λx lo hi H Q=>∃a xs,x=.ref a/\SqL K H a xs/\∀p,H p=none->Q (.ref p) (upd H p (.lst (u7 xs lo hi)))
theorem F8:Rv X (Gj X.K):=by
 intro d s Z H x v m l lo hi n Q I f k pl g h;obtain⟨a,xs,rfl,j,q⟩:=h;cases f;obtain⟨its,r,e,i⟩:=I.list j;have c:=r.length;refine⟨"list",_,slot_list_getitem.lookup,e.isList.typeIs,?_⟩;refine wpAny_getItem_list_slice e.isList k pl g .none (by simp) ?_ (by rw[RT]<;>omega);rw[qh,<-c];refine⟨.ref s.heap.objs.size,_,I.laid (t':=s.toks) (o:=.lst (u7 xs lo hi)) (λb ob q=>RM _ q) (RU _) ?_,rfl,q _ (I.hok.fresh (RU _))⟩;exact⟨Su (u6 xs lo hi) i,_,0,(r.drop (HT.tW xs.length 0 lo)).take (HT.tW xs.length xs.length hi-HT.tW xs.length 0 lo),Sb _ rfl⟩
theorem tO:gy X (.builtin "len") (λxs H Q=>∃p ys,xs=[.ref p]/\(SqL X.K H p ys\/SqT X.K H p ys)/\Q (.int ys.length) H):=by
 intro d s Z H xs us Q I r h;obtain⟨p,ys,rfl,b,q⟩:=h;obtain⟨u,rfl,e⟩:=AW r;cases e;have g:=r9;rcases b with b|b
 ·obtain⟨its,c,pl,f⟩:=I.list b;have a:=c.length;exact Calls.call_len_list pl.isList (by simp only[RT]<;>omega) ⟨.int ys.length,H,I.tok _,⟨s.toks+1,by rw[RT,a]⟩,q⟩
 ·obtain⟨its,c,pl,f⟩:=I.tuple b;have a:=c.length;exact len_tuple pl (by simp only[RT]<;>omega) ⟨.int ys.length,H,I.tok _,⟨s.toks+1,by rw[RT,a]⟩,q⟩
theorem tN:gy X (.type "list") (λxs H Q=>∃p ys,xs=[.ref p]/\(SqL X.K H p ys\/SqT X.K H p ys)/\∀l,H l=none->Q (.ref l) (upd H l (.lst ys))):=by
 intro d s Z H xs us Q I r h;obtain⟨p,ys,rfl,g,q⟩:=h;obtain⟨u,rfl,t⟩:=AW r;cases t
 have j:∀(its:List Value),Vals ys its->ys.length<=sizeLine->∀(h':Heap) (c:Nat),(∀b o',s.heap.get? b=some o'->h'.get? b=some o')->
  h'.get? s.heap.objs.size=some {cls:=.type "list",dict:=none,data:=.seq its.toArray c,slots:=#[]}->EP X d Z Q (.ref s.heap.objs.size) {s with heap:=h'}:=λits a f h' c kp e=>
  ⟨.ref s.heap.objs.size,_,I.laid (t':=s.toks) kp (RU _) (show ObjOk X.prog X.w _ h' _ (.lst ys) from⟨f,its,c,a,e⟩),rfl,q _ (I.hok.fresh (RU _))⟩
 rcases g with g|g
 ·obtain⟨its,a,pl,f⟩:=I.list g;have i:=a.length;obtain⟨o,k,m,n,hd⟩:=pl.isList;exact call_list_seq p (.inl rfl) k m hd (λh' c kp e=>j its a f h' c kp e) (by simp only[RT]<;>omega)
 ·obtain⟨its,a,pl,f⟩:=I.tuple g;have i:=a.length;obtain⟨o,k,m,n,hd⟩:=pl;exact call_list_seq p (.inr rfl) k m hd (λh' c kp e=>j its a f h' c kp e) (by simp only[RT]<;>omega)
theorem ql:gy X (.type "tuple") (λxs H Q=>∃p ys,xs=[.ref p]/\((SqL X.K H p ys/\∀l,H l=none->Q (.ref l) (upd H l (.tup ys)))\/(SqT X.K H p ys/\Q (.ref p) H))):=by
 intro a s Z H xs us Q I r h;obtain⟨p,ys,rfl,h⟩:=h;obtain⟨u,rfl,j⟩:=AW r;cases j;rcases h with ⟨d,q⟩|⟨d,q⟩
 · obtain⟨its,c,pl,f⟩:=I.list d;have g:=c.length;refine call_tuple_list pl.isList (λh' kp=>?_) (by simp only[RT]<;>omega);have i:Inv X a Z H {s with heap:=h'}:=I.kept (t':=s.toks) kp
   have k:Inv X a Z (upd H h'.objs.size (.tup ys)) {s with heap:=h'.push {cls:=.type "tuple",data:=.seq its.toArray}}:=
    i.laid (t':=s.toks) (λb o e=>RM _ e) (RU _) (show ObjOk X.prog X.w _ _ _ (.tup ys) from⟨f,its,c,IsTup.new _ _⟩)
   exact⟨.ref h'.objs.size,_,k,rfl,q _ (i.hok.fresh (RU _))⟩
 ·obtain⟨its,c,pl,f⟩:=I.tuple d;exact call_tuple_same pl ⟨.ref p,H,I,rfl,q⟩
def QZ(K:F0)(T:String)(x:V)(H:Hp):Prop:=match x with
 |.str _=>T = "str"
 |.int _=>T = "int"
 | .ref p=>(T = "list" /\ ∃xs,SqL K H p xs)\/(T = "tuple" /\ ∃o,K.lookup p=some o/\o.cls=.type "tuple" /\ o.dict=none)\/
    (T = "dict" /\ ((∃a,H p=some (.dK a))\/∃a,H p=some (.dT a)))\/(T = "set" /\ ∃S n,H p=some (.set S n))
 |_=>False
theorem AZ{d:L0}{Z:St}{H:Hp}{s:Shared}{T:String}{x:V}{v:Value}(I:Inv X d Z H s)(r:RelV x v)(ty:QZ X.K T x H):
 s.TypeIs v T/\∀a,v=.ref a->∃ob,s.heap.get? a=some ob/\ob.dict=none:=by
 cases x with
 |str z=>
   obtain⟨t,rfl⟩:=r;cases(show T = "str" from ty);exact⟨typeIs_str s z t,λ_ e=>nomatch e⟩
 |int i=>
   obtain⟨t,rfl⟩:=r;cases(show T = "int" from ty);exact⟨typeIs_int s i t,λ_ e=>nomatch e⟩
 |ref p=>
   cases r;rcases ty with ⟨rfl,xs,h⟩|⟨rfl,o,b,j,hd⟩|⟨rfl,b⟩|⟨rfl,S,n,b⟩
   ·obtain⟨its,_,pl,_⟩:=I.list h;refine⟨pl.isList.typeIs,λa e=>?_⟩;cases e;obtain⟨o,n,e,c,hd,_⟩:=pl;exact⟨o,e,hd⟩
   ·refine⟨⟨o,I.kIn p o b,j⟩,λa e=>?_⟩;cases e;exact⟨o,I.kIn _ o b,hd⟩
   · have z:∃o,s.heap.get? p=some o/\o.ExactDict:=by
      rcases b with ⟨f,b⟩|⟨f,b⟩
      ·obtain⟨_,_,_,_,o,_,_,e,ex,_⟩:=I.hok p _ b;exact⟨o,e,ex⟩
      ·obtain⟨_,_,_,_,o,_,_,e,ex,_⟩:=I.hok p _ b;exact⟨o,e,ex⟩
     obtain⟨o,e,ex⟩:=z;refine⟨⟨o,e,ex.1⟩,λa g=>?_⟩;cases g;exact⟨o,e,ex.2.1⟩
   ·obtain⟨o,_,_,_,e,ex,_⟩:=I.hok p _ b;refine⟨⟨o,e,ex.1⟩,λa g=>?_⟩;cases g;exact⟨o,e,ex.2.1⟩
 |_=>exact False.elim ty
def NK(K:F0)(T:String)(r:V->List V->Hp->VK->Prop)(to:TE):TE:=λZ H Q=>to Z H λx L=>QZ K T x L/\r x [] L Q
def HF(K:F0)(T:String)(r:V->List V->Hp->VK->Prop)(to:TE)(t:TA):TE:=λZ H Q=>to Z H λx L=>QZ K T x L/\t Z L λxs a=>r x xs a Q
variable{o e:Expr}{es:List Expr}{to:TE}{t:TA}{name:Str}{apos cpos:Pos}{T id:String}{r:V->List V->Hp->VK->Prop}
theorem KP(j:PlainAttrs T)(slot:Slot T name id)(d:typeOf (.builtin id)=pure (.type "method_descriptor"))(l:Rw X id r)(k:PE X o to)
 (c:attributeBase o name X.env (eval o X.env)=eval o X.env:=by rfl) (b:(apos.endLine==cpos.line)=true:=by rfl):PE X (.Call (.Attribute o name apos) [] [] cpos) (NK X.K T r to):=by
 intro a s Z H Q I h;refine wpAny_Call_method0_late c b (bV (k a s Z H _ I h) λv g ⟨x,L,f,e,ty,i⟩=>?_);obtain⟨n,m⟩:=AZ f e ty;exact⟨T,id,j,slot,d,n,m,To rfl (PySem.evalArgs_none (l a g Z L x [] v [] Q f e .nil i))⟩
theorem gO(q:PlainAttrs T)(slot:Slot T name id)(g:typeOf (.builtin id)=pure (.type "method_descriptor"))(y:Rw X id r)(w:PE X o to)(z:PA X (e::es) t)
 (d:attributeBase o name X.env (eval o X.env)=eval o X.env:=by rfl)
 (f:((backTo cpos (starEach (e::es) X.env)).all (λx=>!x.1)&&(backToKw cpos (keywordEach [] X.env)).all (λx=>x.1.isSome)
   && decide ((e::es).length+([]:List Keyword).length+(if ([]:List Keyword).isEmpty then 0 else 1)<30))=true:=by rfl)
 (c:(apos.endLine==cpos.line)=true:=by rfl) (u:starEach (e::es) X.env=(false,eval e X.env)::starEach es X.env:=by rfl) (b:(backTo cpos (starEach es X.env)).any (·.1)=false:=by rfl):
 PE X (.Call (.Attribute o name apos) (e::es) [] cpos) (HF X.K T r to t):=by
 intro a s Z H Q I h;refine wpAny_Call_method_late d f c rfl (bV (w a s Z H _ I h) λv l ⟨x,L,k,i,ty,p⟩=>?_);obtain⟨B,A⟩:=AZ k i ty;refine⟨T,id,q,slot,g,B,A,?_⟩;have j:=z cpos a l Z L _ k p;rw[u]at j ⊢;refine To (by show(false||(backTo cpos (starEach es X.env)).any (·.1))=false;rw[b]<;>rfl) (TD ?_);exact bV j λus s2 ⟨vs,D,C,m,n⟩=>y a s2 Z D x vs v us Q C i m n
end
def Rx(X:Cx)(id:String)(r:V->List V->Hp->VK->Prop):Prop:=
 ∀(a:L0) (s:Shared) (Z:St) (H:Hp) (x:V) (xs:List V) (v:Value) (us:List Value) (Q:VK),Inv X a Z H s->RelV x v->Vals xs us->r x xs H Q->
  wpAny (model X.prog X.w) X.A (call (.builtin id) (v::us)) (EP X a Z Q) X.xe s
theorem Vals.one:∀{x:V} {us:List Value},Vals [x] us->∃u,us=[u]/\RelV x u
 |_,_,.cons r .nil=>⟨_,rfl,r⟩
theorem Vals.zero:∀{us:List Value},Vals [] us->us=[]
 |_,.nil=>rfl
theorem Vals.eraseIdx:∀{xs:List V} {us:List Value} (i:Nat),Vals xs us->Vals (xs.eraseIdx i) (us.eraseIdx i)
 |_,_,_,.nil=>.nil
 |_,_,0,.cons _ t=>t
 |_,_,i+1,.cons r t=>.cons r (Vals.eraseIdx i t)
theorem Vals.rep{xs:List V}{us:List Value}(h:Vals xs us):∀k:Nat,Vals (List.replicate k xs).flatten (List.replicate k us).flatten
 |0=>.nil
 | k+1=>by
   rw[Sw,Sw,SL,SL];exact Vals.append h (Vals.rep h k)
theorem qJ{W:Type}:∀(l:List W) (i:Nat),(l.eraseIdx i).length<=l.length
 |[],_=>RU _
 |_::_,0=>Nat.le_succ _
 |_::r,i+1=>Nat.succ_le_succ (qJ r i)
theorem qV(its:List Value):∀(k:Nat) (acc:List Value),
 List.foldl (λb a=>b++a) acc.toArray (List.replicate k its.toArray)=(acc++(List.replicate k its).flatten).toArray
 |0,acc=>by simp
 | k+1,acc=>by
   have e:acc.toArray++its.toArray=(acc++its).toArray:=by simp
   have c:(acc++its)++(List.replicate k its).flatten=acc++(List.replicate (k+1) its).flatten:=by
    rw[Sw,SL,Ta]
   rw[<-c,<-qV its k (acc++its),<-e,Sw,Ts]
section
variable{X:Cx}{pins:L0}{Z:St}{H:Hp}{s:Shared}{l b:Addr}{xs ys zs:List V}
theorem Inv.lset{its its':List Value}{n:Nat}{f:Array Value->Array Value}{t':Nat}(I:Inv X pins Z H s)(h:H l=some (.lst xs))
 (e:s.heap.get? l=some {cls:=.type "list",data:=.seq its.toArray n}) (d:f its.toArray=its'.toArray) (b:Vals ys its') (a:ys.length<=sizeLine):
 Inv X pins Z (upd H l (.lst ys)) {s with heap:=s.heap.update l (Obj.mapSeq f),toks:=t'}:=by
 have q:=PySem.IsL.update e f;rw[d]at q;refine I.write (x:=l) (e:=l) (by rw[h];exact trivial) (.inl rfl) (λi u g c=>(Si s.heap (Obj.mapSeq f) (Th g)).trans c) ⟨_,q⟩ ?_;exact⟨a,its',_,b,q⟩
theorem Inv.lnew{its:List Value}{t':Nat}(I:Inv X pins Z H s)(b:Vals ys its)(a:ys.length<=sizeLine):
 Inv X pins Z (upd H s.heap.objs.size (.lst ys)) {s with heap:=s.heap.push {cls:=.type "list",data:=.seq its.toArray},toks:=t'}:=
 I.laid (λ_ _ q=>RM _ q) (RU _) ⟨a,its,0,b,Sb _ rfl⟩
theorem Inv.fresh(I:Inv X pins Z H s):H s.heap.objs.size=none:=I.hok.fresh (RU _)
theorem Inv.lstM(I:Inv X pins Z H s)(a:H l=some (.lst xs)):xs.length<=sizeLine/\∃(its:List Value) (n:Nat),Vals xs its/\xs.length=its.length/\s.heap.get? l=some {cls:=.type "list",data:=.seq its.toArray n}:=by
 obtain⟨z,its,n,r,e⟩:=I.hok l _ a;exact⟨z,its,n,r,r.length,e⟩
theorem C8{n:Nat}(h:n<=sizeLine):Builtin.List.listTooLong n=false:=by
 unfold Builtin.List.listTooLong;exact decide_eq_false (by omega)
end
section
variable{X:Cx}
def kL:V->List V->Hp->VK->Prop:=λx vs H Q=>∃l xs y,x=.ref l/\vs=[y]/\H l=some (.lst xs)/\xs.length<sizeLine/\Q .non (upd H l (.lst (xs++[y])))
theorem dh:Rx X "list.append" kL:=by
 intro a s Z H x vs v us Q I c d h;obtain⟨l,xs,y,rfl,rfl,b,g,q⟩:=h;cases c;obtain⟨u,rfl,f⟩:=d.one;obtain⟨z,its,n,r,i,e⟩:=I.lstM b;refine UK F.slot_list_append ⟨_,e,rfl⟩ F.entry_list_append (F.args_list_append_2 _ _) (PySem.list_append l its.toArray n u (by rw[RT];omega)) ⟨e,?_⟩;refine⟨.non,_,I.lset (its':=its++[u]) b e (by simp) (r.append (.cons f .nil)) ?_,rfl,q⟩;rw[RK,Sv];omega
def Cj:V->List V->Hp->VK->Prop:=λx vs H Q=>∃l xs i k y,x=.ref l/\vs=[.int i]/\H l=some (.lst xs)/\-(2 ^ 63)<=i/\i<2 ^ 63/\seqIndex? i xs.length=some k/\xs[k]?=some y/\Q y (upd H l (.lst (xs.eraseIdx k)))
theorem De:Rx X "list.pop" Cj:=by
 intro b s Z H x vs v us Q I d f h;obtain⟨l,xs,i,k,y,rfl,rfl,c,B,A,p,j,q⟩:=h;cases d;obtain⟨u,rfl,g⟩:=f.one;obtain⟨t,rfl⟩:=g;obtain⟨z,its,n,r,o,e⟩:=I.lstM c;obtain⟨w,m,a⟩:=r.get j
 refine UK F.slot_list_pop ⟨_,e,rfl⟩ F.entry_list_pop (F.args_list_pop_2 _ _)
  (MeetsSeq.list_pop_at l its.toArray n i t k w (fitsIndex_both B A) (by rw[RT,<-o];exact p) (by rw[<-SV];exact m) (by rw[RT];omega)) ⟨e,?_⟩
 refine⟨y,_,I.lset (its':=its.eraseIdx k) c e ?_ (r.eraseIdx k) ?_,a,q⟩
 ·show its.toArray.eraseIdxIfInBounds k=(its.eraseIdx k).toArray;rw[List.eraseIdxIfInBounds_toArray]
 · have:=qJ xs k
   omega
def Cp:V->List V->Hp->VK->Prop:=λx vs H Q=>∃l xs,x=.ref l/\vs=[]/\H l=some (.lst xs)/\Q .non (upd H l (.lst []))
theorem Df:Rx X "list.clear" Cp:=by
 intro b s Z H x vs v us Q I d f h;obtain⟨l,xs,rfl,rfl,c,q⟩:=h;cases d;have a:=f.zero;subst a;obtain⟨z,its,n,r,g,e⟩:=I.lstM c;refine UK F.slot_list_clear ⟨_,e,rfl⟩ F.entry_list_clear (F.args_list_clear_1 _) (AutoSeq1.list_clear_list_0 l its.toArray n (by rw[RT];omega)) ⟨e,?_⟩;exact⟨.non,_,I.lset (its':=[]) (ys:=[]) c e rfl .nil (SR _),rfl,q⟩
def Kz:R2:=λx y H Q=>∃l b xs a,x=.ref l/\y=.ref b/\H l=some (.lst xs)/\H b=some (.lst a)/\xs.length+a.length<=sizeLine/\∀p,H p=none->Q (.ref p) (upd H p (.lst (xs++a)))
theorem wy:l6 X (binaryOp .Add) Kz:=by
 intro c s Z H x y v u Q I f d h;obtain⟨l,b,xs,p,rfl,rfl,j,k,A,q⟩:=h;cases f;cases d;obtain⟨z,its,n,r,B,e⟩:=I.lstM j;obtain⟨t,a,w,g,i,o⟩:=I.lstM k;refine PySem.P.add_list e o ?_ (by rw[RT,RT];omega);have m:its.toArray++a.toArray=(its++a).toArray:=by simp
 rw[m];exact⟨.ref _,_,I.lnew (t':=s.toks) (r.append g) (by rw[RK];omega),rfl,q _ I.fresh⟩
def Oj:R2:=λx y H Q=>∃l k xs,x=.ref l/\y=.int k/\H l=some (.lst xs)/\-(2 ^ 63)<=k/\k<2 ^ 63/\xs.length*k.toNat<=sizeLine/\
 ∀p,H p=none->Q (.ref p) (upd H p (.lst (List.replicate k.toNat xs).flatten))
theorem GO{W:Type}(xs:List W)(k:Nat):(List.replicate k xs).flatten.length=k*xs.length:=by
 induction k with
 |zero=>simp
 |succ k a=>rw[Sw,SL,RK,a,Nat.succ_mul,Nat.add_comm]
theorem K4:l6 X (binaryOp .Mult) Oj:=by
 intro o s Z H x y v u Q I A w h;obtain⟨l,k,xs,rfl,rfl,C,E,D,p,q⟩:=h;cases A;obtain⟨t,rfl⟩:=w;obtain⟨z,its,n,r,B,e⟩:=I.lstM C;have d:its.toArray.size*k.toNat<=sizeLine:=by rw[RT,<-B];exact p
 have g:¬ its.toArray.size*k.toNat>(2 ^ 63-1) / 8:=by
  have:(sizeLine:Nat)<=(2 ^ 63-1) / 8:=by decide
  omega
 have f:¬ (!Builtin.List.listFitsIndex k)=true:=by
  rw[fitsIndex_both E D];exact RQ
 have b:¬ Builtin.List.listTooLong (its.toArray.size*k.toNat)=true:=by
  rw[C8 d];exact RQ
 have c:List.foldl (λj i=>j++i) #[] (List.replicate (if its.toArray.isEmpty=true then 0 else k.toNat) its.toArray)=(List.replicate k.toNat its).flatten.toArray:=by
  have G:∀m:Nat,List.foldl (λj i=>j++i) #[] (List.replicate m its.toArray)=(List.replicate m its).flatten.toArray:=λm=>by
   have:=qV its m []
   rw[List.nil_append]at this;exact this
  rw[G];cases its with
  |nil=>simp
  |cons a J=>rw[RE (by simp)]
 refine wpAny_binaryOp_repeat_ref (T := "list") (U := "int") (by decide) ⟨_,e,rfl⟩ (λs'=>typeIs_int s' k t) noFill_list_mul F.fills_int_mul F.slot_int_rmul repeat_list F.slot_int_index.lookup
  (UK F.slot_int_rmul (typeIs_int s k t) F.entry_int_rmul (F.args_int_rmul_2 _ _) (int___rmul___int_list k t l its.toArray n)
    ⟨e,rfl,⟨_,e,rfl⟩,UK F.slot_list_mul ⟨_,e,rfl⟩ F.entry_list_mul (F.args_list_mul_2 _ _) (AutoListH.list___mul___list_int_3 l its.toArray n k t f g b) ⟨e,?_⟩⟩)
 rw[c];exact⟨.ref _,_,I.lnew (t':=s.toks) (r.rep k.toNat) (by rw[GO,Nat.mul_comm];exact p),rfl,q _ I.fresh⟩
end
end L2
namespace Att
open PySem PySem.W PySem.Calls PyProof.Rows
theorem mV{P:Params}{h:Heap}:∀(ns:List Int) (vs:List Value),WellAll P h vs (ns.map WData.int)->IntsAre vs ns:=by
 intro ns
 induction ns with
 |nil=>
   intro vs w;rw[SM]at w;cases w;exact .nil
 |cons n ns c=>
   intro vs w;rw[RJ]at w;cases w with
   |cons a b=>
     cases a;exact .cons _ _ (c _ b)
theorem zR{l:OpenLaw}{n:Nat}(u:l.most=some n){P:Params}{h:Heap}{args:List WData}{b:List Value}
 (c:l.row.toRowW.claim.pre args=true) (j:WellAll P h b args):
 ∃a vs ns,b=[Value.ref a]/\args=[WData.list (ns.map WData.int)]/\h.get? a=some {cls:=.type "list",data:=.seq vs.toArray}/\IntsAre vs ns/\ns.length<=n:=by
 have k:WShape.hasAll [] args [.list .int]=true:=(pre_splitW c).1;have m:l.pre.holds [] {args:=args}=true:=(pre_splitW c).2;obtain⟨d,r,rfl,x,w⟩:=hasAllW_cons k;obtain rfl:=hasAllW_nil w;obtain⟨xs,rfl,v⟩:=hasW_list x;obtain⟨ns,rfl⟩:=items_int v
 have e:ns.length<=n:=by
  unfold OpenLaw.pre at m
  have i:(WTm.not (.lt (.lit (.int (n:Int))) (.len (.arg 0)))).holds [] {args:=[.list (ns.map .int)]}=true:=by
   have i:=(holds_andW m).1;rw[u]at i;exact i
  have g:=condW_of i (w_not (w_lt w_lit (w_len_list (w_arg rfl))));rw[RH]at g;refine Nat.le_of_not_lt λq=>?_;have s:(n:Int)<((ns.length:Nat):Int):=by omega
  first
   |(rw[SX s]at g;exact absurd g (by decide))
   |(simp at g;omega)
 cases j with
 |cons p o=>
   cases o;cases p with
   |list t f=>exact⟨_,_,ns,rfl,rfl,t,mV ns _ f,e⟩
theorem zY(l:OpenLaw)(args:List WData):l.row.toRowW.claim.post args (.bool true) args=true:=
 postW_of (r:=l.row.toRowW) (X:=(true==true))
  (show WShape.has [] (.bool true) .bool=true by first | rfl | decide | simp[WShape.has,WShape.arms,WShape.armsAll])
  (show(WTm.eq .res (.lit (.bool true))).value [] {args:=args,res:=some (.bool true),after:=args}=some (.bool (true==true)) from w_eq_bool (w_res rfl) w_lit) rfl
theorem vT{l:OpenLaw}{n:Nat}{q:Program}{loose:List Str}{XP:(Str->Option Value)->Heap->Prop}{z:World->Heap->Prop}{d:DefRec}
 (D:l.most=some n) (t:d.params.defaults=[])
 (call:∀(w:World) (s₀ b:Shared) (mg m:Str->Option Value) (j:Addr) (o:Obj) (pm k e:Value) (a:Addr) (vs:List Value) (ns:List Int),
   Ground q loose [] XP w s₀ mg m b.heap->z w b.heap->
   b.heap.get? j=some o->o.data=.func (docDef d.name d.params d.body d.scope pm k e)->b.heap.CodeRec k d.name->mg d.name=some (.ref j)->
   b.heap.get? a=some {cls:=.type "list",data:=.seq vs.toArray}->IntsAre vs ns->ns.length<=n->b.gens=#[]->
   codeAny (model l.prog w) callerA (.call (.ref j) ⟨[.ref a],[]⟩) (λr s'=>r=.ok (.ret (.bool true))/\OldK b.heap s'.heap/\s'.os=b.os/\AllBare s'.gens) b):
 WalkO q loose XP z l.row.toRowW d [] (λf vs=>PySem.call f vs):=by
 intro w s₀ b mg m G Y j o pm k e L kV C hd u y s H args v M g x A p F;obtain rfl:L=.none:=Dflts.none y t;obtain rfl:kV=.none:=Dflts.noKw y;obtain⟨a,vs,ns,rfl,rfl,h,c,i⟩:=zR D g p;refine enter_call (TY (call w s₀ b mg m j o pm k e a vs ns G Y C (fd_plain hd) u s h c i H) λr s' B=>?_);obtain⟨rfl,K,J,I⟩:=B;exact⟨.inl ⟨.bool true,.bool true,[],rfl,λ_=>rfl,.bool true,zY l _,λ_=>⟨List.Pairwise.nil,λ_ E=>(nomatch E)⟩⟩,K,J,I⟩
end Att
namespace L2
open PySem PySem.Spec PyProof.Rows
theorem qq:∀{vs:List Value} {ns:List Int},IntsAre vs ns->Vals (ns.map V.int) vs
 |_,_,.nil=>.nil
 |_,_,.cons n t h=>.cons ⟨t,rfl⟩ (qq h)
abbrev Tbs:=List (Addr×Pos×Str)
def Tbs.at(T:Tbs)(b:Addr):List (Pos×Str):=(T.filter λp=>p.1==b).map (·.2)
def Tbs.ok(T:Tbs):Prop:=∀y∈T,∀z∈T,y.2.1.line=z.2.1.line->y.2.1.col=z.2.1.col->y.2.2=z.2.2
theorem Tbs.mem{T:Tbs}{b:Addr}{y:Pos×Str}:y∈T.at b↔(b,y)∈T:=by
 unfold Tbs.at;simp only[List.mem_map,List.mem_filter,beq_iff_eq];constructor
 ·rintro⟨⟨c,x⟩,⟨e,d⟩,a⟩;dsimp only at d a;subst d a;exact e
 ·intro h;exact⟨(b,y),⟨h,rfl⟩,rfl⟩
def Fx(T:Tbs)(H:Hp):Prop:=(∀p∈T,H p.1=some (.tbl (T.at p.1)))/\∀b,H b=none\/(∃o xs,H b=some (.frz o (.lst xs)))\/H b=some (.tbl (T.at b))
theorem Em{P:Program}{w:World}{K:F0}{mg mb:Str->Option Value}{CX:xK}{k:Nat}{fa a:Addr}{fd:FuncData}{x:Str}{sp:Sp}{f:Shared}{vs:List Value}{ns:List Int}{T:Tbs}
 (KX:K.In f.heap) (Y:f.heap.Ns mainGlobals mg) (i:f.heap.Ns builtinsNs mb) (hbb:∀x:Str,x ≠ "__name__" -> mb x=bootBuiltins x) (Z:f.heap.NoLimit) (hg:f.gens=#[])
 (hbm:∃bm ob,mg "__builtins__" = some (.ref bm)/\bm≠builtinsNs/\f.heap.get? bm=some ob/\ob.cls=.type "module" /\ ob.dict=some builtinsNs/\ob.data=.plain)
 (hT:∀p∈T,∃c,PySem.W.CodeHd f.heap c p.1/\f.heap.get? p.1=some (PySem.W.tabObj #[])) (hTK:∀p∈T,K.lookup p.1=none) (hTo:T.ok)
 (N:f.heap.get? a=some {cls:=.type "list",data:=.seq vs.toArray}) (hi:IntsAre vs ns) (hl:ns.length<=sizeLine) (hr:Room k callerA)
 (F:∀base:Heap,K.In base->base.Ns mainGlobals mg->(∀c P,PySem.W.CodeHd f.heap c P->PySem.W.CodeHd base c P)->FnOk P w K mg base CX k fa fd [x] sp) (I:∀(s:Shared) (u:Value),BindsTo s fd ⟨[u],[]⟩ [(x,u)])
 (hsp:∀H:Hp,Fx T H->SqL K H a (ns.map V.int)->sp [.ref a] H (λv _=>v=.bl true) λ_ _ _=>False)
 (hCX:∀H e s',CX [] H f (λ_ _ _=>False) e s'->False):
 codeAny (model P w) callerA (.call (.ref fa) ⟨[.ref a],[]⟩) (λr s'=>r=.ok (.ret (.bool true))/\OldK f.heap s'.heap/\s'.os=f.os/\AllBare s'.gens) f:=by
 have rv:=qq hi;have X:=hi.length
 -- from an O heap in which U but the C and the tables may be Q
 have core:∀H:Hp,Fx T H->SqL K H a (ns.map V.int)->HOk P w H f.heap->(∀b,H b≠none->b=a\/∃p∈T,p.1=b)->(H a≠none->K.lookup a=none)->
  codeAny (model P w) callerA (.call (.ref fa) ⟨[.ref a],[]⟩) (λr s'=>r=.ok (.ret (.bool true))/\OldK f.heap s'.heap/\s'.os=f.os/\AllBare s'.gens) f:=by
  intro H hO hS hok hA hK;have g:∀{b:Addr} {o:Obj},f.heap.get? b=some o->H b=none->(oH f.heap H).get? b=some o:=λe n=>Ez e n
  have noB:∀{b:Addr} {o:Obj},f.heap.get? b=some o->o≠{cls:=.type "list",data:=.seq vs.toArray}->o≠PySem.W.tabObj #[]->H b=none:=λ{b o} e M d2=>by
   cases q:H b with
   |none=>rfl
   |some u=>
     rcases hA b (by rw[q];simp) with j | ⟨p,hp,j⟩
     ·subst j;rw[N]at e;exact absurd (R9 e).symm M
     ·subst j;obtain⟨_,_,e2⟩:=hT p hp;rw[e2]at e;exact absurd (R9 e).symm d2
  have noA:∀{b:Addr} {o:Obj} {es:Array DictEntry} {ep:Nat},f.heap.get? b=some o->o.data=.dict es ep->H b=none:=λ{b o es ep} e d=>
   noB e (λz=>by rw[z]at d;cases d) (λz=>by rw[z]at d;cases d)
  have D:∀{b:Addr} {m:Str->Option Value},f.heap.Ns b m->(oH f.heap H).Ns b m:=λ{b m} ⟨o,es,ep,e,d,r⟩=>⟨o,es,ep,g e (noA e d),d,r⟩
  have hKb:K.In (oH f.heap H):=λb o e=>g (KX b o e) (by
   cases q:H b with
   |none=>rfl
   |some u=>
     rcases hA b (by rw[q];simp) with j | ⟨p,hp,j⟩
     ·subst j;rw[hK (by rw[q];simp)]at e;cases e
     · subst j
       rw[hTK p hp]at e;cases e)
  have hbm':∃bm ob,mg "__builtins__" = some (.ref bm)/\bm≠builtinsNs/\(oH f.heap H).get? bm=some ob/\ob.cls=.type "module" /\ ob.dict=some builtinsNs/\ob.data=.plain:=by
   obtain⟨bm,ob,h1,h2,h3,h4,h5,h6⟩:=hbm;exact⟨bm,ob,h1,h2,g h3 (noB h3 (λz=>by rw[z]at h6;cases h6) λz=>by rw[z]at h6;cases h6),h4,h5,h6⟩
  have hcd:∀c P,PySem.W.CodeHd f.heap c P->PySem.W.CodeHd (oH f.heap H) c P:=λc P h=>by
   obtain⟨o,vs',file,tf,J,tg,Pt,R,tt,e,A,r⟩:=h;exact⟨o,vs',file,tf,J,tg,Pt,R,tt,g e (noB e (λz=>by rw[z]at A;simp at A) λz=>by rw[z]at A;simp at A),A,r⟩
  have hM:Mod K mg (oH f.heap H):=⟨hKb,D Y,⟨mb,D i,hbb⟩,(let ⟨mc,h1,h2⟩:=Z;⟨mc,D h1,h2⟩),hbm'⟩;have e0:Env0 P w K mg (oH f.heap H) callerA [] f H:=⟨rfl,hM,λb o e=>Gv e,Nat.le_of_eq (At _ _),trivial,λb i=>absurd (show b∈([]:List Addr) from i) (by simp),hok,.of_eq hg⟩;refine TY ((F _ hKb (D Y) hcd).run callerA [] f H ⟨[.ref a],[]⟩ [.ref a] [.ref a] _ _ hr e0 (I f (.ref a)) (.cons rfl .nil) (hsp H hO hS)) λr s' h=>?_;cases r with
  |error e=>exact(hCX H e s' h).elim
  |ok fl=>
    cases fl with
    |next=>exact False.elim h
    |brk=>exact False.elim h
    |cont=>exact False.elim h
    |ret u=>
      obtain⟨v,H',os,bare,un,E,r',q⟩:=h;have q':v=.bl true:=q;subst q';obtain rfl:u=Value.bool true:=r';refine⟨rfl,⟨λb o e=>?_,λb o e=>un.there b o e (by simp)⟩,os,bare⟩;cases q:H b with
      |none=>exact .inl (un.keep b o e q (by intro z;exact absurd (show b∈([]:List Addr) from z) (by simp)) (by simp))
      |some u=>
        rcases hO.2 b with z|⟨ob,xs,z⟩|z
        ·rw[q]at z;cases z
        ·have z2:=un.frzs b ob _ z;obtain⟨e1,_⟩:=hok b _ z;obtain⟨e2,_⟩:=E b _ z2;rw[e]at e1;cases e1;exact .inl e2
        · have z2:=(un.tbls b _ z).1;obtain⟨_,ps,e2,_⟩:=E b _ z2
          have hb':∃p∈T,p.1=b:=by
           rcases hA b (by rw[q];simp) with j | j
           ·subst j;obtain⟨_,ps',l,_⟩:=hok b _ z;rw[N]at l;cases l
           ·exact j
          obtain⟨p,hp,j⟩:=hb';obtain⟨c,A,l⟩:=hT p hp;rw[j]at l A;rw[e]at l;cases l;refine .inr (.inl ⟨(A.tab (ps:=#[]) e).isCodeTable,rfl,#[],ps,rfl,?_⟩);rw[e2];simp
 have t:∀(H:Hp) (b:Addr),(∃p∈T,p.1=b)->ObjOk P w H f.heap b (.tbl (T.at b)):=λH b ⟨p,hp,e⟩=>by
  obtain⟨c,A,l⟩:=hT p hp;rw[e]at l;exact⟨λy hy z hz h1 h2=>hTo _ (Tbs.mem.mp hy) _ (Tbs.mem.mp hz) h1 h2,#[],l,trivial,λy hy=>.inl rfl⟩
 have G:∀p∈T,p.1≠a:=λp hp z=>by
  obtain⟨c,A,l⟩:=hT p hp;rw[z,N]at l;cases l
 cases hk:K.lookup a with
 |some o=>
   -- the C is one of the L own S
   have e:=KX a o hk;rw[N]at e;cases e;have hTa:¬ ∃p∈T,p.1=a:=λ⟨p,hp,z⟩=>G p hp z;have dec:∀b,Decidable (∃p∈T,p.1=b):=λb=>Classical.propDecidable _;refine core (λb=>if ∃p∈T,p.1=b then some (.tbl (T.at b)) else none) ⟨λp hp=>RF ⟨p,hp,rfl⟩,λb=>?_⟩ (.inr ⟨_,vs.toArray,_,hk,rfl,rfl,rfl,by rw[RT,X];exact hl,by simpa using rv⟩) (λb u z=>?_) (λb z=>?_) λz=>absurd (RE hTa) z
   · by_cases h:∃p∈T,p.1=b
     ·exact .inr (.inr (RF h))
     ·exact .inl (RE h)
   · by_cases h:∃p∈T,p.1=b
     ·have B:=(RF h).symm.trans z;cases B;exact t _ b h
     ·have B:=(RE h).symm.trans z;cases B
   · by_cases h:∃p∈T,p.1=b
     ·exact .inr h
     ·exact absurd (RE h) z
 |none=>
   have dec:∀b,Decidable (∃p∈T,p.1=b):=λb=>Classical.propDecidable _;have hTa:∀{b},(∃p∈T,p.1=b)->b≠a:=λ⟨p,hp,z⟩ e=>G p hp (z.trans e);refine core (λb=>if b=a then some (.frz {cls:=.type "list",data:=.seq vs.toArray} (.lst (ns.map V.int))) else if ∃p∈T,p.1=b then some (.tbl (T.at b)) else none) ⟨λp hp=>(RE (G p hp)).trans (RF ⟨p,hp,rfl⟩),λb=>?_⟩ (.inl (.inr ⟨{cls:=.type "list",data:=.seq vs.toArray},RF rfl⟩)) (λb u z=>?_) (λb z=>?_) λ_=>hk
   · by_cases i:b=a
     ·exact .inr (.inl ⟨_,_,RF i⟩)
     · by_cases h:∃p∈T,p.1=b
       ·exact .inr (.inr ((RE i).trans (RF h)))
       ·exact .inl ((RE i).trans (RE h))
   · by_cases i:b=a
     ·have B:=(RF i).symm.trans z;cases B;subst i;exact⟨N,by rw[RH];exact hl,vs,_,rv,N⟩
     · by_cases h:∃p∈T,p.1=b
       ·have B:=((RE i).trans (RF h)).symm.trans z;cases B;exact t _ b h
       ·have B:=((RE i).trans (RE h)).symm.trans z;cases B
   · by_cases i:b=a
     ·exact .inl i
     · by_cases h:∃p∈T,p.1=b
       ·exact .inr h
       ·exact absurd ((RE i).trans (RE h)) z
abbrev Tns:=List (Str×Pos×Str)
structure TabsOf (mg:Str->Option Value) (h:Heap) (N:Tns) (T:Tbs):Prop where
 all:∀n∈N,∃P,(P,n.2)∈T/\∃a o fd c,mg n.1=some (.ref a)/\h.get? a=some o/\o.data=.func fd/\fd.code=.ref c/\PySem.W.CodeHd h c P
theorem qr{p:Program}{loose:List Str}{b:ExcName->Option Value}{mg s:Str->Option Value}{h:Heap}(l:PyProof.Rows.Top p loose b mg s h):∀(N:Tns),(∀n∈N,n.1∈(PyProof.Rows.recsOf p).map (·.name))->
 ∃T:Tbs,TabsOf mg h N T/\(∀q∈T,∃c,PySem.W.CodeHd h c q.1/\h.get? q.1=some (PySem.W.tabObj #[]))/\∀q∈T,∃n∈N,n.2=q.2
 |[],_=>⟨[],⟨λ_ h=>nomatch h⟩,λ_ h=>(nomatch h),λ_ h=>(nomatch h)⟩
 | n::N,j=>by
   obtain⟨T,w,v,u⟩:=qr l N λm f=>j m (on _ f);obtain⟨d,hd,e⟩:=Sn.mp (j n RG);obtain⟨a,o,fd,c,P,C,B,A,y,x,k⟩:=l.tab d hd;have i:=PySem.W.CodeHd.of x k;refine⟨(P,n.2)::T,⟨λm f=>?_⟩,λq g=>?_,λq g=>?_⟩
   · rcases RO.mp f with z|z
     ·subst z;exact⟨P,RG,a,o,fd,c,by rw[<-e];exact C,B,A,y,i⟩
     ·obtain⟨D,t,r⟩:=w.all m z;exact⟨D,on _ t,r⟩
   · rcases RO.mp g with z|z
     ·subst z;exact⟨c,i,k.2⟩
     ·exact v q z
   · rcases RO.mp g with z|z
     ·subst z;exact⟨n,RG,rfl⟩
     ·obtain⟨m,f,e⟩:=u q z;exact⟨m,on _ f,e⟩
def Tns.ok(N:Tns):Prop:=∀y∈N,∀z∈N,y.2.1.line=z.2.1.line->y.2.1.col=z.2.1.col->y.2.2=z.2.2
def C9(K:F0):Bool:=K.all λp=>match p.2.cls,p.2.data with
 |.none,.fields vs=>!vs.isEmpty
 |_,_=>true
theorem n8{W:Type}:∀{K:List (Nat×W)} {b:Nat} {o:W},K.lookup b=some o->(b,o)∈K
 | (c,x)::r,b,o,h=>by
   rw[Sx]at h;by_cases z:b=c
   ·subst z;rw[SW]at h;cases h;exact RG
   ·rw[beq_false_of_ne z]at h;exact on _ (n8 h)
theorem qi{K:F0}{h:Heap}{b:Addr}(X:K.In h)(c:C9 K=true)(e:h.get? b=some (PySem.W.tabObj #[])):K.lookup b=none:=by
 cases q:K.lookup b with
 |none=>rfl
 |some o=>
   have a:=X b o q;rw[e]at a;cases a
   have:=TH.mp c (b,PySem.W.tabObj #[]) (n8 q)
   cases this
theorem FK{l:PySem.W.OpenLaw}{n k:Nat}{q:Program}{loose:List Str}{XP:(Str->Option Value)->Heap->Prop}{YP:World->Heap->Prop}{d:DefRec}{K:Params->F0}{CX:World->xK}{sp:World->Tbs->Sp}{x:Str}(N:Tns)
 (hn:l.most=some n) (E:n<=sizeLine) (M:d.params.defaults=[]) (hr:Room k callerA)
 (hY:∀(w:World) (h:Heap),YP w h->(K w.params).In h) (hK:∀w:World,N≠[]->C9 (K w.params)=true) (hN:∀n∈N,n.1∈(PyProof.Rows.recsOf q).map (·.name)) (Q:Tns.ok N)
 (F:∀(w:World) (mg:Str->Option Value) (C:Addr) (h:Heap) (T:Tbs),(K w.params).In h->h.Ns mainGlobals mg->mg d.name=some (.ref C)->TabsOf mg h N T->
   ∃fd:FuncData,(∀(s:Shared) (u:Value),BindsTo s fd ⟨[u],[]⟩ [(x,u)])/\
    ∀base:Heap,(K w.params).In base->base.Ns mainGlobals mg->(∀c P,PySem.W.CodeHd h c P->PySem.W.CodeHd base c P)->FnOk l.prog w (K w.params) mg base (CX w) k C fd [x] (sp w T))
 (D:∀(w:World) (T:Tbs) (H:Hp) (a:Addr) (ns:List Int),ns.length<=n->Fx T H->SqL (K w.params) H a (ns.map V.int)->sp w T [.ref a] H (λv _=>v=.bl true) λ_ _ _=>False)
 (R:∀(w:World) (H:Hp) (s:Shared) (e:Value) (s':Shared),CX w [] H s (λ_ _ _=>False) e s'->False):
 PySem.W.WalkO q loose XP YP l.row.toRowW d [] (λf vs=>PySem.call f vs):=by
 refine Att.vT hn M λw s₀ t mg mb C o pm cd doc a vs ns G Y ho hd hcd I A j i hg=>?_;have X:=hY w _ Y;obtain⟨T,O,B,r⟩:=qr G.T N hN;obtain⟨fd,hb,hF⟩:=F w mg C _ T X G.T.g I O;refine Em (T:=T) X G.T.g G.T.b G.T.builtins G.T.nolimit hg G.T.bmain B (λp hp=>?_) (λy hy z hz h1 h2=>?_) A j (Su i E) hr hF hb (λH hO hS=>D w T H a ns i hO hS) λH e s'=>R w H t e s'
 ·obtain⟨c,_,e⟩:=B p hp;obtain⟨m,Z,_⟩:=r p hp;exact qi X (hK w (λz=>by rw[z]at Z;cases Z)) e
 ·obtain⟨m1,L,U⟩:=r y hy;obtain⟨m2,J,S⟩:=r z hz;rw[<-U,<-S];exact Q m1 L m2 J (by rw[U];exact h1 |>.trans (by rw[S])) (by rw[U];exact h2 |>.trans (by rw[S]))
def bI(s:Stmt)(j:Nat):Stmt:=match s with
 |.ClassDef _ _ _ body _ _ _ _ _ _ _=>body.getD j (.Pass ⟨0,0,0,0⟩)
 |_=> .Pass ⟨0,0,0,0⟩
def kZ(s:Stmt):Arguments:=match s with
 |.FunctionDef _ a _ _ _ _ _ _ _ _=>a
 |_=>{posonlyargs:=[],args:=[],vararg:=none,kwonlyargs:=[],kw_defaults:=[],kwarg:=none,defaults:=[]}
def d4(s:Stmt):List Stmt:=match s with
 |.FunctionDef _ _ b _ _ _ _ _ _ _=>b
 |_=>[]
def au(s:Stmt):Scope:=match s with
 |.FunctionDef _ _ _ _ _ _ sc _ _ _=>sc
 |_=>{kind:=.function,names:=[],isGenerator:=false,isCoroutine:=false}
abbrev RD:xK:=λ_ _ _ _ _ _=>False
abbrev E0:XK:=λ_ _ _=>False
structure Fun (K:F0) (x qual:Str) (st:Stmt) (f:Addr) (fd:FuncData):Prop where
 ex:∃(oc:Value) (od:Option Addr) (kV doc pm:Value) (an:Option Addr) (cdv ct:Value) (osl:Array (Option Value)),
  fd=PySem.W.fnOf x qual (kZ st) (d4 st) (au st) .none kV doc pm an cdv ct/\K.lookup f=some ⟨oc,od,.func fd,osl⟩/\PySem.W.codeIn K cdv qual=true
 kp:PySem.W.keepIn K (.ref f)=true
section
variable{P:Program}{w:World}{K:F0}{mg:Str->Option Value}{base:Heap}
theorem Fun.binds{x qual:Str}{st:Stmt}{f:Addr}{fd:FuncData}{ps:List Str}(F:Fun K x qual st f fd)
 (h:∀(kV a pm:Value) (an:Option Addr) (b ct:Value) (us:List Value),us.length=ps.length->bindArgs (PySem.W.fnOf x qual (kZ st) (d4 st) (au st) .none kV a pm an b ct) ⟨us,[]⟩=pure (ps.zip us)):Binds K fd ps []:=by
 obtain⟨oc,e,kV,a,pm,an,b,ct,c,rfl,lk,d⟩:=F.ex;exact .all (h kV a pm an b ct)
theorem Mb{x qual:Str}{st:Stmt}{f:Addr}{oc:Value}{e an:Option Addr}{d:Array (Option Value)}{kV b pm a ct:Value}(l:K.lookup f=some ⟨oc,e,.func (PySem.W.fnOf x qual (kZ st) (d4 st) (au st) .none kV b pm an a ct),d⟩)
 (c:PySem.W.codeIn K a qual=true) (k:PySem.W.keepIn K (.ref f)=true):Fun K x qual st f (PySem.W.fnOf x qual (kZ st) (d4 st) (au st) .none kV b pm an a ct):=⟨⟨oc,e,kV,b,pm,an,a,ct,d,rfl,l,c⟩,k⟩
end
theorem gu{A:Around}{k:Nat}(a:Room k A):A.units+1<cLine:=SN (Nat.add_le_add_left (by decide:1<=64) _) a.units
theorem zP{n:Nat}(h:n<=1000):n<sizeLine:=SN h (by decide)
section
variable{X:Cx}
theorem pv(i:Nat){x:Str}{pos:Pos}(c:X.N[i]?=some x:=by rfl)(b:Rt X.env.scope x:=by first | exact Or.inl rfl | exact Or.inr (Or.inl rfl) | exact Or.inr (Or.inr rfl))(hd:(x == ("__debug__" : Str))=false:=by decide)
 (a:(x==("__classdict__" : Str))=false:=by decide):PE X (.Name x pos) (eT i):=KJ c b hd a
end
def Same(H H':Hp):Prop:=∀b o,H b=some o->H' b=some o
theorem Same.refl(H:Hp):Same H H:=λ_ _ h=>h
theorem Same.trans{H L d:Hp}(a:Same H L)(b:Same L d):Same H d:=λc o h=>b c o (a c o h)
theorem Same.free{H H':Hp}(e:Same H H'){l:Addr}(h:H' l=Option.none):H l=Option.none:=by
 cases q:H l with
 |none=>rfl
 |some o=>
   rw[e l o q]at h;cases h
def cC(env:Env):List (Str×NameKind)->List (Str×Addr)->List (Str×Addr)
 |[],acc=>acc
 |(n,k)::r,acc=>if (k==NameKind.free)=true then cC env r ((n,(env.cells.lookup n).getD 0)::acc) else cC env r acc
theorem iw{env:Env}{y:Str}{c:Addr}:∀{l:List (Str×NameKind)} {acc:List (Str×Addr)},(∀z∈l,z.2=.free->∃c,env.cells.lookup z.1=some c)->(cC env l acc).lookup y=some c->
 acc.lookup y=some c\/env.cells.lookup y=some c
 |[],acc,_,h=>.inl h
 | (n,k)::r,acc,b,h=>by
   unfold cC at h;split at h
   · rename_i f;rcases iw (λz a=>b z (on _ a)) h with e|e
     · by_cases q:(y==n)=true
       · have g:y=n:=by simpa using q
         subst g;obtain⟨i,d⟩:=b (y,k) List.mem_cons_self (by simpa using f);dsimp only at d;rw[List.lookup_cons,beq_self_eq_true,d]at e;exact .inr (d.trans e)
       ·rw[Bool.not_eq_true]at q;rw[Sx,q]at e;exact .inl e
     ·exact .inr e
   ·exact iw (λz a=>b z (on _ a)) h
theorem iy{env:Env}{y:Str}:∀{l:List (Str×NameKind)} {acc:List (Str×Addr)},((y,NameKind.free)∈l\/∃c,acc.lookup y=some c)->∃c,(cC env l acc).lookup y=some c
 | [],acc,h=>by
   rcases h with h|h
   ·cases h
   ·exact h
 | (n,k)::r,acc,h=>by
   unfold cC;split
   · rename_i a;refine iy ?_;by_cases q:(y==n)=true
     ·exact .inr ⟨_,by rw[Sx,q]⟩
     · rw[Bool.not_eq_true]at q;rcases h with h|⟨c,h⟩
       · rcases RO.mp h with e|e
         ·cases e;rw[SW]at q;cases q
         ·exact .inl e
       ·exact .inr ⟨c,by rw[Sx,q];exact h⟩
   · rename_i a;refine iy ?_;rcases h with h|h
     · rcases RO.mp h with e|e
       ·cases e;exact absurd (by rfl) a
       ·exact .inl e
     ·exact .inr h
theorem iV{scope:Scope}{env:Env}{y:Str}{k:NameKind}(h:(relabel scope env).names.lookup y=some k):∃k',(y,k')∈scope.names/\(k'=k\/(k'= .free/\k=.cell)):=by
 obtain⟨⟨n,k0⟩,a,e⟩:=List.mem_map.mp (PySem.mem_of_lookup h);dsimp only at e;split at e
 ·rename_i b;simp only[S7,Tj]at b;cases e;exact⟨k0,a,.inr ⟨b.1.1,rfl⟩⟩
 ·cases e;exact⟨_,a,.inl rfl⟩
structure CompSc (osc sc:Scope) (x:Str) (cs:List Str):Prop where
 kind:sc.kind=.function
 cell:∀y∈sc.names,y.2≠ .cell
 loc:∀y∈sc.names,y.2=.local->sc.names.lookup y.1=some .local
 var:sc.names.lookup x=some .local
 cap:∀y∈cs,(osc.names.lookup y=some .cell\/osc.names.lookup y=some .free)/\sc.names.lookup y=some .free
 free:∀y∈sc.names,y.2=.free->osc.names.lookup y.1=some .cell\/osc.names.lookup y.1=some .free
 nd:(x::cs).Nodup
def jb(X:Cx)(scope:Scope)(b:List (Str×Addr))(C:Addr)(N:List Str)(a:List Addr)(s₀:Shared)(H₀:Hp):Cx where
 prog:=X.prog
 w:=X.w
 K:=X.K
 mg:=X.mg
 base:=X.base
 A:=X.A
 N:=N
 s₀:=s₀
 H₀:=H₀
 env:=compEnvC scope b C X.env
 outer:=X.stack
 stack:=X.stack
 ex:=a
 fn:=λ_=>false
 calm:=X.calm
 pn:=[]
 xe:=λ_ _=>False
def iP(Z:St)(ix:List Nat):St:=ix.map λj=>(Z[j]?).join
section
variable{X:Cx}{pins:L0}{Z:St}{H:Hp}{s:Shared}{scope:Scope}{x:Str}{cs:List Str}{ix:List Nat}{fp:List Addr}
theorem vL(I:Inv X pins Z H s)(a:CompSc X.env.scope scope x cs):∀y∈scope.names,y.2=.free->∃c,X.env.cells.lookup y.1=some c:=λy b d=>I.ok.has _ (a.free y b d)
theorem Eu{g:Heap}{t₁:Nat}{U:Str->Option Value}(I:Inv X pins Z H s)(n:CompSc X.env.scope scope x cs)(D:ix.map (λi=>X.N[i]?)=cs.map some)(K:∀b∈fp,qc X pins H b)
 (P:∀b∈fp,b<s.heap.objs.size) (hn:g.Ns s.heap.objs.size U) (J:∀b o,s.heap.get? b=some o->g.get? b=some o):
 Inv (jb X scope (cC X.env scope.names []) s.heap.objs.size (x::cs) fp s H) [] (none::iP Z ix) H {s with heap:=g,toks:=t₁}:=by
 have T:=vL I n
 have d:∀y c,(cC X.env scope.names []).lookup y=some c->X.env.cells.lookup y=some c:=λy c e=>by
  rcases iw T e with z|z
  ·cases z
  ·exact z
 have t:ix.length=cs.length:=by
  have:=congrArg List.length D
  rwa [RH,RH]at this
 refine⟨⟨I.ok.mod,n.kind,I.ok.glob,I.ok.blt,RU _,λy z c R E=>I.ok.inj y z c (d y c R) (d z c E),λy hy=>?_,λy c h=>(nomatch h),I.ok.hd,I.ok.frames,.inl rfl,λb A=>⟨Sc (P b A),λy c e=>(K b A).2.2.2.2.1 y c (d y c e)⟩,
  I.bs,Su I.ok.bsz I.sz,λb o e A=>?_,λb A Q=>?_,I.stack,I.stkFree⟩,rfl,I.bare,Un.kept J,⟨U,hn,λi y v R E h3=>?_⟩,λy c e=>?_,I.hok.fresh (RU _),λy c e=>I.freeC y c (d y c e),λp hp=>absurd (show p∈([]:L0) from hp) (by simp),I.hok.kept J,?_⟩
 · have M:(relabel scope X.env).names.lookup y=some .cell\/(relabel scope X.env).names.lookup y=some .free:=hy
   have:(y,NameKind.free)∈scope.names:=by
    rcases M with q|q
    · obtain⟨k',B,e|⟨e,_⟩⟩:=iV q
      ·subst e;exact absurd rfl (n.cell _ B)
      ·subst e;exact B
    · obtain⟨k',B,e|⟨_,e⟩⟩:=iV q
      ·subst e;exact B
      ·cases e
   exact iy (.inl this)
 · rcases(K b A).2.2.2.1 with z|z
   ·exact I.ok.noex b o e z
   ·exact absurd (RY (RS e) (Su I.ok.bsz z)) (S6 _)
 · rcases RO.mp (I.stkSub b Q) with z|z
   ·exact(K b A).2.1 z
   ·exact(K b A).2.2.1 z
 · -- a C name
   cases i with
   |zero=>
     have:(none::iP Z ix:St)[0]?=some none:=rfl
     rw[this]at E;cases E
   |succ j=>
     have F:cs[j]?=some y:=R;have f:(iP Z ix)[j]?=some (some v):=E;unfold iP at f;rw[List.getElem?_map]at f;cases S:ix[j]? with
     |none=>rw[S]at f;cases f
     |some k=>
       rw[S]at f;have L:(Z[k]?).join=some v:=R9 f
       have h5:Z[k]?=some (some v):=by
        cases e:Z[k]? with
        |none=>rw[e]at L;cases L
        |some w=>rw[e]at L;exact congrArg some L
       have h6:X.N[k]?=some y:=by
        have q:=congrArg (λl=>l[j]?) D;simp only[Sl,S,F,Uf]at q;exact R9 q
       obtain⟨c1,Y⟩:=n.cap y (Tz F);obtain⟨m,hn',hl⟩:=I.loc;obtain⟨u,r,l⟩:=hl k y v h6 h5 (c1.elim (λz=>.inr (.inl z)) λz=>.inr (.inr z));refine⟨u,r,?_⟩;rcases l with ⟨l,_⟩|⟨_,c,ec,hc⟩
       ·have V:X.env.scope.names.lookup y=some .local:=l;rcases c1 with z|z<;>(rw[z]at V;cases V)
       · obtain⟨c',G⟩:=iy (env:=X.env) (y:=y) (l:=scope.names) (acc:=[]) (.inl (S5 Y));have W:=d y c' G;rw[ec]at W;cases W;refine .inr ⟨?_,c,G,?_⟩
         · rcases h3 with z|z|z
           · have z':(relabel scope X.env).names.lookup y=some .local:=z;obtain ⟨k',B,e | ⟨_,e⟩⟩:=iV z'
             · subst e
               have:=n.loc _ B rfl
               dsimp only at this;rw[Y]at this;cases this
             ·cases e
           ·exact .inl z
           ·exact .inr z
         ·obtain⟨o,O,hd⟩:=hc;exact⟨o,J c o O,hd⟩
 ·obtain⟨v,o,O,hd⟩:=I.cell y c (d y c e);exact⟨v,o,J c o O,hd⟩
 ·show(none::iP Z ix:St).length=(x::cs).length;rw[RL,RL,iP,RH,t]
end
def Ny(X:Cx)(b:List Expr)(t:TT):Prop:=
 ∀(a:L0) (s:Shared) (Z:St) (H:Hp) (Q:Bool->Hp->Prop),Inv X a Z H s->t Z H Q->
  wpAny (model X.prog X.w) X.A (forIn b true λc r=>if r=true then do let ok <-isTrue c X.env (eval c X.env);pure (ForInStep.yield ok) else pure (ForInStep.yield r)) (TP X a Z Q) X.xe s
def NG:TT:=λ_ H Q=>Q true H
theorem nh{X:Cx}:Ny X [] NG:=λ_ _ _ H _ I h=>wpAny_tests_nil ⟨H,I,h⟩
theorem yg{X:Cx}{c:Expr}{t:TT}(h:PT X c t):Ny X [c] t:=λa s Z H Q I b=>wpAny_tests_one (h a s Z H Q I b)
section
variable{prog:Program}{w:World}{A:Around}{R:Result->Shared->Prop}{s:Shared}
theorem vK{o a iter:Expr}{k:List Expr}{scope:Scope}{pos:Pos}{B acc:Value}{env:Env}(I:Nat->Shared->Prop)
 (p:∀n s,I n s->wpAny (model prog w) A (pyNext B) (λr b=>match r with
   |none=>R (.ok .next) b
   |some v=>wpAny (model prog w) A (letOwnedTupleGo a B v) (λ_ b=>wpAny (model prog w) A (assign a env v) (λ_ g=>
      wpAny (model prog w) A (forIn k true λc r=>if r=true then do let ok <-isTrue c env (eval c env);pure (ForInStep.yield ok) else pure (ForInStep.yield r)) (λok d=>
       if ok=true then wpAny (model prog w) A (eval o env) (λx f=>
        wpAny (model prog w) A (call (.builtin "list.append") [acc,x]) (λ_ e=>∃m,m<n/\I m e) (λ_ _=>False) f) (λ_ _=>False) d
       else ∃m,m<n/\I m d) (λ_ _=>False) g) (λ_ _=>False) b) (λ_ _=>False) b) (λ_ _=>False) s)
 (n:Nat) (h:I n s):codeAny (model prog w) A (.compLoop (.ListComp o [⟨a,iter,k,0⟩] scope pos) 0 B acc env) R s:=by
 refine codeAny_loop rfl I (λn s D=>?_) n h;have up:∀{W:Type} {t:Sem W} {Q:W->Shared->Prop} {E:L1} {s:Shared},wpAny (model prog w) A t Q (λ_ _=>False) s->wpAny (model prog w) A t Q E s:=λh=>S3 h (λ_ _ z=>z) λ_ _ z=>z.elim;show wpAny _ A ((compTurn (.ListComp o [⟨a,iter,k,0⟩] scope pos) 0 B acc env).onRaise _) _ _ s;refine wpAny_noted (up ?_);rw[compTurn_list];refine no (Uy (no (bV (p n s D) λr b j=>?_)));cases r with
 |none=>exact RP j
 |some v=>
   refine no (bV j λ_ C l=>no (bV l λ_ g y=>no (bV y λok d i=>?_)));cases ok with
   |false=>exact RP ⟨rfl,i⟩
   |true=>exact no (no (bV i λx f u=>no (bV u λ_ e q=>RP (RP ⟨rfl,q⟩))))
end
def Fz(J:It)(τ:V->St)(g:TT)(te:TE)(p:Addr)(L:Hp)(Q:VK):Prop:=
 ∃W:Nat->Nat->List V->Hp->Prop,(∃m,W 0 m [] (upd L p (.lst [])))/\∀i m ys a,W i m ys a->a p=some (.lst ys)/\ys.length<sizeLine/\
  ((J.stop i a/\Q (.ref p) a)\/(J.go i a/\∀v f,J.yld i a v f->g (τ v) f λb e=>if b=true then te (τ v) e λy d=>d p=some (.lst ys)/\∃c,c<m/\W (i+1) c (ys++[y]) (upd d p (.lst (ys++[y])))
    else ∃c,c<m/\W (i+1) c ys e))
def qt(a:TI)(ix:List Nat)(b:TT)(te:TE):TE:=λZ H Q=>a Z H λJ L=>∀p,L p=none->Fz J (λv=>some v::iP Z ix) b te p L Q
section
variable{X:Cx}{pins:L0}{Z:St}{H:Hp}{s:Shared}{scope:Scope}{x:Str}{px pos:Pos}{cs:List Str}{ix:List Nat}{fp:List Addr}{elt iter:Expr}{ifs:List Expr}{ti:TT}{te:TE}
theorem pV{J:It}{it:Addr}{P:Nat->Heap->Prop}{Qe:VK}{RR:Value->Addr->Result->Shared->Prop}{E:L1}(M:X.calm=true)(I2:Inv X pins Z H s)(f:CompSc X.env.scope scope x cs)(hix:ix.map (λi=>X.N[i]?)=cs.map some)
 (T:Turn X.prog X.w X.K (.Name x px) J fp it P) (st0:P 0 s.heap) (t:∀b∈fp,qc X pins H b)
 (hti:∀C fp s₀ H₀,Ny (jb X scope (cC X.env scope.names []) C (x::cs) fp s₀ H₀) ifs ti) (hte:∀C fp s₀ H₀,PE (jb X scope (cC X.env scope.names []) C (x::cs) fp s₀ H₀) elt te)
 (hW:∀p,H p=none->Fz J (λv=>some v::iP Z ix) ti te p H Qe)
 (hRR:∀p C H' s',Inv X pins Z H' s'->qc X pins H' C->(∃m,s'.heap.Ns C m)->Qe (.ref p) H'->RR (.ref p) C (.ok .next) s'):
 wpAny (model X.prog X.w) X.A (newList []) (λacc R=>wpAny (model X.prog X.w) X.A (newFunctionEnv scope X.env.globals (cC X.env scope.names []) [] X.env.qual none .none (some X.env)) (λG Q=>
  codeAny (model X.prog X.w) X.A (.compStart (.ListComp elt [⟨.Name x px,iter,ifs,0⟩] scope pos) 0 (.ref it) acc { G with scope:=relabel scope X.env }) (RR acc G.locals) Q) E R) E s:=by
 refine wpAny_newObj_type (wpAny_newFunctionEnv f.cell (by intro y hy;simp at hy) (λg j h=>?_) f.kind);dsimp only at j h ⊢;have hD:H s.heap.objs.size=none:=I2.hok.fresh (Nat.le_refl _)
 have I3:Inv X pins Z (upd H s.heap.objs.size (.lst [])) {s with heap:=s.heap.push {cls:=.type "list",dict:=none,data:=.seq ([]:List Value).toArray}}:=
  I2.laid (t':=s.toks) (λb u e=>RM _ e) (RU _) ⟨SR _,[],0,.nil,Sb _ rfl⟩
 obtain⟨W,⟨m0,w0⟩,O⟩:=hW _ hD
 have F:∀b∈fp,b<s.heap.objs.size:=λb a=>by
  obtain⟨o,e,_⟩:=T.obj 0 _ st0 b a;exact RS e
 have hlt:∀b∈fp,b<(s.heap.push {cls:=.type "list",dict:=none,data:=.seq ([]:List Value).toArray}).objs.size:=λb a=>by
  rw[Uo];exact Nat.lt_succ_of_lt (F b a)
 have hf3:∀b∈fp,qc X pins (upd H s.heap.objs.size (.lst [])) b:=λb a=>⟨by rw[aS (Sc (F b a))];exact(t b a).1,(t b a).2⟩
 have kept:∀b o,(s.heap.push {cls:=.type "list",dict:=none,data:=.seq ([]:List Value).toArray}).get? b=some o->g.get? b=some o:=λb o e=>
  h.extBut b o (Sc (RS e)) (RM _ e)
 have L:∀b o,s.heap.get? b=some o->g.get? b=some o:=λb o e=>kept b o (RM _ e);have I4:=Eu (t₁:=s.toks+([]:List (Str×Value)).length) I3 f hix hf3 hlt j kept;have S:P 0 g:=T.keep 0 _ _ st0 λb _ o e=>L b o e
 have D:codeAny (model X.prog X.w) X.A (.compLoop (.ListComp elt [⟨.Name x px,iter,ifs,0⟩] scope pos) 0 (.ref it) (.ref s.heap.objs.size) (compEnvC scope (cC X.env scope.names []) (s.heap.push {cls:=.type "list",dict:=none,data:=.seq ([]:List Value).toArray}).objs.size X.env))
  (RR (.ref s.heap.objs.size) (s.heap.push {cls:=.type "list",dict:=none,data:=.seq ([]:List Value).toArray}).objs.size) {s with heap:=g,toks:=s.toks+([]:List (Str×Value)).length}:=by
  generalize k:jb X scope (cC X.env scope.names []) (s.heap.push {cls:=.type "list",dict:=none,data:=.seq ([]:List Value).toArray}).objs.size (x::cs) fp {s with heap:=s.heap.push {cls:=.type "list",dict:=none,data:=.seq ([]:List Value).toArray}} (upd H s.heap.objs.size (.lst []))=Y at I4;have hti':Ny Y ifs ti:=by rw[<-k];exact hti _ _ _ _
  have hte':PE Y elt te:=by rw[<-k];exact hte _ _ _ _
  have hcY:Y.calm=true:=by rw[<-k];exact M
  have hg:PG Y (.Name x px) (eh 0):=by
   rw [<-k];exact cc f.nd rfl (.inl (lookup_relabel_local f.var)) (.inr (lookup_relabel_local f.var))
  have f4:∀{H':Hp},(∀b∈fp,H' b=none)->∀b∈fp,qc Y [] H' b:=λ{H'} hn b a=>by
   rw[<-k];refine⟨hn b a,Sc (hlt b a),λz=>?_,.inl a,λy c e z=>?_,λp hp=>absurd (show p∈([]:L0) from hp) (by simp)⟩
   · rcases RO.mp (I3.stkSub b z) with q|q
     ·exact(t b a).2.1 q
     ·exact(t b a).2.2.1 q
   · rcases iw (vL I2 f) e with q|q
     ·cases q
     ·exact(t b a).2.2.2.2.1 y c q z
  have fin:∀{B:Option V} {H':Hp} {s':Shared},Inv Y [] (B::iP Z ix) H' s'->Qe (.ref s.heap.objs.size) H'->RR (.ref s.heap.objs.size) (s.heap.push {cls:=.type "list",dict:=none,data:=.seq ([]:List Value).toArray}).objs.size (.ok .next) s':=λ{B H' s'} J q=>by
   rw[<-k]at J;have Ix:Inv X pins Z H' s':=I3.call' (ch:=fp) J.os J.base J.hok J.bare λb a=>⟨(t b a).2.2.2.1,(t b a).2.1,(t b a).2.2.2.2.1,(t b a).2.2.2.2.2⟩;refine hRR _ _ H' s' Ix (I3.fpOk (RU _) J.free) ?_ q;obtain⟨m,hm,_⟩:=J.loc;exact⟨m,hm⟩
  have eY:compEnvC scope (cC X.env scope.names []) (s.heap.push {cls:=.type "list",dict:=none,data:=.seq ([]:List Value).toArray}).objs.size X.env=Y.env:=by rw[<-k];rfl
  have eP:X.prog=Y.prog:=by rw[<-k];rfl
  have eW:X.w=Y.w:=by rw[<-k];rfl
  have eK:X.K=Y.K:=by rw[<-k];rfl
  have eA:X.A=Y.A:=by rw[<-k];rfl
  have eX:Y.xe=λ_ _=>False:=by rw[<-k];rfl
  rw[eP,eW,eK]at T;rw[eY,eP,eW,eA];refine vK (λn s'=>∃i ys B H',Inv Y [] (B::iP Z ix) H' s'/\P i s'.heap/\(∀b∈fp,H' b=none)/\W i n ys H') ?_ m0 ⟨0,[],none,_,I4,S,λb a=>(hf3 b a).1,w0⟩;rintro n s' ⟨i,ys,B,H',I',st',fr',w'⟩;obtain⟨hp,hlen,U⟩:=O i n ys H' w';rcases U with ⟨stop,q⟩|⟨go,step⟩
  ·refine bV (T.done Y rfl rfl rfl hcY i [] s' (B::iP Z ix) H' (λ_ _=>False) I' (f4 fr') st' stop) λr s1 ⟨hr,I1⟩=>?_;subst hr;exact fin I1 q
  · refine bV (T.item Y rfl rfl rfl hcY i [] s' (B::iP Z ix) H' (λ_ _=>False) I' (f4 fr') st' go) λr s1 ⟨u,hr,h4⟩=>?_;subst hr;refine bV h4 λ_ s2 ⟨v,H2,J2,r2,y2,I,fr2⟩=>?_;have J2p:=J2.pinned (f4 fr2) (T.obj _ _ I)
    have again:∀{l:St} {H7:Hp} {s7:Shared},Inv Y ([]++nM fp s2.heap) l H7 s7->P (i+1) s7.heap/\∀b∈fp,H7 b=none:=λ{l H7 s7} I7=>by
     refine⟨T.keep _ _ _ I λb a o e=>(I7.pin (b,o) (RN _ (RN _ (ig a e)))).1,λb a=>?_⟩;obtain⟨o,e,d⟩:=T.obj _ _ I b a;exact(I7.pin (b,o) (RN _ (RN _ (ig a e)))).2.1
    have hga:=hg _ s2 (B::iP Z ix) H2 v u (λl H'=>l=some v::iP Z ix/\H'=H2) J2p r2 ⟨rfl,rfl⟩;rw[eX]at hga;refine bV hga λ_ s3 ⟨σ3,H3,J3,e3,e3'⟩=>?_;subst e3 e3';have htt:=hti' _ s3 _ H3 _ J3 (step v H3 y2);rw[eX]at htt;refine bV htt λb s4 ⟨H4,J4,q4⟩=>?_;cases b with
    |false=>
      rw[RE RQ]at q4 ⊢;obtain⟨m',hm,w4⟩:=q4;exact⟨m',hm,i+1,ys,some v,H4,J4.unpinned,(again J4).1,(again J4).2,w4⟩
    |true=>
      rw[RF rfl]at q4 ⊢;have hee:=hte' _ s4 _ H4 _ J4 q4;rw[eX]at hee;refine bV hee λy s5 ⟨yv,H5,J5,r5,hp5,m',hm,w5⟩=>?_;have hap:=dh (X:=Y) _ s5 _ H5 (.ref s.heap.objs.size) [yv] (.ref s.heap.objs.size) [y] (λ_ H6=>H6=upd H5 s.heap.objs.size (.lst (ys++[yv]))) J5 rfl (.cons r5 .nil) ⟨_,ys,yv,rfl,rfl,hp5,hlen,rfl⟩;rw[eX]at hap;refine bV hap λ_ s6 ⟨_,H6,J6,_,e6⟩=>?_;subst e6;exact⟨m',hm,i+1,ys++[yv],some v,_,J6.unpinned,(again J6).1,(again J6).2,w5⟩
 exact codeAny_compStart_list D (T.self _ 0 _ _ _ S D)
theorem ni{n:TI}(c:X.calm=true)(hi:PI X (.Name x px) iter n)(a:CompSc X.env.scope scope x cs)(k:ix.map (λi=>X.N[i]?)=cs.map some)
 (f:∀C fp s₀ H₀,Ny (jb X scope (cC X.env scope.names []) C (x::cs) fp s₀ H₀) ifs ti) (g:∀C fp s₀ H₀,PE (jb X scope (cC X.env scope.names []) C (x::cs) fp s₀ H₀) elt te)
 (l:closureFor scope X.env=pure (cC X.env scope.names []):=by rfl) (t:∀x,foldedSetIterable iter X.env x=pure x:=by intro _;rfl):
 PE X (.ListComp elt [⟨.Name x px,iter,ifs,0⟩] scope pos) (qt n ix ti te):=by
 intro pins s Z H Q I h;rw[eval_ListComp];refine wpAny_comprehension_free (use:=none) rfl t l a.kind a.loc (bV (hi pins s Z H _ I h) λv S D=>bV D λr s2 B=>?_);obtain⟨U,fp,R,J,V,e,O,T,d,K,z⟩:=B;subst e;refine pV (RR:=λacc C=>compPost (model X.prog X.w) X.A X.xe none (EP X pins Z Q) acc C) c O a k T d K f g z ?_;rintro p C H' s' P ⟨M,L,_,G,F,E⟩ ⟨m,u⟩ q;exact⟨m,u,λh' j=>⟨.ref p,H',P.turned (t':=s'.toks) (λb o y e=>j.extBut b o y e) M L G F E,rfl,q⟩⟩
theorem nL{L:TI}{y:Str}{py a:Pos}{i:Nat}(f:X.calm=true)(hN:X.N.Nodup)(F:X.N[i]?=some y)(W:Nz X.env.scope y)(hi:PI X (.Name x px) iter L)(d:CompSc X.env.scope scope x cs)(E:ix.map (λi=>X.N[i]?)=cs.map some)
 (n:∀C fp s₀ H₀,Ny (jb X scope (cC X.env scope.names []) C (x::cs) fp s₀ H₀) ifs ti) (r:∀C fp s₀ H₀,PE (jb X scope (cC X.env scope.names []) C (x::cs) fp s₀ H₀) elt te)
 (t:swapsWith (.ListComp elt [⟨.Name x px,iter,ifs,0⟩] scope pos) (some (.Name y py)) a.line X.env=pure true:=by rfl)
 (G:closureFor scope X.env=pure (cC X.env scope.names []):=by rfl) (Y:∀x,foldedSetIterable iter X.env x=pure x:=by intro _;rfl)
 (hf:X.fn y=true\/X.env.scope.names.lookup y=some .local:=by first | exact .inl rfl | exact .inr rfl | assumption):
 PS X (.Assign [.Name y py] (.ListComp elt [⟨.Name x px,iter,ifs,0⟩] scope pos) a) (rs (qt L ix ti te) (eh i)):=by
 intro pins s Z H D I h;rw[exec_Assign_Name_used _ _ _ _ t];refine no (Uy (no ?_));show wpAny _ X.A (do let _ <-comprehension (.ListComp elt [⟨.Name x px,iter,ifs,0⟩] scope pos) scope X.env _ (newList []) false (eval iter X.env) (some (assign (.Name y py) X.env))) _ _ s;refine no (bV (wpAny_comprehension_free (Q:=λ_ s'=>SP X pins D .next s') rfl Y G d.kind d.loc (bV (hi pins s Z H _ I h) λv s1 h1=>bV h1 λV s2 h2=>?_)) λ_ s' hq=>RP (RP hq));obtain⟨it,fp,tn,J,H2,e,I2,T,l,f2,hW⟩:=h2;subst e;refine pV (RR:=λacc C=>compPost (model X.prog X.w) X.A X.xe (some (assign (.Name y py) X.env)) (λ_ s'=>SP X pins D .next s') acc C) f I2 d E T l f2 n r hW ?_;rintro p C H' s' P ⟨f0,M,K,f3,f4,f5⟩ ⟨m,hm⟩ q;obtain⟨j,es,ep,B,g,S⟩:=hm
 have Ip:Inv X (pins++[(C,j)]) Z H' s':=P.pins_of λp hp=>(RW.mp hp).elim (λz=>P.pin p (RN _ z)) λz=>by
  have e:p=(C,j):=by simpa using z
  subst e;exact⟨B,f0,M,K,λv z=>by rw[g]at z;cases z⟩
 have hg:PG X (.Name y py) (eh i):=cc hN F W hf;refine bV (hg _ s' Z H' (.ref p) (.ref p) D.nx Ip rfl q) λ_ R ⟨k,H3,O,U⟩=>?_;have c:=O.pin (C,j) (RN _ (RN _ (by simp)));refine⟨m,⟨j,es,ep,c.1,g,S⟩,λh' u=>?_⟩;exact⟨k,H3,(O.unpinned).turned (t':=R.toks) (λb o hb e=>u.extBut b o hb e) c.2.1 M f3 f4 f5,U⟩
end
mutual
def Den(K:F0)(H:Hp):PyData->V->Prop
 |.none,v=>v=.non
 |.bool b,v=>v=.bl b
 |.int i,v=>v=.int i
 |.str x,v=>v=.str x
 |.list ds,v=>∃a xs,v=.ref a/\SqL K H a xs/\Dens K H ds xs
 |.tuple ds,v=>∃a xs,v=.ref a/\SqT K H a xs/\Dens K H ds xs
 |.dict _,_=>False
def Dens(K:F0)(H:Hp):List PyData->List V->Prop
 |[],xs=>xs=[]
 |d::ds,xs=>∃x r,xs=x::r/\Den K H d x/\Dens K H ds r
end
section
variable{X:Cx}{pins:L0}{Z:St}{H:Hp}{s:Shared}
mutual
theorem den_reads(I:Inv X pins Z H s):∀(d:PyData) {v:V} {u:Value},Den X.K H d v->RelV v u->∃m,Reads s.heap u d m
 | .none,v,u,h,r=>by
   rw[Den]at h;subst h;have c:u=Value.none:=r;subst c;exact⟨_,.none⟩
 | .bool b,v,u,h,r=>by
   rw[Den]at h;subst h;have c:u=Value.bool b:=r;subst c;exact⟨_,.bool b⟩
 | .int i,v,u,h,r=>by
   rw[Den]at h;subst h;obtain⟨t,c⟩:=(show ∃t,u=Value.int i t from r);subst c;exact⟨_,.int i t⟩
 | .str x,v,u,h,r=>by
   rw[Den]at h;subst h;obtain⟨t,c⟩:=(show ∃t,u=Value.str x t from r);subst c;exact⟨_,.str x t⟩
 | .list ds,v,u,h,r=>by
   rw[Den]at h;obtain⟨a,xs,rfl,j,hd⟩:=h;have c:u=Value.ref a:=r;subst c;obtain⟨its,f,p,q⟩:=I.list j;obtain⟨m,g⟩:=dens_reads I ds hd f;obtain⟨o,k,l,n,e⟩:=p.isList;exact⟨_,.list k l e (by simpa using g)⟩
 | .tuple ds,v,u,h,r=>by
   rw[Den]at h;obtain⟨a,xs,rfl,j,hd⟩:=h;have c:u=Value.ref a:=r;subst c;obtain⟨its,f,p,q⟩:=I.tuple j;obtain⟨m,g⟩:=dens_reads I ds hd f;obtain⟨o,k,l,n,e⟩:=p;exact⟨_,.tuple k l e (by simpa using g)⟩
 | .dict _,v,u,h,r=>by
   rw[Den]at h;exact h.elim
theorem dens_reads(I:Inv X pins Z H s):∀(ds:List PyData) {xs:List V} {us:List Value},Dens X.K H ds xs->Vals xs us->∃a,ReadsAll s.heap us ds a
 | [],xs,us,h,r=>by
   rw[Dens]at h;subst h;cases r;exact⟨_,.nil⟩
 | d::ds,xs,us,h,r=>by
   rw[Dens]at h;obtain⟨x,t,rfl,g,i⟩:=h;cases r with
   |cons f e=>
     obtain⟨a,c⟩:=den_reads I d g f;obtain⟨bs,b⟩:=dens_reads I ds i e;exact⟨_,.cons c b⟩
end
end
section
variable{X:Cx}
def Co(K:F0)(neg:Bool):R2:=λx y H Q=>∃d e,Den K H d x/\Den K H e y/\SeqAt.shaped d=true/\SeqAt.shaped e=true/\Q (.bl (if neg then !PyData.eqv d e else PyData.eqv d e)) H
theorem K6(k:X.A.units+64<cLine):l6 X (compareOp .Eq) (Co X.K false):=by
 intro a s Z H x y v u Q I g f h;obtain⟨d,e,hd,l,c,b,q⟩:=h;obtain⟨m,j⟩:=den_reads I d hd g;obtain⟨bs,i⟩:=den_reads I e l f;exact eq_dataH j i c b k ⟨.bl _,H,I,rfl,q⟩
theorem K5(k:X.A.units+64<cLine):l6 X (compareOp .NotEq) (Co X.K true):=by
 intro a s Z H x y v u Q I g f h;obtain⟨d,e,hd,l,c,b,q⟩:=h;obtain⟨m,j⟩:=den_reads I d hd g;obtain⟨bs,i⟩:=den_reads I e l f;exact ne_dataH j i c b k ⟨.bl _,H,I,rfl,q⟩
end
def Pi(g:Bool):String:=cond g "max.loop" "min.loop"
def Nq(g:Bool):String:=cond g "max" "min"
def QX(g:Bool):CmpOp:=cond g .Gt .Lt
theorem LW:∀g,plainId (Pi g)=true|false=>PySem.F.plain_min_loop|true=>PySem.F.plain_max_loop
theorem Re:∀g,entryFor table (Pi g)=some (cond g Builtin.«max.loop» Builtin.«min.loop»)|false=>PySem.F.entry_min_loop|true=>PySem.F.entry_max_loop
theorem xmE:∀g,entryFor table (Nq g)=some (cond g Builtin.«max» Builtin.«min»)|false=>PySem.F.entry_min|true=>PySem.F.entry_max
theorem xmP:∀g,builtinKind (Nq g)=none/\plainId (Nq g)=true|false=>⟨PySem.F.kind_min,PySem.F.plain_min⟩|true=>⟨PySem.F.kind_max,PySem.F.plain_max⟩
theorem Hj(a d:Value):∀g,argsOk (Nq g) ⟨[a],[(Str.ofString "default",d)]⟩|false=>by unfold argsOk;kernel_rfl|true=>by unfold argsOk;kernel_rfl
theorem QP:(toString "min" ++ toString ".loop" : String)=Pi false:=by decide
theorem QO:(toString "max" ++ toString ".loop" : String)=Pi true:=by decide
section
variable{prog:Program}{w:World}{A:Around}{R:Result->Shared->Prop}{I:Addr}{fp wr:List Addr}{n:Nat}{P:Nat->Value->Prop}{St:Nat->Heap->Prop}
theorem EW(g:Bool)(W:Walks prog w A.in1 I fp wr n P St)(T:List (Str×Value))(x:Nat->Nat->Bool)(S:Addr)(L:S∉fp)(G:Shared->Prop)
 (N:∀(s:Shared) h' l,G s->(∀b o,b∉wr->b≠S->s.heap.get? b=some o->h'.get? b=some o)->G {s with heap:=h',toks:=l})
 (F:∀i j J H (s:Shared) (Q:L1) (E:L1),G s->P i J->P j H->Q (.bool (x i j)) s->wpAny (model prog w) A.in1 (richCompare (QX g) J H) Q E s):∀(k j:Nat) (s:Shared) (h:Value) (c:Nat),
 n-(j+1)=k->j+1<=n->G s->St (j+1) s.heap->P (argBest x j) h->s.heap.get? S=some {cls:=.type "list",dict:=none,data:=.seq #[h,h] c,slots:=#[]}->
 (∀v h' l,P (argBest x (n-1)) v->(∀b o,b∉wr->b≠S->s.heap.get? b=some o->h'.get? b=some o)->R (.ok (.ret v)) {s with heap:=h',toks:=l})->
 codeAny (model prog w) A (.builtin (Pi g) ⟨[.ref I,.none,.ref S],T⟩) R s:=by
 have K:S∉wr:=λz=>L (W.sub _ z);cases g
 all_goals
  intro k
  induction k with
  |zero=>
    intro j s h c X V g st C B p;refine UN (Re _) ?_;rw[Ub (LW _) _];refine no (m:=seqItems? (.ref S)) (wpAny_seqItems B rfl ?_);refine no (m:=tryCatch (pyNext (.ref I)) _) (TZ (W.done s _ _ ((show j+1=n by omega)▸st) λh' l kp=>?_));refine no (m:=updateSeq S (λ_=>#[])) ?_;refine UO (kp S _ K B) rfl (no (U5 (RP ?_)));exact p h _ l (by rw[show n-1=j by omega];exact C) λb o f q e=>(Si _ _ (Th q)).trans (kp b o f e)
  |succ k M=>
    intro j s h c X V g st C B p;have lt:j+1<n:=by omega
    refine UN (Re _) ?_;rw[Ub (LW _) _];refine no (m:=seqItems? (.ref S)) (wpAny_seqItems B rfl ?_);refine no (m:=tryCatch (pyNext (.ref I)) _) (TZ (W.item (j+1) s _ _ lt st λv h' l pv y kp=>?_));have t:=kp S _ K B;have g':G {s with heap:=h',toks:=l}:=N s h' l g λb o f _ e=>kp b o f e;refine no (m:=tryCatch (holding [v,v] (richCompare _ v h >>= _)) _) (TZ (Tt (no (F (j+1) (argBest x j) v h _ _ _ g' pv C ?_))));refine no (Tt (Us (no (U5 (RP ?_)))));cases O:x (j+1) (argBest x j) with
    |true=>
      rw[RF rfl];refine no ?_;refine UO t rfl (no (U5 ?_))
      first | rw[QP] | rw[QO]
      refine RP ⟨UA (LW _) _,M (j+1) _ v _ (by omega) lt (N _ _ l g' λb o f q e=>(Si _ _ (Th q)).trans e) (W.frame _ _ _ y λb U o e=>?_) (by simp only[argBest,O,U8];exact pv) (SU _ t rfl) λD u a r d=>?_⟩
      ·exact(Si _ _ (λz:S=b=>L (by rw[z];exact U))).trans e
      ·exact p D u a r λb o f q e=>d b o f q ((Si _ _ (Th q)).trans (kp b o f e))
    |false=>
      rw[RE RQ];refine no (U5 ?_)
      first | rw[QP] | rw[QO]
      exact RP ⟨UA (LW _) _,M (j+1) _ h c (by omega) lt g' y (by simp only[argBest,O,TU,Up];exact C) t λD u a r d=>p D u a r λb o f q e=>d b o f q (kp b o f e)⟩
end
section
variable{prog:Program}{w:World}{A:Around}{E:L1}{s:Shared}
theorem Fp(g:Bool){x d:Value}{Q:L1}
 (h:wpAny (model prog w) A.in1 (pyIter x) (λN a=>∃I u f n P St y,∃G:Shared->Prop,N=.ref I/\Walks prog w A.in1 I u f n P St/\St 0 a.heap/\(∀b∈u,b<a.heap.objs.size)/\
   G a/\(∀(s:Shared) h' c,G s->(∀b o,b∉f->b≠a.heap.objs.size->s.heap.get? b=some o->h'.get? b=some o)->G {s with heap:=h',toks:=c})/\
   (∀i j L K (s:Shared) (Q:L1) (E:L1),G s->P i L->P j K->Q (.bool (y i j)) s->wpAny (model prog w) A.in1 (richCompare (QX g) L K) Q E s)/\
   (n=0->∀h' c,(∀b o,b∉f->a.heap.get? b=some o->h'.get? b=some o)->Q d {a with heap:=h',toks:=c})/\
   (0<n->∀v h' c,P (argBest y (n-1)) v->(∀b o,b∉f->a.heap.get? b=some o->h'.get? b=some o)->Q v {a with heap:=h',toks:=c})) E s):
 wpAny (model prog w) A (call (.builtin (Nq g)) [x] [(Str.ofString "default",d)]) Q E s:=by
 cases g
 all_goals
  refine kmk_tree (xmP _).1 (xmP _).2 (xmE _) (Hj _ _ _) ?_;refine no (m:=Builtin.Builtins.bindParams _ ["key","default"] 0 ⟨[],[(Str.ofString "default",d)]⟩) (wpAny_of_eq (show _=pure [none,some d] from rfl) ?_);refine no (RP (no (S3 h (λN a t=>?_) λ_ _ e=>e)));obtain⟨I,u,f,n,P,St,y,G,rfl,W,st,lts,Y,O,J,T,S⟩:=t;refine no (Uu ?_);have D:a.heap.objs.size∉u:=λz=>S6 _ (lts _ z);have U:a.heap.objs.size∉f:=λz=>D (W.sub _ z)
  first | rw[QP] | rw[QO]
  have p:=W.frame _ _ (a.heap.push {cls:=.type "list",dict:=none,data:=.seq ([]:List Value).toArray}) st λb _ o e=>RM _ e;have M:(a.heap.push {cls:=.type "list",dict:=none,data:=.seq ([]:List Value).toArray}).get? a.heap.objs.size=some {cls:=.type "list",dict:=none,data:=.seq ([]:List Value).toArray}:=Sb _ rfl;refine RP ⟨UA (LW _) _,UN (Re _) ?_⟩;rw[Ub (LW _) _];refine no (m:=seqItems? (.ref a.heap.objs.size)) (wpAny_seqItems M rfl ?_);by_cases F:n=0
  ·refine no (m:=tryCatch (pyNext (.ref I)) _) (TZ (W.done _ _ _ (F▸p) λh' c kp=>?_));refine no (m:=rule _) (wpAny_rule (RP ?_));exact T F h' c λb o k e=>kp b o k (RM _ e)
  · have lt:0<n:=Nat.pos_of_ne_zero F;refine no (m:=tryCatch (pyNext (.ref I)) _) (TZ (W.item 0 _ _ _ lt p λv h' c pv B kp=>?_));have q:=kp _ _ U M;refine no (m:=updateSeq a.heap.objs.size (λ_=>#[v,v])) ?_;refine UO q rfl ?_
    first | rw[QP] | rw[QO]
    refine RP ⟨UA (LW _) _,EW _ W _ y _ D G O J _ 0 _ v _ rfl lt (O a _ _ Y λb o k X e=>(Si _ _ (Th X)).trans (kp b o k (RM _ e))) (W.frame _ _ _ B λb V o e=>?_) pv (SU _ q rfl) λR H l C r=>?_⟩
    ·exact(Si _ _ (λz:a.heap.objs.size=b=>D (by rw[z];exact V))).trans e
    ·exact S lt R H l C λb o k e=>r b o k (Sc (RS e)) ((Si _ _ (Nat.ne_of_gt (RS e))).trans (kp b o k (RM _ e)))
end
def l7(X:Cx)(f:Value)(ks:List Str)(r:List V->List V->Hp->VK->Prop):Prop:=
 ∀(a:L0) (s:Shared) (Z:St) (H:Hp) (xs b:List V) (us c:List Value) (Q:VK),Inv X a Z H s->Vals xs us->Vals b c->r xs b H Q->
  wpAny (model X.prog X.w) X.A (call f us (ks.zip c)) (EP X a Z Q) X.xe s
def FU(r:List V->List V->Hp->VK->Prop)(t b:TA):TE:=λZ H Q=>t Z H λvs L=>b Z L λa c=>r vs a c Q
section
variable{X:Cx}{x:Str}{p pos:Pos}{e:Expr}{es:List Expr}{kws:List Keyword}{t tk:TA}{id:String}{ks:List Str}{r:List V->List V->Hp->VK->Prop}
theorem qD(A:l7 X (.builtin id) ks r)(y:Gl X x)(v:X.mg x=none)(q:bootBuiltins x=some (.builtin id))(B:PA X (e::es) t)(w:PK X kws tk)
 (d:(backToKw pos (keywordEach kws X.env)).filterMap (·.1)=ks:=by rfl) (u:x ≠ "__name__" := by decide) (g:(x==("__debug__" : Str))=false:=by decide)
 (z:backTo pos (starEach (e::es) X.env)=(false,eval e X.env)::backTo pos (starEach es X.env):=by rfl) (c:(backTo pos (starEach (e::es) X.env)).any (·.1)=false:=by rfl)
 (b:(backToKw pos (keywordEach kws X.env)).all (·.1.isSome)=true:=by rfl) (f:(backToKw pos (keywordEach kws X.env)).any (·.1.isNone)=false:=by rfl):
 PE X (.Call (.Name x p) (e::es) kws pos) (FU r t tk):=by
 intro a s Z H Q I h;refine S8 (lS I y v q ?_ u g);refine PyProof.Rows.callWith_kw (bV (B pos a s Z H _ I h) λus k ⟨vs,L,D,m,o⟩=>bV (w pos a k Z L _ D o) λj s2 ⟨i,E,C,l,n⟩=>?_) z c b f;rw[d];exact A a s2 Z E vs i us j Q C m l n
end
theorem iQ:∀{ns:List Int} {us:List Value} {i:Nat} {u:Value},Vals (ns.map V.int) us->us[i]?=some u->∃t,u=.int (ns.getD i 0) t
 | [],us,i,u,r,e=>by
   cases r;cases e
 | n::ns,us,i,u,r,e=>by
   rw[RJ]at r;cases r with
   |cons b a=>
     cases i with
     |zero=>
       cases e;exact b
     |succ i=>
       show ∃t,u=.int (ns.getD i 0) t;exact iQ (ns:=ns) (i:=i) a (by simpa using e)
theorem MF{P:Program}{w:World}{A:Around}{R:Nat->Value->Prop}(v:Nat->Int)(h:∀i u,R i u->∃t,u=.int (v i) t):∀g,CmpOf P w A (QX g) R (cond g (λi j=>decide (v i>v j)) λi j=>decide (v i<v j))|false=>CmpOf.ints_lt v h|true=>CmpOf.ints_gt v h
theorem Hd(v:Nat->Int)(k:Nat):∀g,argBest (cond g (λi j=>decide (v i>v j)) λi j=>decide (v i<v j)) k<=k/\∀j,j<=k->cond g (v j<=v (argBest (cond g (λi j=>decide (v i>v j)) λi j=>decide (v i<v j)) k)) (v (argBest (cond g (λi j=>decide (v i>v j)) λi j=>decide (v i<v j)) k)<=v j)|false=>argBest_lt v k|true=>argBest_gt v k
theorem vS(g:Bool){X:Cx}(U:X.calm=true):l7 X (.builtin (Nq g)) ["default"] (λxs y H Q=>∃p ns d,xs=[.ref p]/\y=[d]/\SqL X.K H p (ns.map V.int)/\(ns=[]->Q d H)/\∀m∈ns,(∀x∈ns,cond g (x<=m) (m<=x))->Q (.int m) H):=by
 intro B s Z H xs y us ws Q I r J h;obtain⟨p,ns,d,rfl,rfl,S,N,M⟩:=h;obtain⟨u,rfl,L⟩:=Vals.one r;have l:u=Value.ref p:=L;subst l;obtain⟨dv,rfl,rd⟩:=Vals.one J;obtain⟨its,k,pl,hz⟩:=I.list S;have C:ns.length=its.length:=by rw[<-k.length,RH]
 obtain⟨O,c,w,n⟩:=id pl.isList;have f:p<s.heap.objs.size:=RS c;refine Fp g (wpAny_pyIter_list pl.isList ⟨s.heap.objs.size,_,_,_,_,_,_,λ_=>True,rfl,Walks.list (A:=X.A.in1) (I.ok.hd U) _ p (Sc f) its.toArray,⟨⟨_,Sb _ rfl,rfl,rfl⟩,⟨O,RM _ c,w,n⟩⟩,λb W=>?_,trivial,λ_ _ _ _ _=>trivial,λi j F D s Q E _=>MF (R:=λi v=>its.toArray[i]?=some v) (λi=>ns.getD i 0) (λi v e=>iQ k (by simpa using e)) g i j F D s Q E,λe h' G kp=>?_,λe v h' G pv kp=>?_⟩)
 · rw[Uo];rcases RO.mp W with z|z
   ·rw[z];exact T5 _
   · have a:b=p:=by simpa using z
     rw[a];exact Nat.lt_succ_of_lt f
 · have Y:ns=[]:=SG.mp (by rw[C];simpa using e);refine⟨d,H,I.kept λb o q=>kp b o (λz=>?_) (RM _ q),rd,N Y⟩;have a:b=s.heap.objs.size:=by simpa using z
   exact absurd (RS q) (by rw[a];exact S6 _)
 · have e':0<its.length:=by simpa using e
   have e1:its.toArray.size-1=ns.length-1:=by rw[RT,C]
   rw[e1]at pv;obtain⟨b1,b2⟩:=Hd (λi=>ns.getD i 0) (ns.length-1) g;rw[List.getElem?_toArray]at pv;obtain⟨t,rfl⟩:=iQ k pv
   have up:∀i,i<ns.length->ns.getD i 0∈ns:=λi hi=>by
    rw[Sa,R7 hi];exact T6 hi
   refine⟨.int _,H,I.kept λb o q=>kp b o (λz=>?_) (RM _ q),⟨t,rfl⟩,M _ (up _ (by omega)) λx P=>?_⟩
   · have a:b=s.heap.objs.size:=by simpa using z
     exact absurd (RS q) (by rw[a];exact S6 _)
   · obtain⟨j,T,rfl⟩:=Uh P
     have:=b2 j (by omega)
     rwa [show ns.getD j 0=ns[j] by rw[Sa,R7 T];rfl]at this
theorem AM{X:Cx}(b:X.calm=true):l7 X (.builtin "min") ["default"] (λxs a H Q=>∃p ns d,xs=[.ref p]/\a=[d]/\SqL X.K H p (ns.map V.int)/\(ns=[]->Q d H)/\∀m∈ns,(∀x∈ns,m<=x)->Q (.int m) H):=vS false b
theorem AN{X:Cx}(b:X.calm=true):l7 X (.builtin "max") ["default"] (λxs a H Q=>∃p ns d,xs=[.ref p]/\a=[d]/\SqL X.K H p (ns.map V.int)/\(ns=[]->Q d H)/\∀m∈ns,(∀x∈ns,x<=m)->Q (.int m) H):=vS true b
def dd(ns:List Int):List Int:=ns.foldl step_dedup []
theorem wo(ns:List Int):(List.range ns.length).map (λi=>ns.getD i 0)=ns:=by
 apply Uv;intro i;rw[Sl];by_cases h:i<ns.length
 ·rw[Ui h,R7 h,Uf,Sa,R7 h];rfl
 ·rw[R6 (by rw[T1];omega),R6 (by omega)];rfl
theorem uW(ns:List Int):firstMet (λi=>ns.getD i 0) ns.length=dd ns:=by
 unfold firstMet dd;rw[wo]
theorem Jm:∀(ns acc:List Int),ns.Nodup->(∀x∈ns,x∉acc)->ns.foldl step_dedup acc=acc++ns
 |[],acc,_,_=>by rw[List.foldl_nil,Sk]
 | n::r,acc,h,hd=>by
   have c:=RZ.mp h
   have e:step_dedup acc n=acc++[n]:=by
    unfold step_dedup;rw[if_neg];intro z;obtain⟨y,d,e⟩:=List.any_eq_true.mp z;have a:y=n:=by simpa using e
    subst a;exact hd y RG d
   rw[Ts,e,Jm r (acc++[n]) c.2 λx b z=>?_,Ta]
   ·rfl
   · rcases RW.mp z with z|z
     ·exact hd x (on _ b) z
     · have a:x=n:=by simpa using z
       subst a;exact c.1 b
theorem EY{ns:List Int}(h:ns.Nodup):dd ns=ns:=by
 unfold dd;rw[Jm ns [] h λ_ _ z=>nomatch z];rfl
theorem EZ:∀(ns acc:List Int),(ns.foldl step_dedup acc).length<=acc.length+ns.length/\((ns.foldl step_dedup acc).length=acc.length+ns.length->ns.Nodup/\∀x∈ns,x∉acc)
 |[],acc=>⟨RU _,λ_=>⟨Sy,λ_ z=>nomatch z⟩⟩
 | n::r,acc=>by
   obtain⟨c,a⟩:=EZ r (step_dedup acc n)
   have i:step_dedup acc n=acc/\n∈acc\/step_dedup acc n=acc++[n]/\n∉acc:=by
    unfold step_dedup;by_cases z:acc.any (·==n)=true
    · obtain⟨y,b,e⟩:=List.any_eq_true.mp z;have k:y=n:=by simpa using e
      subst k;exact .inl ⟨RF z,b⟩
    ·exact .inr ⟨RE z,λb=>z (List.any_eq_true.mpr ⟨n,b,by simp⟩)⟩
   rw[Ts,RL];rcases i with ⟨e,d⟩|⟨e,d⟩
   ·rw[e]at c a ⊢;exact⟨by omega,λz=>by omega⟩
   · rw[e]at c a ⊢;rw[RK,Sv]at c a;refine⟨by omega,λz=>?_⟩;obtain⟨j,f⟩:=a (by omega);refine⟨RZ.mpr ⟨λh=>f n h (RN _ (by simp)),j⟩,λx g=>?_⟩;rcases RO.mp g with z|z
     ·rw[z];exact d
     ·exact λq=>f x z (RX _ q)
section
variable{X:Cx}
theorem AI(l:X.calm=true):gy X (.type "set") (λxs H Q=>∃p ns,xs=[.ref p]/\SqL X.K H p (ns.map V.int)/\ns.length<4000/\∀q,H q=none->Q (.ref q) (upd H q (.set (λk=>(dd ns).any (·==k)) (dd ns).length))):=by
 intro d s Z H xs us Q I r h;obtain⟨p,ns,rfl,j,t,q⟩:=h;obtain⟨u,rfl,i⟩:=Vals.one r;have a:u=Value.ref p:=i;subst a;obtain⟨its,c,pl,n⟩:=I.list j;have f:its.length=ns.length:=by rw[<-c.length,RH]
 refine PySem.call_set_list (ns:=ns) (I.ok.hd l) pl.isList (by simpa using oB c) (by rw[List.size_toArray,f];unfold scanBound;omega) λh' m g kp=>?_;have es:its.toArray.size=ns.length:=by rw[List.size_toArray,f]
 rw[es,uW]at g;exact⟨.ref s.heap.objs.size,_,I.laid (o:=.set _ _) (λb o e=>kp b o (RS e) e) (RU _) g,rfl,q _ (I.hok.fresh (RU _))⟩
theorem AK:gy X (.builtin "len") (λxs H Q=>∃a S n,xs=[.ref a]/\H a=some (.set S n)/\Q (.int n) H):=by
 intro c s Z H xs us Q I r h;obtain⟨a,S,n,rfl,j,q⟩:=h;obtain⟨u,rfl,d⟩:=Vals.one r;have b:u=Value.ref a:=d;subst b;obtain⟨o,es,ep,t,e,hex,hd,_,_,i,g,f⟩:=(show s.heap.SetOf (intKind X.prog X.w) a S n from I.hok a _ j);refine call_len_set e hex hd g (Int.lt_of_lt_of_le (Int.ofNat_lt.mpr i) (by unfold scanBound;decide)) ?_;rw[f];exact⟨.int n,H,I.tok _,⟨_,rfl⟩,q⟩
end
def RawD(h:Heap)(d:Addr)(es:Array DictEntry)(ep:Nat):Prop:=∃o,h.get? d=some o/\o.ExactDict/\o.data=.dict es ep
section
variable{prog:Program}{w:World}{A:Around}{E:L1}{s:Shared}{d it:Addr}{es:Array DictEntry}{ep i:Nat}
theorem RawD.typeIs(x:RawD s.heap d es ep):s.TypeIs (.ref d) "dict" := by
 obtain⟨o,b,a,_⟩:=x;exact⟨o,b,a.1⟩
theorem Ch{Q:L1}(c:(d==sysModules)=false)(x:RawD s.heap d es ep)
 (e:Q (.ref s.heap.objs.size) {s with heap:=s.heap.push {cls:=.type "dict_keyiterator",data:=.fields #[.ref d,.int 0 0,.int es.size 0,.int ep 0]}}):wpAny (model prog w) A (pyIter (.ref d)) Q E s:=by
 have a:=x.typeIs;obtain⟨o,b,f,hd⟩:=x;refine wpAny_pyIter_slot a PySem.F.slot_dict_iter (wpAny_call_entry PySem.F.slot_dict_iter a PySem.F.entry_dict_iter ?_ (PySem.F.args_dict_iter_1 _));unfold Builtin.«dict.__iter__» Builtin.Dict.dictSlotNone;refine wpAny_bind (wpAny_bind (wpAny_notOrdered_dict a (wpAny_pure ?_)));refine wpAny_bind (m:=Builtin.Dict.showsAll d) ?_;unfold Builtin.Dict.showsAll;rw[if_neg (by rw[c];exact Bool.false_ne_true)];refine wpAny_pure (wpAny_bind (wpAny_dictEntries b hd (wpAny_bind (wpAny_dictEpoch b hd ?_))));exact wpAny_bind (wpAny_newObj_type (wpAny_pure ⟨_,rfl, "dict_keyiterator",_,⟨_,Heap.get?_push_size _ rfl,rfl⟩,PySem.F.slot_dict_keyiterator_next.lookup,e⟩))
theorem Ci{Q:Option Value->Shared->Prop}(a:s.heap.IsKeyIter it d i es.size ep)(x:RawD s.heap d es ep)(g:i<es.size)
 (j:∀h',h'.IsKeyIter it d (i+1) es.size ep->Heap.SameBut it s.heap h'->Q (some es[i].key) {s with heap:=h'}):wpAny (model prog w) A (pyNext (.ref it)) Q E s:=by
 obtain⟨o,f,h,hd⟩:=id a;obtain⟨k,c,_,e⟩:=id x;unfold pyNext;refine wpAny_bind (wpAny_attempt (wpAny_callSpecial?_slot (name:=Str.ofString "__next__") a.typeIs PySem.F.slot_dict_keyiterator_next (wpAny_call_entry PySem.F.slot_dict_keyiterator_next a.typeIs PySem.F.entry_dict_keyiterator_next ?_ (PySem.F.args_dict_keyiterator_next_1 _))));refine wpAny_bind (wpAny_pure (wpAny_bind (wpAny_bind ?_)))
 first | refine no (SY a.typeIs (RP ?_)) | refine no (Tc a.typeIs (RP ?_))
 refine no (wpAny_fieldsOf f hd ?_);simp only[show Builtin.Dict_items.ownsTuple "dict_keyiterator" = false from by decide,TU,Up];show wpAny _ _ (if (Value.ref d==Value.none)=true then _ else _) _ _ s;rw[RE (show ¬ ((Value.ref d==Value.none)=true) from RQ)];refine no (RP (no (T2 c e ?_)));rw[RE (by simp)];refine no (RP (no (UP c e ?_)));rw[RE (by simp)];refine RP ?_;simp only[show ¬ ((i:Int)<0) from by omega,Up,Int.toNat_natCast,SA g];refine no ?_
 first | refine no (SY a.typeIs (RP ?_)) | refine no (Tc a.typeIs (RP ?_))
 refine no (wpAny_isOneOf_keyiter a.typeIs ?_);refine no (m:=setField (.ref it) 1 (rawInt ((i:Int)+1))) (wpAny_setField f hd (by simp) ?_)
 have b:(s.heap.update it (Obj.mapFields (·.setIfInBounds 1 (rawInt ((i:Int)+1))))).IsKeyIter it d (i+1) es.size ep:=
  ⟨_,SU _ f (Obj.isFreed_of_fields (Obj.data_mapFields hd _)),(Obj.cls_mapFields ..).trans h,by rw[Obj.data_mapFields hd];simp[rawInt]⟩
 refine no (Tt ?_);refine no (wpAny_isOneOf_keyiter (s:={s with heap:=s.heap.update it (Obj.mapFields (·.setIfInBounds 1 (rawInt ((i:Int)+1))))}) b.typeIs ?_);exact RP (RP ⟨_,rfl,RP (j _ b (TM ..))⟩)
theorem Gi{Q:Option Value->Shared->Prop}(h:A.handled=none)(c:s.heap.IsKeyIter it d es.size es.size ep)(x:RawD s.heap d es ep)
 (i:∀h',Heap.ExtBut it s.heap h'->Q none {s with heap:=h'}):wpAny (model prog w) A (pyNext (.ref it)) Q E s:=by
 obtain⟨o,g,k,hd⟩:=id c;obtain⟨j,e,_,f⟩:=id x;unfold pyNext;refine wpAny_bind (wpAny_attempt (wpAny_callSpecial?_slot (name:=Str.ofString "__next__") c.typeIs PySem.F.slot_dict_keyiterator_next (wpAny_call_entry PySem.F.slot_dict_keyiterator_next c.typeIs PySem.F.entry_dict_keyiterator_next ?_ (PySem.F.args_dict_keyiterator_next_1 _))));refine wpAny_bind (wpAny_pure (wpAny_bind (wpAny_bind ?_)))
 first | refine no (SY c.typeIs (RP ?_)) | refine no (Tc c.typeIs (RP ?_))
 refine no (wpAny_fieldsOf g hd ?_);simp only[show Builtin.Dict_items.ownsTuple "dict_keyiterator" = false from by decide,TU,Up];show wpAny _ _ (if (Value.ref d==Value.none)=true then _ else _) _ _ s;rw[RE (show ¬ ((Value.ref d==Value.none)=true) from RQ)];refine no (RP (no (T2 e f ?_)));rw[RE (by simp)];refine no (RP (no (UP e f ?_)));rw[RE (by simp)];refine RP ?_;simp only[show ¬ ((es.size:Int)<0) from by omega,Up,Int.toNat_natCast,UL (RU _)];refine no ?_
 first | refine no (SY c.typeIs (RP ?_)) | refine no (Tc c.typeIs (RP ?_))
 refine no (m:=setField (.ref it) 0 .none) (wpAny_setField g hd (by simp) ?_);refine no (m:=newExc (.type "StopIteration") []) ?_;simp only[newExc,newTuple];refine no (Uu ?_ (by size_fits));refine no (m:=firstArgMember _ _) (wpAny_of_eq (a:=Value.none) (by first | rfl | (simp only[firstArgMember];rfl)) ?_);refine Uu ?_ (by size_fits);simp only[raiseNew];refine no (wpAny_handled ?_);rw[show A.in1.handled=none from h];refine no (RP (wpAny_throw ?_));refine no (wpAny_isInstance (T := "StopIteration") (b:=true) ⟨_,Sb _ rfl,rfl⟩ isSubtype_stop ?_);exact RP (i _ (((TM ..).extBut.push _).push _))
theorem zU(n:A.handled=none)(I d:Addr)(k:d≠I)(es:Array DictEntry)(ep:Nat):
 Walks prog w A I [I,d] [I] es.size (λi v=>∃e,es[i]?=some e/\v=e.key) (λi h=>h.IsKeyIter I d i es.size ep/\RawD h d es ep) where
 sub:=λb f=>by
  have e:b=I:=by simpa using f
  rw[e];exact RG
 frame:=λ_ _ _ st m=>⟨st.1.at λo e=>m I (by simp) o e,let ⟨o,j,r⟩:=st.2;⟨o,m d (by simp) o j,r⟩⟩
 item:=λi s Q E hi st g=>Ci st.1 st.2 hi λh' c a=>by
  obtain⟨o,j,r⟩:=st.2;exact g _ h' s.toks ⟨es[i],SA hi,rfl⟩ ⟨c,o,a.extBut d o k j,r⟩ λb o f e=>a.extBut b o (λz=>f (by simp[z])) e
 done:=λs Q E st g=>Gi n st.1 st.2 λh' l=>g h' s.toks λb o f e=>l b o (λz=>f (by simp[z])) e
 self:=λ_ _ _ _ st g=>wpAny_pyIter_keyiter st.1 g
theorem yd(lo:(d==sysModules)=false):PySem.W.KdlSrc prog w "dict" d d es.size (λi v=>∃e,es[i]?=some e/\v=e.key) (λh=>RawD h d es ep) where
 type:=λ_ x=>x.typeIs
 there:=λ_ x=>let ⟨_,a,_⟩:=x;⟨RS a,RS a⟩
 keep:=λ_ _ x c=>let ⟨o,a,r⟩:=x;⟨o,c d (.inl rfl) o a,r⟩
 notList:=by decide
 notTuple:=by decide
 hint:=λ_ _ _ _ x b=>PySem.W.kdl_hint_dict x.typeIs b
 iter:=λ_ _ f x=>⟨_,_,(λ_ _ b=>Ch lo x b),zU f _ d (let ⟨_,a,_⟩:=x;Sc (RS a)) es ep,⟨⟨_,Sb _ rfl,rfl,rfl⟩,let ⟨o,a,r⟩:=x;⟨o,RM _ a,r⟩⟩⟩
end
theorem qL{P:Program}{w:World}{x:List bJ×Addr×Value}:(entryOfKey (tupleKind (bz P w)) x).key=.ref x.2.1:=rfl
theorem p6{X:Cx}(Y:X.calm=true):gy X (.type "list") (λxs H Q=>∃a d,xs=[.ref a]/\Rd H a (.dT d)/\
 ∀(ks:List Addr) (l:Addr),ks.length=d.length->(∀(i:Nat) k v b,d[i]?=some (k,v)->ks[i]?=some b->H b=some (.tup (k.map kV)))->H l=none->Q (.ref l) (upd H l (.lst (ks.map V.ref)))):=by
 intro L s Z H xs us Q I r h;obtain⟨a,d,rfl,ha,q⟩:=h;obtain⟨u,rfl,N⟩:=Vals.one r;have G:u=Value.ref a:=N;subst G;obtain⟨z,hd,ys,A,o,es,ep,S,P,E,C,T⟩:=(show ObjOk X.prog X.w H s.heap a (.dT d) from ha.ok I.hok);have f:d.length=ys.length:=TQ A
 have j:es.size=ys.length:=by
  have e:=congrArg List.length C
  rwa [RH,Ss]at e
 refine PySem.W.kdl_call (yd hd) (I.ok.hd Y) ⟨o,S,P,E⟩ (by rw[j,<-f];exact z) λh' tk c c' kp hD g=>?_
 have keys:c.toList=(ys.map λy=>y.2.1).map Value.ref:=by
  apply Uv;intro i;rw[Sl,Sl];cases n:ys[i]? with
  |none=>
    have hi:ys.length<=i:=SI.mp n;rw[R6 (by rw[Ss,g.1];omega)];rfl
  |some y=>
    have hi:i<ys.length:=(R5.mp n).1;have B:i<c.size:=by rw[g.1,j];exact hi
    obtain⟨e,U,R⟩:=g.2 i c[i] (SA B);have D:es.toList[i]?=some e:=by rw[SV];exact U
    rw[C,Sl,n]at D;have ee:entryOfKey (tupleKind (bz X.prog X.w)) y=e:=R9 D;rw[SV,SA B,R,<-ee,qL];rfl
 have M:∀l:List Addr,Vals (l.map V.ref) (l.map Value.ref):=λl=>by
  induction l with
  |nil=>exact .nil
  |cons x t K=>exact .cons rfl K
 refine⟨.ref s.heap.objs.size,_,I.laid kp (RU _) ?_,rfl,q (ys.map λy=>y.2.1) _ (by rw[RH];exact f.symm) (λi k v b F m=>?_) (I.hok.fresh (RU _))⟩
 ·refine⟨by rw[RH,RH,<-f];exact z,c.toList,c',by rw[keys];exact M _,?_⟩;rw[Array.toArray_toList];exact hD
 · rw[Sl]at m;cases n:ys[i]? with
   |none=>rw[n]at m;cases m
   |some y=>
     rw[n]at m;have eb:y.2.1=b:=R9 m
     have O:∀{J:List (List bJ×V)} {l2:List (List bJ×Addr×Value)},Paired (λ(p:List bJ×V) (q:List bJ×Addr×Value)=>p.1=q.1/\H q.2.1=some (.tup (p.1.map kV))/\RelV p.2 q.2.2) J l2->
      ∀{i:Nat} {p q},J[i]?=some p->l2[i]?=some q->H q.2.1=some (.tup (p.1.map kV)):=by
      intro J l2 hp
      induction hp with
      |nil=>intro i p q e;cases e
      |cons h1 _ K=>
        intro i p q F m;cases i with
        |zero=>cases F;cases m;exact h1.2.1
        |succ i=>exact K F m
     rw[<-eb];exact O A F n
end L2
namespace Gd
open PySem L2
theorem kq:bootBuiltins "len" = some (.builtin "len"):=by decide +kernel
theorem MW:bootBuiltins "min" = some (.builtin "min"):=by decide +kernel
theorem MX:bootBuiltins "max" = some (.builtin "max"):=by decide +kernel
theorem gG:bootBuiltins "isinstance" = some (.builtin "isinstance"):=by decide +kernel
theorem AO:bootBuiltins "sorted" = some (.builtin "sorted"):=by decide +kernel
theorem MV:bootBuiltins "set" = some (.type "set"):=by decide +kernel
theorem gx:bootBuiltins "list" = some (.type "list"):=by decide +kernel
theorem p8:bootBuiltins "tuple" = some (.type "tuple"):=by decide +kernel
theorem uc{H H':Hp}{q:Addr}{o:HO}(h:H q=none)(e:Same H H'):Same H (upd H' q o):=λb u z=>by
 rw[aS (bf z h)];exact e b u z
theorem cz{H:Hp}{q:Addr}{o:HO}(h:H q=none):Same H (upd H q o):=uc h (Same.refl H)
def kS(e:PySem.Expr):Scope:=match e with
 |.ListComp _ _ sc _=>sc
 |_=>{kind:=.function,names:=[],isGenerator:=false,isCoroutine:=false,more:=[]}
def t6(s:Stmt):PySem.Expr:=match s with
 |.Assign _ v _=>v
 |.Return (some v) _=>v
 |.Expr v _=>v
 |.For _ a _ _ _=>a
 |.If t _ _ _=>t
 |_=> .Constant .none 0 ⟨0,0,0,0⟩
def JG(s:Stmt):List Stmt:=match s with
 |.For _ _ b _ _=>b
 |.If _ b _ _=>b
 |.While _ b _ _=>b
 |_=>[]
def nth(l:List Stmt)(i:Nat):Stmt:=l.getD i (.Pass ⟨0,0,0,0⟩)
abbrev AL:=List (List Int×Int)
abbrev kI(k:List Int):List bJ:=k.map Sum.inl
def bR(D:AL):List (List bJ×V):=D.map λp=>(kI p.1,V.int p.2)
def look(D:AL)(k:List Int):Option Int:=(D.find? λp=>decide (p.1=k)).map (·.2)
end Gd
namespace L2
open PySem PySem.Spec PyProof.Rows
theorem yk{W:Type}(next:Nat->Nat):∀(fuel k:Nat) (left:List W) (a:Array W),left.length<=fuel->∀e,e∈(pickOrder.go next fuel k left a).toList↔e∈a.toList\/e∈left
 | 0,k,left,a,h,e=>by
   have:left=[]:=SG.mp (Nat.le_zero.mp h)
   subst this;unfold pickOrder.go;simp
 | fuel+1,k,left,a,h,e=>by
   unfold pickOrder.go;cases q:left[next k%left.length]? with
   |none=>
     have:left=[]:=by
      cases left with
      |nil=>rfl
      |cons x r=>
        have:next k%(x::r).length<(x::r).length:=Nat.mod_lt _ (by simp)
        rw[R7 this]at q;cases q
     subst this;simp
   |some x=>
     dsimp only;obtain⟨c,b⟩:=List.getElem?_eq_some_iff.mp q;rw[yk next fuel (k+1) _ _ (by rw[List.length_eraseIdx,if_pos c];omega)];simp only[Array.toList_push,List.mem_append,List.mem_singleton];constructor
     · rintro((h|h)|h)
       ·exact .inl h
       ·exact .inr (by rw[h,<-b];exact T6 c)
       ·exact .inr (List.mem_of_mem_eraseIdx h)
     · rintro(h|h)
       ·exact .inl (.inl h)
       · by_cases z:e=x
         ·exact .inl (.inr z)
         ·refine .inr ?_;obtain⟨i,hi,d⟩:=Uh h;rw[List.mem_eraseIdx_iff_getElem];refine⟨i,hi,λw=>z ?_,d⟩;rw[<-d,<-b];simp only[w]
theorem ul{W:Type}(next:Nat->Nat)(xs:Array W)(e:W):e∈(pickOrder next xs).toList↔e∈xs.toList:=by
 unfold pickOrder;rw[yk next xs.size 0 xs.toList #[] (by simp)];simp
end L2
namespace Mi
open PySem L2
inductive D where
 |non|bl (b:Bool)|int (i:Int)|str (x:Str)|ty (n:String)
 |lst (xs:List D)|tup (xs:List D)|scr (xs:List D)
 |dK (ks:List bJ) (vs:List D)|dT (ks:List (List bJ)) (vs:List D)
 |obj (c:Nat) (ns:List Str) (vs:List D)
abbrev L4:=List (Option D)
inductive Res (W:Type) where
 |ok (a:W)|exc (c:Nat)|bad
inductive Out (W:Type) where
 |ok (a:W) (T:L4)|exc (c:Nat) (T:L4)|bad
inductive SO where
 |nx (T:L4)|rt (d:D) (T:L4)|bk (T:L4)|ct (T:L4)|exc (c:Nat) (T:L4)|bad
@[simp] def Res.bind{W X:Type}:Res W->(W->Res X)->Res X
 |.ok a,f=>f a
 |.exc c,_=>.exc c
 |.bad,_=>.bad
@[simp] def Res.calm{W:Type}:Res W->Res W
 |.ok a=>.ok a
 |_=>.bad
@[simp] def Out.bind{W X:Type}:Out W->(W->L4->Out X)->Out X
 |.ok a T,f=>f a T
 |.exc c T,_=>.exc c T
 |.bad,_=>.bad
@[simp] def Res.up{W:Type}(T:L4):Res W->Out W
 |.ok a=>.ok a T
 |.exc c=>.exc c T
 |.bad=>.bad
def rg{W:Type}(l:List (Option W))(i:Nat):Option W:=(l[i]?).join
@[simp] def vr(i:Nat):L4->Res D:=λT=>match rg T i with|some d=>.ok d|none=>.bad
def aM(d:D):L4->Res D:=λ_=>.ok d
def un(f:D->Res D)(a:L4->Res D):L4->Res D:=λT=>(a T).bind f
def bn(f:D->D->Res D)(a b:L4->Res D):L4->Res D:=λT=>(a T).bind λx=>(b T).bind λy=>f x y
def aj:Nat:=1000000
def iI(g:Int->Int->Int):D->D->Res D | .int i,.int j=>.ok (.int (g i j))|_,_=>.bad
def iB(g:Int->Int->Bool):D->D->Res D | .int i,.int j=>.ok (.bl (g i j))|_,_=>.bad
def iC(C:Int->Int->Bool)(g:Int->Int->Int):D->D->Res D | .int i,.int j=>if C i j=true then .ok (.int (g i j)) else .bad|_,_=>.bad
def jh:=iI λi j=>i+j
def mR:=iI λi j=>i-j
def r8:=iC (λi j=>decide ((-(2 ^ 64)<i/\i<2 ^ 64)\/(-(2 ^ 64)<j/\j<2 ^ 64))) λi j=>i*j
def fZ:=iC (λ_ j=>decide (0<j/\j<1073741824)) λi j=>i / j
def cR:=iC (λ_ j=>decide (0<j)) λi j=>i%j
def zX:=iC (λi j=>decide (0<=j/\j<=1000000/\i.natAbs<2 ^ 64)) λi j=>i ^ j.toNat
def Bu:=iC (λ_ j=>decide (0<=j)) λi j=>i / 2 ^ j.toNat
def FJ:=iB λi j=>decide (i<j)
def Je:=iB λi j=>decide (j<i)
def QU:=iB λi j=>decide (j<=i)
@[simp] theorem Qz(i j:Int):jh (.int i) (.int j)=.ok (.int (i+j)):=rfl
@[simp] theorem NM(i j:Int):mR (.int i) (.int j)=.ok (.int (i-j)):=rfl
@[simp] theorem Dd(i j:Int):r8 (.int i) (.int j)=if (-(2 ^ 64)<i/\i<2 ^ 64)\/(-(2 ^ 64)<j/\j<2 ^ 64) then .ok (.int (i*j)) else .bad:=by simp[r8,iC]
@[simp] theorem Az(i j:Int):fZ (.int i) (.int j)=if 0<j/\j<1073741824 then .ok (.int (i / j)) else .bad:=by simp[fZ,iC]
@[simp] theorem Dt(i j:Int):cR (.int i) (.int j)=if 0<j then .ok (.int (i%j)) else .bad:=by simp[cR,iC]
@[simp] theorem CA(i j:Int):zX (.int i) (.int j)=if 0<=j/\j<=1000000/\i.natAbs<2 ^ 64 then .ok (.int (i ^ j.toNat)) else .bad:=by simp[zX,iC]
@[simp] theorem Bt(i j:Int):Bu (.int i) (.int j)=if 0<=j then .ok (.int (i / 2 ^ j.toNat)) else .bad:=by simp[Bu,iC]
@[simp] theorem QQ(i j:Int):FJ (.int i) (.int j)=.ok (.bl (decide (i<j))):=rfl
@[simp] theorem QS(i j:Int):Je (.int i) (.int j)=.ok (.bl (decide (j<i))):=rfl
@[simp] theorem QT(i j:Int):QU (.int i) (.int j)=.ok (.bl (decide (j<=i))):=rfl
def GB:D->Res D | .int i=>.ok (.int (-i))|_=>.bad
def ku(neg:Bool):D->D->Res D
 |.int i,.int j=>.ok (.bl (neg.xor (decide (i=j))))
 |.str i,.str j=>.ok (.bl (neg.xor (decide (i=j))))
 |.bl i,.bl j=>.ok (.bl (neg.xor (decide (i=j))))
 |.non,.int _=>.ok (.bl neg)
 |.int _,.non=>.ok (.bl neg)
 |.non,.non=>.ok (.bl (!neg))
 |_,_=>.bad
def oA:D->Bool | .non=>true|_=>false
def sg:D->Res D
 |.lst xs=>.ok (.int xs.length)
 |.tup xs=>.ok (.int xs.length)
 |.scr xs=>.ok (.int xs.length)
 |_=>.bad
def Hg(xs:List D)(i:Int):Res D:=match iK xs i with|some d=>.ok d|none=>.bad
def Er:D->D->Res D | .lst xs,.int i=>Hg xs i | .scr xs,.int i=>Hg xs i|_,_=>.bad
def I8:D->D->Res D | .tup xs,.int i=>Hg xs i|_,_=>.bad
def AH:D->D->Res D | .lst xs,.lst ys=>if xs.length+ys.length<=aj then .ok (.lst (xs++ys)) else .bad|_,_=>.bad
def gD:D->Res D | .lst xs=>.ok (.lst xs) | .scr xs=>.ok (.lst xs) | .tup xs=>.ok (.lst xs)|_=>.bad
def mB:D->Option bJ | .int i=>some (.inl i) | .str x=>some (.inr x)|_=>none
def fq:List D->Option (List bJ)
 |[]=>some []
 |d::r=>match mB d,fq r with|some k,some ks=>some (k::ks)|_,_=>none
section
variable{X:Type}[DecidableEq X]
def cP:List X->List D->X->Option D
 |k::ks,d::ds,j=>if k=j then some d else cP ks ds j
 |_,_,_=>none
def dD(ks:List X)(j:X):Bool:=ks.any λk=>decide (k=j)
def lQ:List X->List D->X->D->List D
 |k::ks,d::ds,j,x=>(if k=j then x else d)::lQ ks ds j x
 |_,_,_,_=>[]
def fN:List X->List D->X->D->List D
 |k::ks,d::ds,j,x=>if k=j then x::ds else d::fN ks ds j x
 |_,_,_,_=>[]
end
def kW:D->D->Option (Option D)
 |.dT ks vs,.tup k=>(fq k).map λk=>cP ks vs k
 |.dK ks vs,k=>(mB k).map λk=>cP ks vs k
 |_,_=>none
def mI(d k:D):Res D:=match kW d k with|some (some x)=>.ok x|_=>.bad
def u0(neg:Bool)(k d:D):Res D:=match kW d k with|some x=>.ok (.bl (neg.xor x.isSome))|none=>.bad
def gE(d k x:D):Res D:=match kW d k with|some (some y)=>.ok y|some none=>.ok x|none=>.bad
def uZ:D->D->D->Option D
 |.dT ks vs,.tup k,x=>(fq k).bind λk=>if ks.length<aj then some (if dD ks k=true then .dT ks (lQ ks vs k x) else .dT (ks++[k]) (vs++[x])) else none
 |.dK ks vs,k,x=>(mB k).bind λk=>if ks.length<aj then some (if dD ks k=true then .dK ks (lQ ks vs k x) else .dK (ks++[k]) (vs++[x])) else none
 |_,_,_=>none
def cy(c:Nat)(f:Str):D->Res D
 |.obj a ns vs=>if a=c then (match cP ns vs f with|some x=>.ok x|none=>.bad) else .bad
 |_=>.bad
def l9(a:Nat)(f:Str)(x:D):D->Option D
 |.obj c ns vs=>if c=a/\ns.length<900 then some (if dD ns f=true then .obj c ns (fN ns vs f x) else .obj c (ns++[f]) (vs++[x])) else none
 |_=>none
def FN:D->Res Bool | .bl b=>.ok b|_=>.bad
def a6:L4->Res (List D):=λ_=>.ok []
def ax(a:L4->Res D)(r:L4->Res (List D)):L4->Res (List D):=λT=>(a T).bind λx=>(r T).bind λxs=>.ok (x::xs)
def gH(r:L4->Res (List D)):L4->Res D:=λT=>(r T).bind λxs=>if xs.length<=aj then .ok (.lst xs) else .bad
def qf(r:L4->Res (List D)):L4->Res D:=λT=>(r T).bind λxs=>if xs.length<=aj then .ok (.tup xs) else .bad
def d6(T:L4)(ix:List Nat):L4:=ix.map λj=>rg T j
def bL(a:L4->Res Bool)(te:L4->Res D)(cap:L4):List D->Res (List D)
 |[]=>.ok []
 |d::r=>(a (some d::cap)).calm.bind λc=>if c=true then (te (some d::cap)).calm.bind λx=>(bL a te cap r).bind λxs=>.ok (x::xs) else bL a te cap r
def ko(src:L4->Res (List D))(ix:List Nat)(a:L4->Res Bool)(te:L4->Res D):L4->Res D:=λT=>(src T).bind λxs=>if xs.length<aj then (bL a te (d6 T ix) xs).bind λys=>.ok (.lst ys) else .bad
def kH(a:L4->Res D):L4->Res (List D):=λT=>(a T).bind λd=>match d with | .lst xs=>.ok xs | .scr xs=>.ok xs|_=>.bad
def rng(lo hi:Int):List D:=(List.range (hi-lo).toNat).map λi:Nat=>D.int (lo+i)
def zJ(a b:L4->Res D):L4->Res (List D):=λT=>(a T).bind λx=>(b T).bind λy=>match x,y with
 |.int i,.int j=>if -(2 ^ 62)<=i/\i<2 ^ 62/\-(2 ^ 62)<=j/\j<2 ^ 62 then .ok (rng i j) else .bad
 |_,_=>.bad
def fA(b:L4->Res D):L4->Res (List D):=zJ (aM (.int 0)) b
def ay(a b:L4->SO):L4->SO:=λT=>match a T with | .nx G=>b G | o=>o
def bH:L4->SO:=λT=>.nx T
def Kw:L4->SO:=λT=>.rt .non T
@[simp] def gJ{W:Type}:Out W->(W->L4->SO)->SO
 |.ok a T,f=>f a T
 |.exc c T,_=>.exc c T
 |.bad,_=>.bad
abbrev MD:=L4->Out D
def aP{W:Type}(a:L4->Res W):L4->Out W:=λT=>(a T).up T
def dF(a:MD):L4->SO:=λT=>gJ (a T) λd G=>.rt d G
def aT(a:MD):L4->SO:=λT=>gJ (a T) λ_ G=>.nx G
def bW(i:Nat)(a:MD):L4->SO:=λT=>gJ (a T) λd G=>.nx (G.set i (some d))
def gc(c:L4->Out Bool)(a b:L4->SO):L4->SO:=λT=>gJ (c T) λt G=>if t=true then a G else b G
def sC(a:D->L4->Option L4)(body:L4->SO):List D->L4->SO
 |[],T=>.nx T
 | d::ds,T=>match a d T with
   |none=>.bad
   | some b=>match body b with
     |.nx G=>sC a body ds G
     |.ct G=>sC a body ds G
     |.bk G=>.nx G
     |o=>o
def fB(src:L4->Out (List D))(a:D->L4->Option L4)(body:L4->SO):L4->SO:=λT=>gJ (src T) λxs G=>sC a body xs G
def zD(c:L4->Out Bool)(body:L4->SO):Nat->L4->SO
 |0,_=>.bad
 | n+1,T=>gJ (c T) λt a=>if t=true then (match body a with
    |.nx G=>zD c body n G
    |.ct G=>zD c body n G
    |.bk G=>.nx G
    |o=>o) else .nx a
def v2(i:Nat):D->L4->Option L4:=λd T=>some (T.set i (some d))
def JC(i j:Nat):D->L4->Option L4:=λd T=>match d with | .tup [x,y]=>some ((T.set i (some x)).set j (some y))|_=>none
def run(k:Nat)(body:L4->SO)(ds:List D):Out D:=match body (ds.map some++List.replicate (k-ds.length) none) with
 |.nx T=>.ok .non T
 |.rt d T=>.ok d T
 |.exc c T=>.exc c T
 |_=>.bad
structure Cm where
 f:Nat->Addr
 K:F0
 tb:Tbs
instance:CoeFun Cm λ_=>Nat->Addr:=⟨Cm.f⟩
def SqF(K:F0)(B:Hp)(a:Addr)(xs:List V):Prop:=(∃o,B a=some (.frz o (.lst xs)))\/
 ∃(o:Obj) (its:Array Value) (n:Nat),K.lookup a=some o/\o.cls=.type "list" /\ o.dict=none/\o.data=.seq its n/\its.size<=sizeLine/\Vals xs its.toList
theorem SqF.mono{K:F0}{B S:Hp}{a:Addr}{xs:List V}(h:SqF K B a xs)(e:Same B S):SqF K S a xs:=by
 rcases h with ⟨o,h⟩|h
 ·exact .inl ⟨o,e _ _ h⟩
 ·exact .inr h
theorem SqF.sq{K:F0}{H:Hp}{a:Addr}{xs:List V}(h:SqF K H a xs):SqL K H a xs:=by
 rcases h with ⟨o,h⟩|h
 ·exact .inl (.inr ⟨o,h⟩)
 ·exact .inr h
theorem nc{B S:Hp}{a:Addr}{u:HO}(e:Same B S)(h:Rd B a u):Rd S a u:=by
 rcases h with h|⟨o,h⟩
 ·exact .inl (e _ _ h)
 ·exact .inr ⟨o,e _ _ h⟩
section
variable(Y:Cm)
mutual
def Dn(B:Hp):D->V->Prop
 |.non,v=>v=.non
 |.bl b,v=>v=.bl b
 |.int i,v=>v=.int i
 |.str x,v=>v=.str x
 |.ty n,v=>v=.ty n
 |.lst ds,v=>∃a xs,v=.ref a/\B a=some (.lst xs)/\Dns B ds xs
 |.scr ds,v=>∃a xs,v=.ref a/\SqF Y.K B a xs/\Dns B ds xs
 |.tup ds,v=>∃a xs,v=.ref a/\B a=some (.tup xs)/\Dns B ds xs
 |.dK ks ds,v=>∃(a:Addr) (d:List (bJ×V)),v=.ref a/\B a=some (.dK d)/\d.map (·.1)=ks/\Dns B ds (d.map (·.2))
 |.dT ks ds,v=>∃(a:Addr) (d:List (List bJ×V)),v=.ref a/\Rd B a (.dT d)/\d.map (·.1)=ks/\Dns B ds (d.map (·.2))
 |.obj c ns ds,v=>∃(a dx:Addr) (fs:List (Str×V)),v=.ref a/\B a=some (.ins (Y c) dx fs)/\fs.map (·.1)=ns/\Dns B ds (fs.map (·.2))
def Dns(B:Hp):List D->List V->Prop
 |[],xs=>xs=[]
 |d::ds,xs=>∃x r,xs=x::r/\Dn B d x/\Dns B ds r
end
inductive Sh where
 |fz|ct (s:Sh)|ob (fs:List (Str×Sh))
mutual
def Ow(B H:Hp):D->Sh->V->List Addr->Prop
 |d,.fz,v,A=>Dn Y B d v/\A=[]
 |.lst ds,.ct s,v,A=>∃a xs e,v=.ref a/\H a=some (.lst xs)/\A=a::e/\Ows B H ds s xs e
 |.dK ks ds,.ct s,v,A=>∃(a:Addr) (b:List (bJ×V)) (e:List Addr),v=.ref a/\H a=some (.dK b)/\b.map (·.1)=ks/\A=a::e/\Ows B H ds s (b.map (·.2)) e
 |.dT ks ds,.ct s,v,A=>∃(a:Addr) (b:List (List bJ×V)) (e:List Addr),v=.ref a/\H a=some (.dT b)/\b.map (·.1)=ks/\A=a::e/\Ows B H ds s (b.map (·.2)) e
 |.obj c ns ds,.ob fs,v,A=>∃(a dx:Addr) (xs:List (Str×V)) (e:List Addr),v=.ref a/\H a=some (.ins (Y c) dx xs)/\xs.map (·.1)=ns/\A=a::e/\Owf B H ds ns fs (xs.map (·.2)) e
 |_,_,_,_=>False
def Ows(B H:Hp):List D->Sh->List V->List Addr->Prop
 |[],_,xs,A=>xs=[]/\A=[]
 |d::ds,s,xs,A=>∃x r A1 a,xs=x::r/\A=A1++a/\Ow B H d s x A1/\Ows B H ds s r a
def Owf(B H:Hp):List D->List Str->List (Str×Sh)->List V->List Addr->Prop
 |[],_,_,xs,A=>xs=[]/\A=[]
 |d::ds,ns,fs,xs,A=>∃n a x r A1 b,ns=n::a/\xs=x::r/\A=A1++b/\Ow B H d ((fs.lookup n).getD .fz) x A1/\Owf B H ds a fs r b
end
inductive Md where
 |F|R|O (s:Sh)
def LoV(B U H:Hp)(m:Md)(d:D)(v:V)(A:List Addr):Prop:=
 match m with
 |.F=>Dn Y B d v/\A=[]
 |.R=>Dn Y U d v/\A=[]
 |.O sh=>Ow Y B H d sh v A
def Lo(B U H:Hp)(m:Md)(o:Option D)(s:Option V)(A:List Addr):Prop:=
 match o with
 |none=>A=[]
 |some d=>∃v,s=some v/\LoV Y B U H m d v A
structure Rel (ms:List Md) (B U:Hp) (As:Nat->List Addr) (Z:St) (H:Hp) (T:L4):Prop where
 bu:Same B U
 uh:Same U H
 nd:∀i,(As i).Nodup
 dj:∀i j a,i≠j->a∈As i->a∉As j
 un:∀i a,a∈As i->U a=none
 lo:∀i,Lo Y B U H (ms.getD i .F) (rg T i) (rg Z i) (As i)
 len:T.length=Z.length
 tb:∀p∈Y.tb,∃l,B p.1=some (.tbl l)/\p.2∈l
end
def dY(o:HO):Prop:=∃xs,o=.tup xs
structure Ex (B U S M:Hp):Prop where
 b:Same B S
 u:Same U M
 nb:∀a o,S a=some o->B a=some o\/U a=none\/dY o
theorem Ex.refl(B U:Hp):Ex B U B U:=⟨Same.refl _,Same.refl _,λ_ _ h=>.inl h⟩
theorem Ex.trans{B U I U1 e d:Hp}(a:Ex B U I U1)(b:Ex I U1 e d):Ex B U e d:=
 ⟨a.b.trans b.b,a.u.trans b.u,λc o h=>by
  rcases b.nb c o h with h|h|h
  ·exact a.nb c o h
  ·exact .inr (.inl (a.u.free h))
  ·exact .inr (.inr h)⟩
section
variable{Y:Cm}
def nd:HO->Prop
 |.dT _=>False
 |.frz _ (.dT _)=>False
 |_=>True
def Hm(G a:Hp):Prop:=(∀b x,G b=some x->nd x->a b=some x)/\∀b k,Rd G b (.dT k)->Rd a b (.dT k)
mutual
theorem Dn.imp{B S:Hp}(e:Hm B S):∀{d:D} {v:V},Dn Y B d v->Dn Y S d v:=by
 intro d v h;cases d <;> rw[Dn]at h ⊢ <;> first | exact h | (obtain⟨a,xs,r,c,b⟩:=h;first | exact⟨a,xs,r,e.1 _ _ c trivial,Dns.imp e b⟩ | exact⟨a,xs,r,e.1 _ _ c trivial,b.1,Dns.imp e b.2⟩ | exact⟨a,xs,r,e.2 _ _ c,b.1,Dns.imp e b.2⟩ | exact⟨a,xs,r,c.imp (λ⟨o,q⟩=>⟨o,e.1 _ _ q trivial⟩) id,Dns.imp e b⟩) | (obtain⟨a,dx,xs,r,c,b,f⟩:=h;exact⟨a,dx,xs,r,e.1 _ _ c trivial,b,Dns.imp e f⟩)
theorem Dns.imp{B S:Hp}(e:Hm B S):∀{ds:List D} {xs:List V},Dns Y B ds xs->Dns Y S ds xs
 |[],_,h=>by rw[Dns]at h ⊢;exact h
 | d::ds,_,h=>by
   rw[Dns]at h ⊢;obtain⟨x,r,h0,b,a⟩:=h;exact⟨x,r,h0,Dn.imp e b,Dns.imp e a⟩
end
theorem Hm.of{B S:Hp}(e:Same B S):Hm B S:=⟨λb x q _=>e b x q,λ_ _=>nc e⟩
theorem Dn.mono{B S:Hp}(e:Same B S){d:D}{v:V}:Dn Y B d v->Dn Y S d v:=Dn.imp (.of e)
theorem Dns.mono{B S:Hp}(e:Same B S){ds:List D}{xs:List V}:Dns Y B ds xs->Dns Y S ds xs:=Dns.imp (.of e)
theorem Dns.len{B:Hp}:∀{ds:List D} {xs:List V},Dns Y B ds xs->ds.length=xs.length
 |[],_,h=>by rw[Dns]at h;subst h;rfl
 | d::ds,_,h=>by
   rw[Dns]at h;obtain⟨x,r,rfl,_,a⟩:=h;rw[RL,RL,Dns.len a]
theorem Dns.get{B:Hp}:∀{ds:List D} {xs:List V} {i:Nat} {d:D},Dns Y B ds xs->ds[i]?=some d->∃x,xs[i]?=some x/\Dn Y B d x
 |[],_,_,_,_,e=>by cases e
 | d::ds,_,i,d',h,e=>by
   rw[Dns]at h;obtain⟨x,r,rfl,b,a⟩:=h;cases i with
   |zero=>cases e;exact⟨x,rfl,b⟩
   |succ i=>exact Dns.get (i:=i) a (by simpa using e)
theorem Dns.geti{B:Hp}:∀{ds:List D} {xs:List V} {i:Nat} {x:V},Dns Y B ds xs->xs[i]?=some x->∃d,ds[i]?=some d/\Dn Y B d x
 |[],_,_,_,h,e=>by rw[Dns]at h;subst h;cases e
 | d::ds,_,i,c,h,e=>by
   rw[Dns]at h;obtain⟨x,r,rfl,b,a⟩:=h;cases i with
   |zero=>cases e;exact⟨d,rfl,b⟩
   |succ i=>exact Dns.geti (i:=i) a (by simpa using e)
theorem Dns.append{B:Hp}:∀{ds es:List D} {xs ys:List V},Dns Y B ds xs->Dns Y B es ys->Dns Y B (ds++es) (xs++ys)
 |[],_,_,_,h,k=>by rw[Dns]at h;subst h;exact k
 | d::ds,_,_,_,h,k=>by
   rw[Dns]at h;obtain⟨x,r,rfl,b,a⟩:=h;rw[UF,UF,Dns];exact⟨x,_,rfl,b,Dns.append a k⟩
theorem Dns.one{B:Hp}{d:D}{v:V}(h:Dn Y B d v):Dns Y B [d] [v]:=by
 rw[Dns];exact⟨v,[],rfl,h,by rw[Dns]⟩
theorem Dns.drop{B:Hp}:∀{ds:List D} {xs:List V} (n:Nat),Dns Y B ds xs->Dns Y B (ds.drop n) (xs.drop n)
 |[],_,n,h=>by rw[Dns]at h;subst h;rw[List.drop_nil,List.drop_nil,Dns]
 | d::ds,_,n,h=>by
   cases n with
   |zero=>exact h
   |succ n=>
     rw[Dns]at h;obtain⟨x,r,rfl,b,a⟩:=h;exact Dns.drop n a
theorem Dns.take{B:Hp}:∀{ds:List D} {xs:List V} (n:Nat),Dns Y B ds xs->Dns Y B (ds.take n) (xs.take n)
 |[],_,n,h=>by rw[Dns]at h;subst h;rw[List.take_nil,List.take_nil,Dns]
 | d::ds,_,n,h=>by
   cases n with
   |zero=>rw[U6,U6,Dns]
   |succ n=>
     rw[Dns]at h;obtain⟨x,r,rfl,b,a⟩:=h;rw[List.take_succ_cons,List.take_succ_cons,Dns];exact⟨x,_,rfl,b,Dns.take n a⟩
theorem Dns.erase{B:Hp}:∀{ds:List D} {xs:List V} (n:Nat),Dns Y B ds xs->Dns Y B (ds.eraseIdx n) (xs.eraseIdx n)
 |[],_,n,h=>by rw[Dns]at h;subst h;rw[List.eraseIdx_nil,List.eraseIdx_nil,Dns]
 | d::ds,_,n,h=>by
   rw[Dns]at h;obtain⟨x,r,rfl,b,a⟩:=h;cases n with
   |zero=>exact a
   |succ n=>
     rw[S0,S0,Dns];exact⟨x,_,rfl,b,Dns.erase n a⟩
theorem Dns.set{B:Hp}{d':D}{v:V}(hd:Dn Y B d' v):∀{ds:List D} {xs:List V} (n:Nat),Dns Y B ds xs->Dns Y B (ds.set n d') (xs.set n v)
 |[],_,n,h=>by rw[Dns]at h;subst h;rw[List.set_nil,List.set_nil,Dns]
 | d::ds,_,n,h=>by
   rw[Dns]at h;obtain⟨x,r,rfl,b,a⟩:=h;cases n with
   |zero=>rw[List.set_cons_zero,List.set_cons_zero,Dns];exact⟨v,r,rfl,hd,a⟩
   |succ n=>
     rw[List.set_cons_succ,List.set_cons_succ,Dns];exact⟨x,_,rfl,b,Dns.set hd n a⟩
mutual
theorem Ow.imp{B S H H':Hp}(e:∀{d v},Dn Y B d v->Dn Y S d v):∀{d:D} {s:Sh} {v:V} {A:List Addr},(∀a∈A,H' a=H a)->Ow Y B H d s v A->Ow Y S H' d s v A:=by
 intro d s v A k h;cases s with
 |fz=>rw[Ow]at h ⊢;exact⟨e h.1,h.2⟩
 |ct s=>cases d <;> first | (simp[Ow]at h;done) | (rw[Ow]at h ⊢;obtain⟨a,xs,j,r,i,g,f⟩:=h;subst g;exact⟨a,xs,j,r,by rw[k a RG];exact i,rfl,Ows.imp e (λb c=>k b (on _ c)) f⟩) | (rw[Ow]at h ⊢;obtain⟨a,xs,j,r,i,g,f,l⟩:=h;subst f;exact⟨a,xs,j,r,by rw[k a RG];exact i,g,rfl,Ows.imp e (λb c=>k b (on _ c)) l⟩)
 |ob fs=>cases d <;> first | (simp[Ow]at h;done) | (rw[Ow]at h ⊢;obtain⟨a,dx,xs,j,r,i,g,f,l⟩:=h;subst f;exact⟨a,dx,xs,j,r,by rw[k a RG];exact i,g,rfl,Owf.imp e (λb c=>k b (on _ c)) l⟩)
theorem Ows.imp{B S H H':Hp}(e:∀{d v},Dn Y B d v->Dn Y S d v):∀{ds:List D} {s:Sh} {xs:List V} {A:List Addr},(∀a∈A,H' a=H a)->Ows Y B H ds s xs A->Ows Y S H' ds s xs A
 |[],_,_,_,_,h=>by rw[Ows]at h ⊢;exact h
 | d::ds,s,xs,A,k,h=>by
   rw[Ows]at h ⊢;obtain⟨x,r,A1,j,h0,i,g,f⟩:=h;subst i;exact⟨x,r,A1,j,h0,rfl,Ow.imp e (λb c=>k b (RX _ c)) g,Ows.imp e (λb c=>k b (RN _ c)) f⟩
theorem Owf.imp{B S H H':Hp}(e:∀{d v},Dn Y B d v->Dn Y S d v):∀{ds:List D} {ns:List Str} {fs:List (Str×Sh)} {xs:List V} {A:List Addr},(∀a∈A,H' a=H a)->Owf Y B H ds ns fs xs A->Owf Y S H' ds ns fs xs A
 |[],_,_,_,_,_,h=>by rw[Owf]at h ⊢;exact h
 | d::ds,ns,fs,xs,A,k,h=>by
   rw[Owf]at h ⊢;obtain⟨n,c,x,r,A1,m,g,h0,l,j,i⟩:=h;subst l;exact⟨n,c,x,r,A1,m,g,h0,rfl,Ow.imp e (λb f=>k b (RX _ f)) j,Owf.imp e (λb f=>k b (RN _ f)) i⟩
end
section
variable{B S H H':Hp}(e:Same B S){A:List Addr}(k:∀a∈A,H' a=H a){s:Sh}
include e k
theorem Ow.mono{d:D}{v:V}:Ow Y B H d s v A->Ow Y S H' d s v A:=Ow.imp (Dn.mono e) k
theorem Ows.mono{ds:List D}{xs:List V}:Ows Y B H ds s xs A->Ows Y S H' ds s xs A:=Ows.imp (Dn.mono e) k
theorem Owf.mono{ds:List D}{ns:List Str}{fs:List (Str×Sh)}{xs:List V}:Owf Y B H ds ns fs xs A->Owf Y S H' ds ns fs xs A:=Owf.imp (Dn.mono e) k
end
end
section
variable{Y:Cm}
mutual
theorem Ow.dn{B H G:Hp}(e:Same B G):∀{d:D} {s:Sh} {v:V} {A:List Addr},(∀a∈A,∀o,H a=some o->G a=some o)->Ow Y B H d s v A->Dn Y G d v:=by
 intro d s v A k h;cases s with
 |fz=>rw[Ow]at h;exact h.1.mono e
 |ct s=>cases d <;> first | (simp[Ow]at h;done) | (rw[Ow]at h;obtain⟨a,xs,l,r,i,c,g⟩:=h;subst c;rw[Dn];exact⟨a,xs,r,k a RG _ i,Ows.dn e (λb f=>k b (on _ f)) g⟩) | (rw[Ow]at h;obtain⟨a,xs,l,r,i,c,g,j⟩:=h;subst g;rw[Dn];have q:=Ows.dn e (λb f=>k b (on _ f)) j;have p:=k a RG _ i;first | exact⟨a,xs,r,p,c,q⟩ | exact⟨a,xs,r,.inl p,c,q⟩)
 |ob fs=>cases d <;> first | (simp[Ow]at h;done) | (rw[Ow]at h;obtain⟨a,dx,xs,l,r,i,c,g,j⟩:=h;subst g;rw[Dn];exact⟨a,dx,xs,r,k a RG _ i,c,Owf.dn e (λb f=>k b (on _ f)) j⟩)
theorem Ows.dn{B H G:Hp}(e:Same B G):∀{ds:List D} {s:Sh} {xs:List V} {A:List Addr},(∀a∈A,∀o,H a=some o->G a=some o)->Ows Y B H ds s xs A->Dns Y G ds xs
 |[],_,_,_,_,h=>by rw[Ows]at h;rw[Dns];exact h.1
 | d::ds,s,xs,A,k,h=>by
   rw[Ows]at h;obtain⟨x,r,A1,j,h0,i,g,f⟩:=h;subst i;rw[Dns];exact⟨x,r,h0,Ow.dn e (λb c=>k b (RX _ c)) g,Ows.dn e (λb c=>k b (RN _ c)) f⟩
theorem Owf.dn{B H G:Hp}(e:Same B G):∀{ds:List D} {ns:List Str} {fs:List (Str×Sh)} {xs:List V} {A:List Addr},(∀a∈A,∀o,H a=some o->G a=some o)->Owf Y B H ds ns fs xs A->Dns Y G ds xs
 |[],_,_,_,_,_,h=>by rw[Owf]at h;rw[Dns];exact h.1
 | d::ds,ns,fs,xs,A,k,h=>by
   rw[Owf]at h;obtain⟨n,f,x,r,A1,m,l,h0,j,i,g⟩:=h;subst j;rw[Dns];exact⟨x,r,h0,Ow.dn e (λb c=>k b (RX _ c)) i,Owf.dn e (λb c=>k b (RN _ c)) g⟩
end
mutual
theorem Ow.at2{B H:Hp}:∀{d:D} {s:Sh} {v:V} {A:List Addr} {a:Addr},Ow Y B H d s v A->a∈A->∃o,H a=some o/\¬ dY o:=by
 intro d s v A a h m;cases s with
 |fz=>rw[Ow]at h;rw[h.2]at m;cases m
 |ct s=>cases d <;> first | (simp[Ow]at h;done) | (rw[Ow]at h;obtain⟨b,xs,j,r,f,i,c⟩:=h;subst i;exact(RO.mp m).elim (λe=>by subst e;exact⟨_,f,λ⟨_,z⟩=>nomatch z⟩) (Ows.at2 c)) | (rw[Ow]at h;obtain⟨b,xs,j,r,f,i,c,g⟩:=h;subst c;exact(RO.mp m).elim (λe=>by subst e;exact⟨_,f,λ⟨_,z⟩=>nomatch z⟩) (Ows.at2 g))
 |ob fs=>cases d <;> first | (simp[Ow]at h;done) | (rw[Ow]at h;obtain⟨b,dx,xs,j,r,f,i,c,g⟩:=h;subst c;exact(RO.mp m).elim (λe=>by subst e;exact⟨_,f,λ⟨_,z⟩=>nomatch z⟩) (Owf.at2 g))
theorem Ows.at2{B H:Hp}:∀{ds:List D} {s:Sh} {xs:List V} {A:List Addr} {a:Addr},Ows Y B H ds s xs A->a∈A->∃o,H a=some o/\¬ dY o
 |[],_,_,_,_,h,m=>by rw[Ows]at h;rw[h.2]at m;cases m
 | d::ds,s,xs,A,a,h,m=>by
   rw[Ows]at h;obtain⟨x,r,A1,f,h0,e,c,b⟩:=h;subst e;rcases RW.mp m with m|m
   ·exact Ow.at2 c m
   ·exact Ows.at2 b m
theorem Owf.at2{B H:Hp}:∀{ds:List D} {ns:List Str} {fs:List (Str×Sh)} {xs:List V} {A:List Addr} {a:Addr},Owf Y B H ds ns fs xs A->a∈A->∃o,H a=some o/\¬ dY o
 |[],_,_,_,_,_,h,m=>by rw[Owf]at h;rw[h.2]at m;cases m
 | d::ds,ns,fs,xs,A,a,h,m=>by
   rw[Owf]at h;obtain⟨n,b,x,r,A1,i,g,h0,f,e,c⟩:=h;subst f;rcases RW.mp m with m|m
   ·exact Ow.at2 e m
   ·exact Owf.at2 c m
end
theorem Ow.at{B H:Hp}{d:D}{s:Sh}{v:V}{A:List Addr}{a:Addr}(h:Ow Y B H d s v A)(m:a∈A):∃o,H a=some o:=let ⟨o,e,_⟩:=Ow.at2 h m;⟨o,e⟩
theorem Owf.at{B H:Hp}{ds:List D}{ns:List Str}{fs:List (Str×Sh)}{xs:List V}{A:List Addr}{a:Addr}(h:Owf Y B H ds ns fs xs A)(m:a∈A):∃o,H a=some o:=let ⟨o,e,_⟩:=Owf.at2 h m;⟨o,e⟩
theorem Ows.of{B H:Hp}:∀{ds:List D} {xs:List V},Dns Y B ds xs->Ows Y B H ds .fz xs []
 |[],_,h=>by rw[Dns]at h;rw[Ows];exact⟨h,rfl⟩
 | d::ds,_,h=>by
   rw[Dns]at h;obtain⟨x,r,h0,b,a⟩:=h;rw[Ows];exact⟨x,r,[],[],h0,rfl,by rw[Ow];exact⟨b,rfl⟩,Ows.of a⟩
theorem Ows.fz{B H:Hp}:∀{ds:List D} {xs:List V} {A:List Addr},Ows Y B H ds .fz xs A->Dns Y B ds xs/\A=[]
 |[],_,_,h=>by rw[Ows]at h;rw[Dns];exact h
 | d::ds,_,_,h=>by
   rw[Ows]at h;obtain⟨x,r,A1,g,h0,f,a,e⟩:=h;rw[Ow]at a;obtain⟨c,b⟩:=Ows.fz e;rw[Dns];exact⟨⟨x,r,h0,a.1,c⟩,by rw[f,a.2,b];rfl⟩
theorem Lo.at2{B U H:Hp}{m:Md}{o:Option D}{s:Option V}{A:List Addr}{a:Addr}(h:Lo Y B U H m o s A)(b:a∈A):∃o,H a=some o/\¬ dY o:=by
 unfold Lo at h;cases o with
 |none=>simp only at h;rw[h]at b;cases b
 |some d=>
   obtain⟨v,_,h⟩:=h;cases m with
   |F=>have h:Dn Y B d v/\A=[]:=h;rw[h.2]at b;cases b
   |R=>have h:Dn Y U d v/\A=[]:=h;rw[h.2]at b;cases b
   |O sh=>exact Ow.at2 h b
theorem Lo.at{B U H:Hp}{m:Md}{o:Option D}{s:Option V}{A:List Addr}{a:Addr}(h:Lo Y B U H m o s A)(b:a∈A):∃o,H a=some o:=let ⟨o,e,_⟩:=h.at2 b;⟨o,e⟩
theorem Lo.mono{B U H S M H':Hp}{m:Md}{o:Option D}{s:Option V}{A:List Addr}(h:Lo Y B U H m o s A)(e:Same B S)(f:Same U M)(k:∀a∈A,H' a=H a):Lo Y S M H' m o s A:=by
 unfold Lo at h ⊢;cases o with
 |none=>exact h
 |some d=>
   obtain⟨v,b,h⟩:=h;refine⟨v,b,?_⟩;cases m with
   |F=>exact⟨h.1.mono e,h.2⟩
   |R=>exact⟨h.1.mono f,h.2⟩
   |O sh=>exact Ow.mono e k h
variable{ms:List Md}{B U H S M H':Hp}{As:Nat->List Addr}{Z:St}{T:L4}
theorem Rel.at(R:Rel Y ms B U As Z H T){i:Nat}{a:Addr}(h:a∈As i):∃o,H a=some o:=(R.lo i).at h
theorem Rel.nt(R:Rel Y ms B U As Z H T){i:Nat}{a:Addr}{o:HO}(h:a∈As i)(e:H a=some o)(z:dY o):False:=by
 obtain⟨o',b,n⟩:=(R.lo i).at2 h;rw[e]at b;cases b;exact n z
theorem Rel.fresh(R:Rel Y ms B U As Z H T){p:Addr}(h:H p=none)(i:Nat):p∉As i:=λm=>by
 obtain⟨o,e⟩:=R.at m;rw[h]at e;cases e
theorem Rel.grow(R:Rel Y ms B U As Z H T)(e:Same B S)(f:Same U M)(g:Same H H')(bu:Same S M)(uh:Same M H')(un:∀i a,a∈As i->M a=none):Rel Y ms S M As Z H' T:=
 ⟨bu,uh,R.nd,R.dj,un,λi=>(R.lo i).mono e f λa b=>by
  obtain⟨o,q⟩:=R.at b
  rw[q,g a o q],R.len,λp hp=>let ⟨l,d,c⟩:=R.tb p hp;⟨l,e _ _ d,c⟩⟩
theorem Rel.bh(R:Rel Y ms B U As Z H T):Same B H:=R.bu.trans R.uh
theorem Rel.new(R:Rel Y ms B U As Z H T){p:Addr}{o:HO}(h:H p=none):Rel Y ms B U As Z (upd H p o) T:=
 R.grow (Same.refl _) (Same.refl _) (Gd.cz h) R.bu (R.uh.trans (Gd.cz h)) R.un
theorem qx{G a:Hp}{p:Addr}{o:HO}(e:Same G a):Same (upd G p o) (upd a p o):=λb u q=>by
 by_cases z:b=p
 ·subst z;rw[aY]at q ⊢;exact q
 ·rw[aS z]at q ⊢;exact e b u q
theorem Rel.newB(R:Rel Y ms B U As Z H T){p:Addr}{o:HO}(h:H p=none):Rel Y ms (upd B p o) (upd U p o) As Z (upd H p o) T:=
 R.grow (Gd.cz (R.bh.free h)) (Gd.cz (R.uh.free h)) (Gd.cz h) (qx R.bu) (qx R.uh) λi a b=>by
  rw[aS (λz:a=p=>R.fresh h i (z▸b))];exact R.un i a b
theorem Ex.newB(R:Rel Y ms B U As Z H T){p:Addr}{o:HO}(h:H p=none):Ex B U (upd B p o) (upd U p o):=
 ⟨Gd.cz (R.bh.free h),Gd.cz (R.uh.free h),λa u q=>by
  by_cases z:a=p
  ·subst z;exact .inr (.inl (R.uh.free h))
  ·rw[aS z]at q;exact .inl q⟩
def frz(B H:Hp)(A:List Addr):Hp:=λa=>if a∈A then H a else B a
theorem cr{A:List Addr}(e:Same B H):Same B (frz B H A):=λa o q=>by
 unfold frz;split
 ·exact e a o q
 ·exact q
theorem sy{A:List Addr}(e:Same B H):Same (frz B H A) H:=λa o q=>by
 unfold frz at q;split at q
 ·exact q
 ·exact e a o q
theorem oI{A:List Addr}(e:Same B U):Same (frz B H A) (frz U H A):=λa o q=>by
 unfold frz at q ⊢;split
 ·rename_i z;rw[RF z]at q;exact q
 ·rename_i z;rw[RE z]at q;exact e a o q
end
abbrev KT(W X:Type):=W->X->Hp->Hp->Hp->List Addr->Prop
inductive Kd where
 |F|U|X
def hp:Kd->Hp->Hp->Hp->Hp
 |.F,B,_,_=>B
 |.U,_,U,_=>U
 |.X,_,_,H=>H
structure Gw (B U H S M H':Hp):Prop extends Ex B U S M where
 h:Same H H'
 fr:∀a o,M a=some o->U a=some o\/H a=none\/dY o
theorem Gw.refl(B U H:Hp):Gw B U H B U H:=⟨Ex.refl _ _,Same.refl _,λ_ _ h=>.inl h⟩
theorem Gw.trans{B U H I U1 L f d e:Hp}(a:Gw B U H I U1 L)(b:Gw I U1 L f d e):Gw B U H f d e:=
 ⟨a.toEx.trans b.toEx,a.h.trans b.h,λc o h=>by
  rcases b.fr c o h with h|h|h
  ·exact a.fr c o h
  ·exact .inr (.inl (a.h.free h))
  ·exact .inr (.inr h)⟩
structure New (N:List Addr) (H U:Hp) (As:Nat->List Addr):Prop where
 nd:N.Nodup
 fr:∀a∈N,H a=none
 un:∀a∈N,U a=none
theorem New.nil{H U:Hp}{As:Nat->List Addr}:New [] H U As:=⟨Sy,λ_ h=>(nomatch h),λ_ h=>(nomatch h)⟩
section
variable(Y:Cm)
def Cn(G H:Hp):D->V->Prop
 |.lst ds,v=>∃a xs,v=.ref a/\H a=some (.lst xs)/\Dns Y G ds xs
 |.scr ds,v=>∃a xs,v=.ref a/\SqF Y.K H a xs/\Dns Y G ds xs
 |.tup ds,v=>∃a xs,v=.ref a/\H a=some (.tup xs)/\Dns Y G ds xs
 |.dK ks ds,v=>∃(a:Addr) (b:List (bJ×V)),v=.ref a/\H a=some (.dK b)/\b.map (·.1)=ks/\Dns Y G ds (b.map (·.2))
 |.dT ks ds,v=>∃(a:Addr) (b:List (List bJ×V)),v=.ref a/\Rd H a (.dT b)/\b.map (·.1)=ks/\Dns Y G ds (b.map (·.2))
 |.obj c ns ds,v=>∃(a dx:Addr) (fs:List (Str×V)),v=.ref a/\H a=some (.ins (Y c) dx fs)/\fs.map (·.1)=ns/\Dns Y G ds (fs.map (·.2))
 |d,v=>Dn Y G d v
def KR(k:Kd):KT D V:=λd v B U H _=>Dn Y (hp k B U H) d v
def KC(k:Kd):KT D V:=λd v B U H _=>Cn Y (hp k B U H) H d v
def KO(s:Sh):KT D V:=λd v B U H N=>Ow Y B H d s v N
def KB:KT Bool Bool:=λb c _ _ _ _=>b=c
def KL(k:Kd):KT (List D) (List V):=λd v B U H _=>Dns Y (hp k B U H) d v
def Po{W X:Type}(K:KT W X)(E:XK)(ms:List Md)(B U:Hp)(As:Nat->List Addr)(Z:St)(H:Hp)(T:L4)(r:Res W)(Q:X->Hp->Prop):Prop:=
 match r with
 |.ok d=>∀v S M H' N,Rel Y ms S M As Z H' T->Gw B U H S M H'->New N H M As->K d v S M H' N->Q v H'
 |.exc c=>∀S M H',Rel Y ms S M As Z H' T->Gw B U H S M H'->∀a,E (.ref (Y c)) a H'
 |.bad=>False
def PJ{W X:Type}(K:KT W X)(E:XK)(ms:List Md)(t:St->Hp->(X->Hp->Prop)->Prop)(m:L4->Res W):Prop:=
 ∀B U As Z H T Q,Rel Y ms B U As Z H T->Po Y K E ms B U As Z H T (m T) Q->t Z H Q
end
section
variable{Y:Cm}{E:XK}{ms:List Md}{B U H:Hp}{As:Nat->List Addr}{Z:St}{T:L4}
theorem New.up{N:List Addr}{L:Hp}(h:New N L U As)(s:Same H L):New N H U As:=⟨h.nd,λa b=>s.free (h.fr a b),h.un⟩
theorem Po.at{W X:Type}{K:KT W X}{I U1 L:Hp}{r:Res W}{Q:X->Hp->Prop}(P:Po Y K E ms B U As Z H T r Q)(e:Gw B U H I U1 L):Po Y K E ms I U1 As Z L T r Q:=by
 cases r with
 |ok d=>exact λv S M H' N b a f k=>P v S M H' N b (e.trans a) (f.up e.h) k
 |exc c=>exact λS M H' b a=>P S M H' b (e.trans a)
 |bad=>exact P
theorem PJ.bnd{W X O M:Type}{g:KT W X}{f:KT O M}{b:St->Hp->(X->Hp->Prop)->Prop}{a:L4->Res W}(j:PJ Y g E ms b a)(R:Rel Y ms B U As Z H T){k:W->Res O}{Q:M->Hp->Prop}
 (P:Po Y f E ms B U As Z H T ((a T).bind k) Q) {body:X->Hp->Prop}
 (h:∀x v I U1 L N,a T=.ok x->Rel Y ms I U1 As Z L T->Gw B U H I U1 L->New N H U1 As->g x v I U1 L N->Po Y f E ms I U1 As Z L T (k x) Q->body v L):b Z H body:=by
 refine j B U As Z H T body R ?_;cases e:a T with
 |ok x=>
   rw[e]at P;exact λv I U1 L N l d i k1=>h x v I U1 L N e l d i k1 (Po.at (r:=k x) P d)
 |exc c=>rw[e]at P;exact P
 |bad=>rw[e]at P;exact P
theorem ik{k:Kd}{I U1 L:Hp}(e:Gw B U H I U1 L):Same (hp k B U H) (hp k I U1 L):=by
 cases k with
 |F=>exact e.b
 |U=>exact e.u
 |X=>exact e.h
theorem Cn.mono{G j H H':Hp}(e:Same G j)(f:Same H H'){d:D}{v:V}(h:Cn Y G H d v):Cn Y j H' d v:=by
 cases d with
 |lst ds=>obtain⟨a,xs,r,g,b⟩:=h;exact⟨a,xs,r,f _ _ g,b.mono e⟩
 |scr ds=>obtain⟨a,xs,r,g,b⟩:=h;exact⟨a,xs,r,g.mono f,b.mono e⟩
 |tup ds=>obtain⟨a,xs,r,g,b⟩:=h;exact⟨a,xs,r,f _ _ g,b.mono e⟩
 |dK ks ds=>obtain⟨a,xs,r,g,b,i⟩:=h;exact⟨a,xs,r,f _ _ g,b,i.mono e⟩
 |dT ks ds=>obtain⟨a,xs,r,g,b,i⟩:=h;exact⟨a,xs,r,nc f g,b,i.mono e⟩
 |obj c ns ds=>obtain⟨a,dx,xs,r,g,b,i⟩:=h;exact⟨a,dx,xs,r,f _ _ g,b,i.mono e⟩
 |non=>exact Dn.mono e h
 |bl _=>exact Dn.mono e h
 |int _=>exact Dn.mono e h
 |str _=>exact Dn.mono e h
 |ty _=>exact Dn.mono e h
theorem Dn.cn{G H:Hp}(f:Same G H){d:D}{v:V}(h:Dn Y G d v):Cn Y G H d v:=by
 cases d with
 |lst ds=>rw[Dn]at h;obtain⟨a,xs,r,e,b⟩:=h;exact⟨a,xs,r,f _ _ e,b⟩
 |scr ds=>rw[Dn]at h;obtain⟨a,xs,r,e,b⟩:=h;exact⟨a,xs,r,e.mono f,b⟩
 |tup ds=>rw[Dn]at h;obtain⟨a,xs,r,e,b⟩:=h;exact⟨a,xs,r,f _ _ e,b⟩
 |dK ks ds=>rw[Dn]at h;obtain⟨a,xs,r,e,b,g⟩:=h;exact⟨a,xs,r,f _ _ e,b,g⟩
 |dT ks ds=>rw[Dn]at h;obtain⟨a,xs,r,e,b,g⟩:=h;exact⟨a,xs,r,nc f e,b,g⟩
 |obj c ns ds=>rw[Dn]at h;obtain⟨a,dx,xs,r,e,b,g⟩:=h;exact⟨a,dx,xs,r,f _ _ e,b,g⟩
 |non=>exact h
 |bl _=>exact h
 |int _=>exact h
 |str _=>exact h
 |ty _=>exact h
theorem Cn.dn{H:Hp}{d:D}{v:V}(h:Cn Y H H d v):Dn Y H d v:=by
 cases d with
 |lst ds=>obtain⟨a,xs,r,e,b⟩:=h;rw[Dn];exact⟨a,xs,r,e,b⟩
 |scr ds=>obtain⟨a,xs,r,e,b⟩:=h;rw[Dn];exact⟨a,xs,r,e,b⟩
 |tup ds=>obtain⟨a,xs,r,e,b⟩:=h;rw[Dn];exact⟨a,xs,r,e,b⟩
 |dK ks ds=>obtain⟨a,xs,r,e,b,f⟩:=h;rw[Dn];exact⟨a,xs,r,e,b,f⟩
 |dT ks ds=>obtain⟨a,xs,r,e,b,f⟩:=h;rw[Dn];exact⟨a,xs,r,e,b,f⟩
 |obj c ns ds=>obtain⟨a,dx,xs,r,e,b,f⟩:=h;rw[Dn];exact⟨a,dx,xs,r,e,b,f⟩
 |non=>exact h
 |bl _=>exact h
 |int _=>exact h
 |str _=>exact h
 |ty _=>exact h
theorem Rel.hp(R:Rel Y ms B U As Z H T)(k:Kd):Same (hp k B U H) H:=by
 cases k with
 |F=>exact R.bh
 |U=>exact R.uh
 |X=>exact Same.refl _
theorem PJ.imp{W X:Type}{K b:KT W X}{t:St->Hp->(X->Hp->Prop)->Prop}{m:L4->Res W}(h:PJ Y K E ms t m)(f:∀B U As Z H T d v N,Rel Y ms B U As Z H T->K d v B U H N->b d v B U H N):PJ Y b E ms t m:=by
 intro B U As Z H T Q R P;refine h B U As Z H T Q R ?_;cases e:m T with
 |ok d=>rw[e]at P;exact λv S M H' N a i g k=>P v S M H' N a i g (f _ _ _ _ _ _ _ _ _ a k)
 |exc c=>rw[e]at P;exact P
 |bad=>rw[e]at P;exact P
section
variable{t:TE}{m:L4->Res D}{k:Kd}{s:Sh}
theorem fu(h:PJ Y (KR Y .F) E ms t m):PJ Y (KR Y .U) E ms t m:=h.imp λ_ _ _ _ _ _ _ _ _ R q=>Dn.mono R.bu q
theorem ux(h:PJ Y (KR Y .U) E ms t m):PJ Y (KR Y .X) E ms t m:=h.imp λ_ _ _ _ _ _ _ _ _ R q=>Dn.mono R.uh q
theorem fx(h:PJ Y (KR Y .F) E ms t m):PJ Y (KR Y .X) E ms t m:=ux (fu h)
theorem rc(h:PJ Y (KR Y k) E ms t m):PJ Y (KC Y k) E ms t m:=h.imp λ_ _ _ _ _ _ _ _ _ R q=>Dn.cn (R.hp k) q
theorem cx(h:PJ Y (KC Y k) E ms t m):PJ Y (KR Y .X) E ms t m:=h.imp λ_ _ _ _ _ _ _ _ _ R q=>Cn.dn (Cn.mono (R.hp k) (Same.refl _) q)
theorem Rel.freeze{A:List Addr}(R:Rel Y ms B U As Z H T)(h:∀a∈A,U a=none/\∀i,a∉As i):Rel Y ms (Mi.frz B H A) (Mi.frz U H A) As Z H T/\Ex B U (Mi.frz B H A) (Mi.frz U H A):=by
 refine⟨R.grow (cr R.bh) (cr R.uh) (Same.refl _) (oI R.bu) (sy R.uh) λi a b=>?_,cr R.bh,cr R.uh,λa o q=>?_⟩
 · unfold Mi.frz;split
   ·rename_i z;exact absurd b ((h a z).2 i)
   ·exact R.un i a b
 · unfold Mi.frz at q;split at q
   ·rename_i z;exact .inr (.inl (h a z).1)
   ·exact .inl q
theorem Rel.apart(R:Rel Y ms B U As Z H T){N:List Addr}{M:Hp}(n:New N H M As):∀a∈N,∀i,a∉As i:=λa b i=>R.fresh (n.fr a b) i
theorem oF(h:PJ Y (KO Y s) E ms t m):PJ Y (KR Y .F) E ms t m:=by
 intro B U As Z H T Q R P;refine h B U As Z H T Q R ?_;cases e:m T with
 |ok d=>
   rw[e]at P;intro v S M H' N i g f j;obtain⟨R2,k⟩:=i.freeze λa b=>⟨f.un a b,R.apart f a b⟩;refine P v _ _ H' [] R2 ⟨g.toEx.trans k,g.h,λa o q=>?_⟩ New.nil (Ow.dn (cr i.bh) (λa b o q=>?_) j)
   · unfold Mi.frz at q;split at q
     ·rename_i z;exact .inr (.inl (f.fr a z))
     ·exact g.fr a o q
   ·unfold Mi.frz;rw[if_pos b];exact q
 |exc c=>rw[e]at P;exact P
 |bad=>rw[e]at P;exact P
theorem oc(h:PJ Y (KO Y (.ct .fz)) E ms t m):PJ Y (KC Y .F) E ms t m:=rc (oF h)
end
theorem fj{W:Type}{l:List (Option W)}{i:Nat}{x:W}(h:rg l i=some x):l[i]?=some (some x):=by
 unfold rg at h;cases e:l[i]? with
 |none=>rw[e]at h;cases h
 |some o=>rw[e]at h;exact congrArg some h
theorem rX{K:KT D V}{i:Nat}(f:∀(B U:Hp) (A:List Addr) (H:Hp) (d:D) (v:V) (s:Option V),Same B U->Same U H->Lo Y B U H (ms.getD i .F) (some d) s A->s=some v->K d v B U H []):PJ Y K E ms (eT i) (vr i):=by
 intro B U As Z H T Q R P;unfold vr at P;have l:=R.lo i;cases e:rg T i with
 |none=>rw[e]at P;exact P.elim
 |some d=>
   rw[e]at P l;obtain⟨v,a,q⟩:=id l;exact⟨v,fj a,P v B U H [] R (Gw.refl _ _ _) New.nil (f B U _ H d v _ R.bu R.uh l a)⟩
theorem ii{B U H:Hp}{m:Md}{d:D}{v:V}{s:Option V}{A:List Addr}(l:Lo Y B U H m (some d) s A)(b:s=some v):LoV Y B U H m d v A:=by
 obtain⟨w,a,q⟩:=l;rw[b]at a;cases a;exact q
theorem xF{i:Nat}(b:ms.getD i .F= .F):PJ Y (KR Y .F) E ms (eT i) (vr i):=rX λB U As H d v s _ _ l a=>by
 rw[b]at l;exact(ii l a).1
theorem xR{i:Nat}(b:ms.getD i .F= .R):PJ Y (KR Y .U) E ms (eT i) (vr i):=rX λB U As H d v s _ _ l a=>by
 rw[b]at l;exact(ii l a).1
theorem xO{i:Nat}{sh:Sh}(c:ms.getD i .F= .O sh):PJ Y (KR Y .X) E ms (eT i) (vr i):=rX λB U As H d v s b u l a=>by
 rw[c]at l;exact Ow.dn (b.trans u) (λ_ _ _ q=>q) (ii l a)
theorem Ow.cn{B H:Hp}{d:D}{v:V}{A:List Addr}(f:Same B H)(h:Ow Y B H d (.ct .fz) v A):Cn Y B H d v:=by
 cases d with
 |lst ds=>rw[Ow]at h;obtain⟨a,xs,i,r,b,c,g⟩:=h;exact⟨a,xs,r,b,(Ows.fz g).1⟩
 |dK ks ds=>rw[Ow]at h;obtain⟨a,xs,i,r,b,c,g,e⟩:=h;exact⟨a,xs,r,b,c,(Ows.fz e).1⟩
 |dT ks ds=>rw[Ow]at h;obtain⟨a,xs,i,r,b,c,g,e⟩:=h;exact⟨a,xs,r,.inl b,c,(Ows.fz e).1⟩
 |_=>simp[Ow]at h
theorem xC{i:Nat}(c:ms.getD i .F= .O (.ct .fz)):PJ Y (KC Y .F) E ms (eT i) (vr i):=rX λB U As H d v s b u l a=>by
 rw[c]at l;exact Ow.cn (b.trans u) (ii l a)
theorem Q6{d:D}{v:V}(h:∀G,Dn Y G d v):PJ Y (KR Y .F) E ms (tC v) (aM d):=λB U As Z H T Q R P=>P v B U H [] R (Gw.refl _ _ _) New.nil (h _)
theorem pI{i:Int}:PJ Y (KR Y .F) E ms (tC (.int i)) (aM (.int i)):=Q6 λ_=>by rw[Dn]
theorem pB{b:Bool}:PJ Y (KR Y .F) E ms (tC (.bl b)) (aM (.bl b)):=Q6 λ_=>by rw[Dn]
theorem pN:PJ Y (KR Y .F) E ms (tC .non) (aM .non):=Q6 λ_=>by rw[Dn]
end
def Ao(neg:Bool)(x y:D):Res D:=if oA y=true then .ok (.bl (neg.xor (oA x))) else .bad
def d8(m:L4->Res D):L4->Res Bool:=λT=>(m T).bind FN
def Hk(a b:L4->Res Bool):L4->Res Bool:=λT=>(a T).bind λc=>if c=true then b T else .ok false
def Ie(a b:L4->Res Bool):L4->Res Bool:=λT=>(a T).bind λc=>if c=true then .ok true else b T
section
variable{Y:Cm}{E:XK}{ms:List Md}
def S2(Y:Cm)(r:R2)(f:D->D->Res D):Prop:=∀H x y v u,Dn Y H x v->Dn Y H y u->match f x y with
 |.ok d=>∃w,(∀G,Dn Y G d w)/\∀Q:VK,Q w H->r v u H Q
 |.exc _=>False
 |.bad=>True
def S1(Y:Cm)(r:V->Hp->VK->Prop)(f:D->Res D):Prop:=∀H x v,Dn Y H x v->match f x with
 |.ok d=>∃w,(∀G,Dn Y G d w)/\∀Q:VK,Q w H->r v H Q
 |.exc _=>False
 |.bad=>True
section
variable{r:R2}{r1:V->Hp->VK->Prop}{rb:List V->Hp->VK->Prop}{f:D->D->Res D}{f1:D->Res D}{ta tb:TE}{ma mb:L4->Res D}
theorem aH(h:S2 Y r f)(j:PJ Y (KR Y .X) E ms ta ma)(i:PJ Y (KR Y .X) E ms tb mb):PJ Y (KR Y .F) E ms (Bi r ta tb) (bn f ma mb):=by
 intro B U As Z H T Q R P;refine j.bnd R P λx v I U1 L O _ o z t M W=>i.bnd o W λy u p n b A _ R2 l s m a=>?_;have q:=h b x y v u (Dn.mono l.h M) m;cases e:f x y with
 |ok d=>
   rw[e]at q a;obtain⟨w,g,k⟩:=q;exact k Q (a w p n b [] R2 (Gw.refl _ _ _) New.nil (g _))
 |exc c=>rw[e]at q;exact q.elim
 |bad=>rw[e]at a;exact a.elim
theorem KQ(h:S1 Y r1 f1)(b:PJ Y (KR Y .X) E ms ta ma):PJ Y (KR Y .F) E ms (tUn r1 ta) (un f1 ma):=by
 intro B U As Z H T Q R P;refine b.bnd R P λx v I U1 L O _ f i g M W=>?_;have q:=h L x v M;cases e:f1 x with
 |ok d=>
   rw[e]at q W;obtain⟨w,a,k⟩:=q;exact k Q (W w I U1 L [] f (Gw.refl _ _ _) New.nil (a _))
 |exc c=>rw[e]at q;exact q.elim
 |bad=>rw[e]at W;exact W.elim
theorem qE(h:S1 Y (λv H Q=>rb [v] H Q) f1)(a:PJ Y (KR Y .X) E ms ta ma):PJ Y (KR Y .F) E ms (FG rb (bS ta dE)) (un f1 ma):=KQ h a
end
theorem S2.imp{r a:R2}{f:D->D->Res D}(h:S2 Y r f)(k:∀x y H Q,r x y H Q->a x y H Q):S2 Y a f:=by
 intro H x y v u g b;have q:=h H x y v u g b;cases e:f x y with
 |ok d=>
   rw[e]at q;obtain⟨w,i,q⟩:=q;exact⟨w,i,λQ z=>k _ _ _ _ (q Q z)⟩
 |exc c=>rw[e]at q;exact q
 |bad=>trivial
theorem sI0{g:Int->Int->Int}:S2 Y (ye λi j=>.int (g i j)) (iI g):=by
 intro H x y v u b a;cases x with
 |int i=>
   cases y with
   |int j=>
     rw[Dn]at b;rw[Dn]at a;subst b a;exact⟨.int (g i j),λ_=>by rw[Dn],λQ q=>⟨i,j,rfl,rfl,q⟩⟩
   |_=>trivial
 |_=>trivial
theorem Q4{g:Int->Int->Bool}:S2 Y (ye λi j=>.bl (g i j)) (iB g):=by
 intro H x y v u b a;cases x with
 |int i=>
   cases y with
   |int j=>
     rw[Dn]at b;rw[Dn]at a;subst b a;exact⟨.bl (g i j),λ_=>by rw[Dn],λQ q=>⟨i,j,rfl,rfl,q⟩⟩
   |_=>trivial
 |_=>trivial
theorem Og{C:Int->Int->Prop}{c:Int->Int->Bool}{g:Int->Int->Int}(d:∀i j,c i j=true->C i j):S2 Y (rI C λi j=>.int (g i j)) (iC c g):=by
 intro H x y v u b a;cases x with
 |int i=>
   cases y with
   |int j=>
     rw[Dn]at b;rw[Dn]at a;subst b a;unfold iC;dsimp only;by_cases z:c i j=true
     ·rw[RF z];exact⟨.int (g i j),λ_=>by rw[Dn],λQ q=>⟨i,j,rfl,rfl,d i j z,q⟩⟩
     ·rw[RE z];trivial
   |_=>trivial
 |_=>trivial
theorem gh:S2 Y (ye λi j=>.int (i+j)) jh:=sI0
theorem kK:S2 Y (ye λi j=>.int (i-j)) mR:=sI0
theorem zS:S2 Y (ye λi j=>.bl (decide (i<j))) FJ:=Q4
theorem Ge:S2 Y (ye λi j=>.bl (decide (j<i))) Je:=Q4
theorem Q3:S2 Y (ye λi j=>.bl (decide (j<=i))) QU:=Q4
theorem ud:S2 Y (rI CMul λi j=>.int (i*j)) r8:=Og λ_ _ h=>by simpa [CMul] using h
theorem fL:S2 Y (rI Np λi j=>.int (i / j)) fZ:=Og λ_ _ h=>by simpa [Np] using h
theorem b6:S2 Y (rI (λ_ j=>0<j) λi j=>.int (i%j)) cR:=Og λ_ _ h=>Tw h
theorem HP:S2 Y (rI No λi j=>.int (i ^ j.toNat)) zX:=Og λ_ _ h=>by simpa [No] using h
theorem Oe:S2 Y (rI (λ_ j=>0<=j) λi j=>.int (i / 2 ^ j.toNat)) Bu:=Og λ_ _ h=>Tw h
theorem HQ:S1 Y (rU λi=>.int (-i)) GB:=by
 intro H x v a;cases x with
 |int i=>
   rw[Dn]at a;subst a;exact⟨.int (-i),λ_=>by rw[Dn],λQ q=>⟨i,rfl,q⟩⟩
 |_=>trivial
theorem HU(neg:Bool):S2 Y (λx y H Q=>JN x y=true/\Q (.bl (neg.xor (decide (x=y)))) H) (ku neg):=by
 intro H x y v u b a;cases x with
 |int i=>
   cases y with
   |int j=>
     rw[Dn]at b;rw[Dn]at a;subst b a;exact⟨_,λ_=>by rw[Dn],λQ q=>⟨rfl,by simpa using q⟩⟩
   |non=>
     rw[Dn]at b;rw[Dn]at a;subst b a;exact⟨_,λ_=>by rw[Dn],λQ q=>⟨rfl,by simpa using q⟩⟩
   |_=>trivial
 |str i=>
   cases y with
   |str j=>
     rw[Dn]at b;rw[Dn]at a;subst b a;exact⟨_,λ_=>by rw[Dn],λQ q=>⟨rfl,by simpa using q⟩⟩
   |_=>trivial
 |bl i=>
   cases y with
   |bl j=>
     rw[Dn]at b;rw[Dn]at a;subst b a;exact⟨_,λ_=>by rw[Dn],λQ q=>⟨rfl,by simpa using q⟩⟩
   |_=>trivial
 |non=>
   cases y with
   |int j=>
     rw[Dn]at b;rw[Dn]at a;subst b a;exact⟨_,λ_=>by rw[Dn],λQ q=>⟨rfl,by simpa using q⟩⟩
   |non=>
     rw[Dn]at b;rw[Dn]at a;subst b a;exact⟨_,λ_=>by rw[Dn],λQ q=>⟨rfl,by simpa using q⟩⟩
   |_=>trivial
 |_=>cases y<;>trivial
theorem fM:S2 Y rEq (ku false):=(HU false).imp λx y H Q h=>⟨h.1,by simpa using h.2⟩
theorem J7:S2 Y rNe (ku true):=(HU true).imp λx y H Q h=>⟨h.1,by simpa using h.2⟩
theorem Dn.non{G:Hp}{d:D}{v:V}(h:Dn Y G d v):decide (v=.non)=oA d:=by
 cases d with
 |non=>rw[Dn]at h;subst h;rfl
 |bl _=>rw[Dn]at h;subst h;rfl
 |int _=>rw[Dn]at h;subst h;rfl
 |str _=>rw[Dn]at h;subst h;rfl
 |ty _=>rw[Dn]at h;subst h;rfl
 |lst _=>rw[Dn]at h;obtain⟨a,xs,e,_⟩:=h;subst e;rfl
 |scr _=>rw[Dn]at h;obtain⟨a,xs,e,_⟩:=h;subst e;rfl
 |tup _=>rw[Dn]at h;obtain⟨a,xs,e,_⟩:=h;subst e;rfl
 |dK _ _=>rw[Dn]at h;obtain⟨a,xs,e,_⟩:=h;subst e;rfl
 |dT _ _=>rw[Dn]at h;obtain⟨a,xs,e,_⟩:=h;subst e;rfl
 |obj _ _ _=>rw[Dn]at h;obtain⟨a,dx,xs,e,_⟩:=h;subst e;rfl
theorem Of:S2 Y (λx y H Q=>y=.non/\Q (.bl (decide (x=.non))) H) (Ao false):=by
 intro H x y v u b a;unfold Ao;by_cases e:oA y=true
 · rw[RF e]
   have:decide (u=.non)=true:=by rw[Dn.non a];exact e
   refine⟨_,λ_=>by rw[Dn],λQ q=>⟨Tw this,?_⟩⟩;rw[Dn.non b];simpa using q
 ·rw[RE e];trivial
theorem qy:S1 Y (λv H Q=>∃p ys,[v]=[.ref p]/\(SqL Y.K H p ys\/SqT Y.K H p ys)/\Q (.int ys.length) H) sg:=by
 intro H x v b;cases x with
 |lst ds=>
   rw[Dn]at b;obtain⟨a,xs,rfl,d,c⟩:=b;exact⟨.int ds.length,λ_=>by rw[Dn],λQ q=>⟨a,xs,rfl,.inl (SqL.of d),by rw[<-c.len];exact q⟩⟩
 |scr ds=>
   rw[Dn]at b;obtain⟨a,xs,rfl,d,c⟩:=b;exact⟨.int ds.length,λ_=>by rw[Dn],λQ q=>⟨a,xs,rfl,.inl d.sq,by rw[<-c.len];exact q⟩⟩
 |tup ds=>
   rw[Dn]at b;obtain⟨a,xs,rfl,d,c⟩:=b;exact⟨.int ds.length,λ_=>by rw[Dn],λQ q=>⟨a,xs,rfl,.inr (SqT.of d),by rw[<-c.len];exact q⟩⟩
 |_=>trivial
theorem Ia{t:TE}{m:L4->Res D}(h:PJ Y (KR Y .X) E ms t m):PJ Y KB E ms (λZ H Q=>t Z H λx L=>∃c,x=.bl c/\Q c L) (d8 m):=by
 intro B U As Z H T Q R P;refine h.bnd R P λx v I U1 L O _ a e d M W=>?_;cases x with
 |bl b=>
   have M:Dn Y L (.bl b) v:=M;rw[Dn]at M;exact⟨b,M,W _ I U1 L [] a (Gw.refl _ _ _) New.nil rfl⟩
 |_=>exact W.elim
theorem Ol{t:TE}{m:L4->Res D}(h:PJ Y (KR Y .X) E ms t m):PJ Y KB E ms (tB t) (d8 m):=Ia h
theorem cw{t:TE}{m:L4->Res D}(h:PJ Y (KR Y .X) E ms t m):PJ Y KB E ms (Bf t) (d8 m):=Ia h
theorem Cw{t u:TT}{m n:L4->Res Bool}(h:PJ Y KB E ms t m)(k:PJ Y KB E ms u n):PJ Y KB E ms (NL t u) (Hk m n):=by
 intro B U As Z H T Q R P;refine h.bnd R P λx v I U1 L O _ a c b M W=>?_;cases M;cases x with
 |true=>exact k I U1 As Z L T Q a W
 |false=>exact W _ I U1 L [] a (Gw.refl _ _ _) New.nil rfl
theorem H8{t u:TT}{m n:L4->Res Bool}(h:PJ Y KB E ms t m)(k:PJ Y KB E ms u n):PJ Y KB E ms (tOr t u) (Ie m n):=by
 intro B U As Z H T Q R P;refine h.bnd R P λx v I U1 L O _ a c b M W=>?_;cases M;cases x with
 |false=>exact k I U1 As Z L T Q a W
 |true=>exact W _ I U1 L [] a (Gw.refl _ _ _) New.nil rfl
end
section
variable{Y:Cm}{E:XK}{ms:List Md}{K:F0}
theorem dJ{n:Nat}(h:n<=aj):n<sizeLine:=by
 have:=T9
 unfold aj at h;omega
theorem zr{G:Hp}{ds:List D}{xs:List V}{i:Int}{d:D}(h:Dns Y G ds xs)(e:iK ds i=some d):∃v,iK xs i=some v/\Dn Y G d v:=by
 unfold iK at e ⊢;rw[<-h.len];cases q:kU ds.length i with
 |none=>rw[q]at e;cases e
 |some j=>
   rw[q]at e;exact h.get e
theorem mf{k:Kd}{p tb:TE}{t s:L4->Res D}(C:PJ Y (KC Y k) E ms p t)(A:PJ Y (KR Y .X) E ms tb s):PJ Y (KR Y k) E ms (Bi (Ky Y.K) p tb) (bn Er t s):=by
 intro B U As Z H T Q R P;refine C.bnd R P λx v I U1 L O _ G S N M W=>A.bnd G W λy u o n j V _ R2 z J b g=>?_;have c:=Cn.mono (ik z) z.h M;have b:Dn Y j y u:=b
 have f:∀(ds:List D) (i:Int),Po Y (KR Y k) E ms o n As Z j T (Hg ds i) Q->∀xs,Dns Y (hp k o n j) ds xs->∃w,iK xs i=some w/\Q w j:=λds i P3 xs h=>by
  unfold Hg at P3;cases q:iK ds i with
  |none=>rw[q]at P3;exact P3.elim
  |some d=>
    rw[q]at P3;obtain⟨w,e,F⟩:=zr h q;exact⟨w,e,P3 w o n j [] R2 (Gw.refl _ _ _) New.nil F⟩
 cases x with
 |lst ds=>
   cases y with
   |int i=>
     rw[Dn]at b;obtain⟨a,xs,r,m,l⟩:=c;obtain⟨w,e,q⟩:=f ds i g xs l;exact⟨a,xs,i,w,r,b,SqL.of m,e,q⟩
   |_=>exact g.elim
 |scr ds=>
   cases y with
   |int i=>
     rw[Dn]at b;obtain⟨a,xs,r,m,l⟩:=c;obtain⟨w,e,q⟩:=f ds i g xs l;exact⟨a,xs,i,w,r,b,m.sq,e,q⟩
   |_=>exact g.elim
 |_=>cases y<;>exact g.elim
theorem yn{k:Kd}{g tb:TE}{l j:L4->Res D}(t:PJ Y (KC Y k) E ms g l)(s:PJ Y (KR Y .X) E ms tb j):PJ Y (KR Y k) E ms (Bi (Gk K) g tb) (bn I8 l j):=by
 intro B U As Z H T Q R P;refine t.bnd R P λx v I U1 L O _ F N J M W=>s.bnd F W λy u o n f S _ R2 m G b e=>?_;have c:=Cn.mono (ik m) m.h M;have b:Dn Y f y u:=b;cases x with
 |tup ds=>
   cases y with
   |int i=>
     rw[Dn]at b;obtain⟨a,xs,r,A,z⟩:=c;have P3:Po Y (KR Y k) E ms o n As Z f T (Hg ds i) Q:=e;unfold Hg at P3;cases q:iK ds i with
     |none=>rw[q]at P3;exact P3.elim
     |some d=>
       rw[q]at P3;obtain⟨w,p,C⟩:=zr z q;exact⟨a,xs,i,w,r,b,SqT.of A,p,P3 w o n f [] R2 (Gw.refl _ _ _) New.nil C⟩
   |_=>exact e.elim
 |_=>cases y<;>exact e.elim
theorem aL{k:Kd}:PJ Y (KL Y k) E ms dE a6:=λB U As Z H T Q R P=>P [] B U H [] R (Gw.refl _ _ _) New.nil (show Dns Y _ [] [] by rw[Dns])
theorem ag{k:Kd}{b:TE}{a:TA}{d:L4->Res D}{c:L4->Res (List D)}(f:PJ Y (KR Y k) E ms b d)(e:PJ Y (KL Y k) E ms a c):PJ Y (KL Y k) E ms (bS b a) (ax d c):=by
 intro B U As Z H T Q R P;refine f.bnd R P λx v I U1 L O _ j q p M W=>e.bnd j W λy u n i m r _ R2 g o h l=>?_;refine l (v::u) n i m [] R2 (Gw.refl _ _ _) New.nil ?_;show Dns Y _ (x::y) (v::u);rw[Dns];exact⟨v,u,rfl,Dn.mono (ik g) M,h⟩
variable{B U H:Hp}{As:Nat->List Addr}{Z:St}{T:L4}
theorem Gw.newO(R:Rel Y ms B U As Z H T){p:Addr}{o:HO}(h:H p=none):Gw B U H B U (upd H p o):=⟨Ex.refl _ _,Gd.cz h,λ_ _ q=>.inl q⟩
theorem Gw.newB(R:Rel Y ms B U As Z H T){p:Addr}{o:HO}(h:H p=none):Gw B U H (upd B p o) (upd U p o) (upd H p o):=⟨Ex.newB R h,Gd.cz h,λa u q=>by
 by_cases z:a=p
 ·subst z;exact .inr (.inl h)
 ·rw[aS z]at q;exact .inl q⟩
theorem New.one(R:Rel Y ms B U As Z H T){p:Addr}(h:H p=none):New [p] H U As:=⟨by simp,λa b=>by rw[RV.mp b];exact h,λa b=>by rw[RV.mp b];exact R.uh.free h⟩
theorem dX(R:Rel Y ms B U As Z H T){ds:List D}{xs:List V}{Q:VK}(P:Po Y (KO Y (.ct .fz)) E ms B U As Z H T (.ok (.lst ds)) Q)(h:Dns Y B ds xs){p:Addr}(hp:H p=none):Q (.ref p) (upd H p (.lst xs)):=
 P (.ref p) B U _ [p] (R.new hp) (Gw.newO R hp) (New.one R hp) (by
  show Ow Y B _ (.lst ds) (.ct .fz) (.ref p) [p];rw[Ow]
  exact⟨p,xs,[],rfl,aY,rfl,Ows.of h⟩)
theorem uw(R:Rel Y ms B U As Z H T){ds:List D}{xs:List V}{Q:VK}(P:Po Y (KR Y .F) E ms B U As Z H T (.ok (.tup ds)) Q)(h:Dns Y B ds xs){p:Addr}(hp:H p=none):Q (.ref p) (upd H p (.tup xs)):=
 P (.ref p) _ _ _ [] (R.newB hp) (Gw.newB R hp) New.nil (by
  show Dn Y (upd B p (.tup xs)) (.tup ds) (.ref p);rw[Dn]
  exact⟨p,xs,rfl,aY,h.mono (Gd.cz (R.bh.free hp))⟩)
section
variable{t:TA}{m:L4->Res (List D)}
theorem bP(h:PJ Y (KL Y .F) E ms t m):PJ Y (KO Y (.ct .fz)) E ms (FS t) (gH m):=by
 intro B U As Z H T Q R P;refine h.bnd R P λds xs I U1 L O _ a c b M W=>?_;by_cases z:ds.length<=aj
 ·rw[RF z]at W;have M:Dns Y I ds xs:=M;exact⟨SF (dJ (by rw[<-M.len];exact z)),λp hp=>dX a W M hp⟩
 ·rw[RE z]at W;exact W.elim
theorem eV(h:PJ Y (KL Y .F) E ms t m):PJ Y (KR Y .F) E ms (JE t) (qf m):=by
 intro B U As Z H T Q R P;refine h.bnd R P λds xs I U1 L O _ a c b M W=>?_;by_cases z:ds.length<=aj
 ·rw[RF z]at W;have M:Dns Y I ds xs:=M;exact⟨SF (dJ (by rw[<-M.len];exact z)),λp hp=>uw a W M hp⟩
 ·rw[RE z]at W;exact W.elim
end
theorem kN:PJ Y (KO Y (.ct .fz)) E ms Bk (aM (.dT [] [])):=by
 intro B U As Z H T Q R P p hp;refine P (.ref p) B U _ [p] (R.new hp) (Gw.newO R hp) (New.one R hp) ?_;show Ow Y B _ (.dT [] []) (.ct .fz) (.ref p) [p];rw[Ow];exact⟨p,[],[],rfl,aY,rfl,rfl,Ows.of (by rw[SM,Dns])⟩
theorem Ot:PJ Y (KO Y (.ct .fz)) E ms Bl (aM (.dK [] [])):=by
 intro B U As Z H T Q R P p hp;refine P (.ref p) B U _ [p] (R.new hp) (Gw.newO R hp) (New.one R hp) ?_;show Ow Y B _ (.dK [] []) (.ct .fz) (.ref p) [p];rw[Ow];exact⟨p,[],[],rfl,aY,rfl,rfl,Ows.of (by rw[SM,Dns])⟩
theorem MT{G:Hp}{x y:D}{v u:V}(j:Cn Y G H x v)(i:Cn Y G H y u){C:Res D->Prop}(d:C .bad->False)(P:C (AH x y)){Q:VK}
 (h:∀ds es xs ys,Dns Y G (ds++es) (xs++ys)->C (.ok (.lst (ds++es)))->∀p,H p=none->Q (.ref p) (upd H p (.lst (xs++ys)))):Kz v u H Q:=by
 cases x with
 |lst ds=>
   cases y with
   |lst es=>
     obtain⟨a,xs,r,l,f⟩:=j;obtain⟨b,ys,g,k,e⟩:=i;have c:C (if ds.length+es.length<=aj then .ok (.lst (ds++es)) else .bad):=P;by_cases z:ds.length+es.length<=aj
     ·rw[RF z]at c;exact⟨a,b,xs,ys,r,g,l,k,SF (dJ (by rw[<-f.len,<-e.len];exact z)),h ds es xs ys (f.append e) c⟩
     ·rw[RE z]at c;exact(d c).elim
   |_=>exact(d P).elim
 |_=>cases y<;>exact(d P).elim
theorem CO{a tb:TE}{d c:L4->Res D}(i:PJ Y (KC Y .F) E ms a d)(g:PJ Y (KC Y .F) E ms tb c):PJ Y (KO Y (.ct .fz)) E ms (Bi Kz a tb) (bn AH d c):=by
 intro B U As Z H T Q R P;refine i.bnd R P λx v I U1 L O _ l s q M W=>g.bnd l W λy u f k n t _ R2 e o j m=>?_;exact MT (G:=f) (Cn.mono e.b e.h M) j (C:=λr=>Po Y (KO Y (.ct .fz)) E ms f k As Z n T r Q) (λh=>h) m λds es xs ys h P3 p hp=>dX R2 P3 h hp
theorem Ak{G:Hp}{x:D}{v:V}(d:Cn Y G H x v){C:Res D->Prop}(e:C .bad->False)(P:C (gD x)){Q:VK}
 (h:∀ds xs,Dns Y G ds xs->C (.ok (.lst ds))->∀p,H p=none->Q (.ref p) (upd H p (.lst xs))):∃p ys,[v]=[.ref p]/\(SqL Y.K H p ys\/SqT Y.K H p ys)/\∀l,H l=none->Q (.ref l) (upd H l (.lst ys)):=by
 cases x with
 |lst ds=>
   obtain⟨a,xs,r,c,b⟩:=d;exact⟨a,xs,by rw[r],.inl (SqL.of c),h ds xs b P⟩
 |scr ds=>
   obtain⟨a,xs,r,c,b⟩:=d;exact⟨a,xs,by rw[r],.inl c.sq,h ds xs b P⟩
 |tup ds=>
   obtain⟨a,xs,r,c,b⟩:=d;exact⟨a,xs,by rw[r],.inr (SqT.of c),h ds xs b P⟩
 |_=>exact(e P).elim
theorem lR{a:TE}{b:L4->Res D}(c:PJ Y (KC Y .F) E ms a b):
 PJ Y (KO Y (.ct .fz)) E ms (FG (λxs H Q=>∃p ys,xs=[.ref p]/\(SqL Y.K H p ys\/SqT Y.K H p ys)/\∀l,H l=none->Q (.ref l) (upd H l (.lst ys))) (bS a dE)) (un gD b):=by
 intro B U As Z H T Q R P;refine c.bnd R P λx v I U1 L O _ d f e M W=>?_;exact Ak (G:=I) M (C:=λr=>Po Y (KO Y (.ct .fz)) E ms I U1 As Z L T r Q) (λh=>h) W λds xs h P3 p hp=>dX d P3 h hp
def A0:D->Res D | .lst xs=>.ok (.tup xs)|_=>.bad
theorem rW{b:TE}{c:L4->Res D}(d:PJ Y (KC Y .F) E ms b c):
 PJ Y (KR Y .F) E ms (FG (λxs H Q=>∃p ys,xs=[.ref p]/\((SqL K H p ys/\∀l,H l=none->Q (.ref l) (upd H l (.tup ys)))\/(SqT K H p ys/\Q (.ref p) H))) (bS b dE)) (un A0 c):=by
 intro B U As Z H T Q R P;refine d.bnd R P λx v I U1 L O _ g i h M W=>?_;cases x with
 |lst ds=>
   obtain⟨a,xs,r,f,e⟩:=M;exact⟨a,xs,by rw[r],.inl ⟨SqL.of f,λp hp=>uw g W e hp⟩⟩
 |_=>exact W.elim
theorem jV{G:Hp}:∀{ds:List D} {xs:List V} {k:List bJ},fq ds=some k->Dns Y G ds xs->xs=k.map kV
 |[],_,_,e,h=>by rw[Dns]at h;cases e;rw[h];rfl
 | d::ds,_,k,e,h=>by
   rw[Dns]at h;obtain⟨x,r,rfl,a,c⟩:=h;unfold fq at e;cases q:mB d with
   |none=>rw[q]at e;cases e
   |some k0=>
     cases b:fq ds with
     |none=>rw[q,b]at e;cases e
     |some ks=>
       rw[q,b]at e;cases e;rw[jV b c,RJ];congr 1;cases d with
       |int i=>cases q;rw[Dn]at a;exact a
       |str x=>cases q;rw[Dn]at a;exact a
       |_=>cases q
theorem uM{G:Hp}{d:D}{v:V}{k:bJ}(e:mB d=some k)(h:Dn Y G d v):v=kV k:=by
 cases d with
 |int i=>cases e;rw[Dn]at h;exact h
 |str x=>cases e;rw[Dn]at h;exact h
 |_=>cases e
def OI(Y:Cm)(G:Hp):Option D->Option V->Prop
 |some d,r=>∃v,r=some v/\Dn Y G d v
 |none,r=>r=none
section
variable{X:Type}[DecidableEq X]
theorem om{G:Hp}:∀{a:List (X×V)} {ds:List D} (j:X),Dns Y G ds (a.map (·.2))->OI Y G (cP (a.map (·.1)) ds j) (jL a j)
 | [],ds,j,h=>by
   cases ds with
   |nil=>exact AX
   |cons d ds=>rw[Dns]at h;obtain⟨x,r,e,_⟩:=h;cases e
 | p::a,ds,j,h=>by
   cases ds with
   |nil=>rw[Dns]at h;cases h
   |cons d ds=>
     rw[List.map_cons,Dns]at h;obtain⟨x,r,e,c,b⟩:=h;cases e;rw[List.map_cons];unfold cP;by_cases q:p.1=j
     ·rw[RF q];exact⟨p.2,ky q,c⟩
     ·rw[RE q,kA q];exact om j b
end
theorem nw{G:Hp}{d k:D}{v u:V}{o:Option D}(hd:Cn Y G H d v)(h:Dn Y H k u)(e:kW d k=some o):∃a r,v=.ref a/\QK H a/\DGet H a u r/\OI Y G o r:=by
 cases d with
 |dT ks vs=>
   obtain⟨a,c,rfl,g,j,i⟩:=hd;cases k with
   |tup p=>
     have e:(fq p).map (λk=>cP ks vs k)=some o:=e;obtain⟨f,n,m⟩:=Sd.mp e;rw[Dn]at h;obtain⟨b,xs,rfl,s,q⟩:=h;have ex:=jV n q;subst ex;refine⟨a,jL c f,rfl,.inr ⟨c,g⟩,.inr ⟨c,_,_,g,rfl,s,rfl⟩,?_⟩;have l:=om (X:=List bJ) f i;rw[j,m]at l;exact l
   |_=>cases e
 |dK ks vs=>
   obtain⟨a,c,rfl,g,j,i⟩:=hd;have e:(mB k).map (λk=>cP ks vs k)=some o:=by cases k<;>exact e
   obtain⟨f,n,m⟩:=Sd.mp e;have ex:=uM n h;subst ex;refine⟨a,jL c f,rfl,.inl ⟨c,.inl g⟩,DGet.k g,?_⟩;have l:=om (X:=bJ) f i;rw[j,m]at l;exact l
 |_=>cases k<;>cases e
theorem wx{k:Kd}{e c:TE}{f mk:L4->Res D}(hd:PJ Y (KC Y k) E ms e f)(j:PJ Y (KR Y .X) E ms c mk):PJ Y (KR Y k) E ms (HE e c) (bn mI f mk):=by
 intro B U As Z H T Q R P;refine hd.bnd R P λx v I U1 L O _ t G F M W=>j.bnd t W λy u A s z J _ R2 i C p b=>?_;unfold mI at b;cases q:kW x y with
 |none=>rw[q]at b;exact b.elim
 |some o=>
   obtain⟨a,r,m,_,g,l⟩:=nw (Cn.mono (ik i) i.h M) p q;cases o with
   |none=>rw[q]at b;exact b.elim
   |some d=>
     rw[q]at b;obtain⟨w,rfl,n⟩:=l;exact⟨a,w,m,g,b w A s z [] R2 (Gw.refl _ _ _) New.nil n⟩
theorem CL{k:Kd}{e c:TE}{f mk:L4->Res D}(i:PJ Y (KR Y .X) E ms c mk)(hd:PJ Y (KC Y k) E ms e f):PJ Y (KR Y .F) E ms (NI c e) (bn (u0 false) mk f):=by
 intro B U As Z H T Q R P;refine i.bnd R P λy u I U1 L O _ s G C M W=>hd.bnd s W λx v z p t J _ R2 m A n b=>?_;unfold u0 at b;cases q:kW x y with
 |none=>rw[q]at b;exact b.elim
 |some o=>
   rw[q]at b;obtain⟨a,r,j,_,g,l⟩:=nw n (Dn.mono m.h M) q;refine⟨a,r,j,g,b _ z p t [] R2 (Gw.refl _ _ _) New.nil ?_⟩;show Dn Y _ (.bl (false.xor o.isSome)) _;rw[Dn];cases o with
   |none=>rw[show r=none from l];rfl
   |some d=>obtain⟨w,rfl,_⟩:=l;rfl
def uO:D->Bool | .dT _ _=>true | .dK _ _=>true|_=>false
theorem Cn.dic{G:Hp}{d:D}{v:V}(h:Cn Y G H d v)(e:uO d=true):∃a,v=.ref a/\QK H a:=by
 cases d with
 |dT ks vs=>obtain⟨a,b,r,c,_⟩:=h;exact⟨a,r,.inr ⟨b,c⟩⟩
 |dK ks vs=>obtain⟨a,b,r,c,_⟩:=h;exact⟨a,r,.inl ⟨b,.inl c⟩⟩
 |_=>cases e
def EF(b mk a:L4->Res D):L4->Res D:=λT=>(b T).bind λd=>if uO d=true then (mk T).bind λk=>(a T).bind λx=>gE d k x else .bad
theorem Gs{k:Kd}{j i f:TE}{n mk m:L4->Res D}(hd:PJ Y (KC Y k) E ms j n)(N:PJ Y (KR Y .X) E ms i mk)(K:PJ Y (KR Y k) E ms f m):PJ Y (KR Y k) E ms (Bm j i f) (EF n mk m):=by
 intro B U As Z H T Q R P;refine hd.bnd R P λx v I U1 L O _ R1 e1 n1 M W=>?_;by_cases z:uO x=true
 · rw[if_pos z]at W;obtain⟨a,p,S⟩:=Cn.dic M z;refine⟨a,p,S,N.bnd R1 W λy u B2 U2 H2 N2 _ R2 s n2 d2 P2=>K.bnd R2 P2 λw G F t C N3 _ A e n3 d3 P3=>?_⟩;unfold gE at P3;have c:=Cn.mono (ik (s.trans e)) (s.trans e).h M;cases q:kW x y with
   |none=>rw[q]at P3;exact P3.elim
   |some o=>
     rw[q]at P3;obtain⟨a',r,b,_,g,l⟩:=nw c (Dn.mono e.h d2) q;rw[p]at b;cases b;cases o with
     |none=>
       refine⟨r,g,?_⟩;rw[show r=none from l];exact P3 G F t C [] A (Gw.refl _ _ _) New.nil d3
     |some d=>
       obtain⟨J,rfl,V⟩:=l;exact⟨_,g,P3 J F t C [] A (Gw.refl _ _ _) New.nil V⟩
 ·rw[RE z]at W;exact W.elim
def qU(a mk:L4->Res D):L4->Res D:=λT=>(a T).bind λd=>if uO d=true then (mk T).bind λk=>gE d k .non else .bad
theorem rY{k:Kd}{f e:TE}{i mk:L4->Res D}(hd:PJ Y (KC Y k) E ms f i)(w:PJ Y (KR Y .X) E ms e mk):PJ Y (KR Y k) E ms (Bn f e) (qU i mk):=by
 intro B U As Z H T Q R P;refine hd.bnd R P λx v I U1 L O _ G N K M W=>?_;by_cases z:uO x=true
 · rw[if_pos z]at W;obtain⟨a,j,A⟩:=Cn.dic M z;refine⟨a,j,A,w.bnd G W λy u s n p V _ R2 m J F P3=>?_⟩;unfold gE at P3;have c:=Cn.mono (ik m) m.h M;cases q:kW x y with
   |none=>rw[q]at P3;exact P3.elim
   |some o=>
     rw[q]at P3;obtain⟨S,r,b,_,g,l⟩:=nw c F q;rw[j]at b;cases b;cases o with
     |none=>
       refine⟨r,g,?_⟩;rw[show r=none from l];exact P3 .non s n p [] R2 (Gw.refl _ _ _) New.nil (show Dn Y _ .non .non by rw[Dn])
     |some d=>
       obtain⟨t,rfl,C⟩:=l;exact⟨_,g,P3 t s n p [] R2 (Gw.refl _ _ _) New.nil C⟩
 ·rw[RE z]at W;exact W.elim
end
section
variable{Y:Cm}{E:XK}{ms:List Md}{K:F0}{B U H:Hp}{As:Nat->List Addr}{Z:St}{T:L4}
theorem uH{G:Hp}:∀{fs:List (Str×V)} {ds:List D} {f:Str} {d:D},Dns Y G ds (fs.map (·.2))->cP (fs.map (·.1)) ds f=some d->∃v,fs.lookup f=some v/\Dn Y G d v
 |[],ds,f,d,h,e=>by cases ds<;>cases e
 | p::fs,ds,f,d,h,e=>by
   cases ds with
   |nil=>cases e
   |cons j ds=>
     rw[List.map_cons,Dns]at h;obtain⟨x,r,g,c,b⟩:=h;cases g;rw[List.map_cons]at e;unfold cP at e;by_cases q:p.1=f
     ·rw[RF q]at e;cases e;exact⟨p.2,by rw[Sx,<-q,SW],c⟩
     · rw[RE q]at e;obtain⟨v,a,i⟩:=uH b e
       have:(f==p.1)=false:=Sr.mpr λz=>q z.symm
       exact⟨v,by rw[Sx,this];exact a,i⟩
theorem Owf.get{B H:Hp}{sh:List (Str×Sh)}:∀{fs:List (Str×V)} {ds:List D} {A:List Addr} {f:Str} {d:D},Owf Y B H ds (fs.map (·.1)) sh (fs.map (·.2)) A->cP (fs.map (·.1)) ds f=some d->
 ∃v A1,fs.lookup f=some v/\Ow Y B H d ((sh.lookup f).getD .fz) v A1/\∀a∈A1,a∈A
 |[],ds,A,f,d,h,e=>by cases ds<;>cases e
 | p::fs,ds,A,f,d,h,e=>by
   cases ds with
   |nil=>cases e
   |cons t ds=>
     rw[List.map_cons,List.map_cons,Owf]at h;obtain⟨n,i,x,r,A1,u,k,h0,o,c,m⟩:=h;cases k;cases h0;subst o;rw[List.map_cons]at e;unfold cP at e;by_cases q:p.1=f
     ·rw[RF q]at e;cases e;rw[q]at c;exact⟨p.2,A1,by rw[Sx,<-q,SW],c,λa b=>RX _ b⟩
     · rw[RE q]at e;obtain⟨v,s,j,g,l⟩:=Owf.get m e
       have:(f==p.1)=false:=Sr.mpr λz=>q z.symm
       exact⟨v,s,by rw[Sx,this];exact j,g,λa b=>RN _ (l a b)⟩
theorem yJ{c:Nat}{f:Str}{x d:D}(h:cy c f x=.ok d):∃ns vs,x=.obj c ns vs/\cP ns vs f=some d:=by
 cases x with
 |obj a ns vs=>
   unfold cy at h;dsimp only at h;by_cases e:a=c
   · rw[RF e]at h;subst e;cases q:cP ns vs f with
     |none=>rw[q]at h;cases h
     |some y=>rw[q]at h;cases h;exact⟨ns,vs,rfl,q⟩
   ·rw[RE e]at h;cases h
 |_=>cases h
theorem uV{c:Nat}{f:Str}{x:D}{e:Nat}(h:cy c f x=.exc e):False:=by
 cases x with
 |obj a ns vs=>
   have h:(if a=c then (match cP ns vs f with|some x=>Res.ok x|none=>.bad) else .bad)=.exc e:=h;by_cases e:a=c
   ·rw[RF e]at h;cases q:cP ns vs f<;>(rw[q]at h;cases h)
   ·rw[RE e]at h;cases h
 |_=>cases h
theorem dG{k:Kd}{c:Nat}{f:Str}{b:TE}{g:L4->Res D}(j:Cls K (Y c))(i:NoAttr K (Y c) f)(m:PJ Y (KC Y k) E ms b g):PJ Y (KR Y k) E ms (zH K b f) (un (cy c f) g):=by
 intro B U As Z H T Q R P;refine m.bnd R P λx v I U1 L O _ s u t M W=>?_;cases e:cy c f x with
 |ok d=>
   rw[e]at W;obtain⟨ns,vs,rfl,l⟩:=yJ e;obtain⟨a,dx,fs,r,p,o,n⟩:=M;subst o;obtain⟨w,h,q⟩:=uH n l;exact⟨a,_,dx,fs,w,r,p,j,i,h,W w I U1 L [] s (Gw.refl _ _ _) New.nil q⟩
 |exc y=>exact(uV e).elim
 |bad=>rw[e]at W;exact W.elim
theorem K0{g:KT D V}{c:Nat}{f:Str}{i:Nat}{sh:List (Str×Sh)}(s:Cls K (Y c))(n:NoAttr K (Y c) f)(o:ms.getD i .F= .O (.ob sh))
 (p:∀B U H d v A,Same B U->Same U H->Ow Y B H d ((sh.lookup f).getD .fz) v A->g d v B U H []):PJ Y g E ms (zH K (eT i) f) (un (cy c f) (vr i)):=by
 intro B U As Z H T Q R P;have l:=R.lo i;rw[o]at l;unfold un vr at P;cases e:rg T i with
 |none=>rw[e]at P;exact P.elim
 |some h=>
   rw[e]at P l;obtain⟨v,m,q⟩:=l;replace P:Po Y g E ms B U As Z H T (cy c f h) Q:=P;refine⟨v,fj m,?_⟩;cases b:cy c f h with
   |ok d=>
     rw[b]at P;obtain⟨ns,vs,rfl,l⟩:=yJ b;have q:Ow Y B H (.obj c ns vs) (.ob sh) v (As i):=q;rw[Ow]at q;obtain⟨a,dx,fs,C,r,x,u,y,t⟩:=q;subst u;obtain⟨w,A1,k,j,_⟩:=Owf.get t l;exact⟨a,_,dx,fs,w,r,x,s,n,k,P w B U H [] R (Gw.refl _ _ _) New.nil (p B U H d w A1 R.bu R.uh j)⟩
   |exc z=>exact(uV b).elim
   |bad=>rw[b]at P;exact P.elim
theorem wv{c:Nat}{f:Str}{i:Nat}{sh:List (Str×Sh)}(j:Cls K (Y c))(e:NoAttr K (Y c) f)(g:ms.getD i .F= .O (.ob sh))(h:(sh.lookup f).getD .fz=.ct .fz):PJ Y (KC Y .F) E ms (zH K (eT i) f) (un (cy c f) (vr i)):=
 K0 j e g λB U H d v A b u a=>by
  rw[h]at a;exact Ow.cn (b.trans u) a
def Hu(J:It)(H:Hp)(vs:List V):Prop:=∀a,Same H a->(∀i,vs.length<=i->J.stop i a)/\(∀i,i<vs.length->J.go i a)/\∀i x H',i<vs.length->J.yld i a x H'->H'=a/\vs[i]?=some x
def KI(Y:Cm)(k g:Kd):KT (List D) It:=λds J B U H _=>∃vs,Hu J (hp g B U H) vs/\Dns Y (hp k B U H) ds vs
theorem jn{a:Addr}{xs:List V}(h:H a=some (.lst xs)\/SqF K H a xs):Hu (RA K a) H xs:=λb s=>by
 have q:SqL K b a xs:=by
  rcases h with h|h
  ·exact .inl (.inl (s _ _ h))
  ·exact(h.mono s).sq
 exact⟨λi hi=>⟨xs,q,hi⟩,λi hi=>⟨xs,xs[i],q,R7 hi⟩,λi x H' hi y=>⟨y.1,y.2 xs q⟩⟩
theorem uN(lo:Int)(n:Nat):Hu (QJ lo n) H ((List.range n).map λi:Nat=>V.int (lo+i)):=λb s=>by
 have a:((List.range n).map λi:Nat=>V.int (lo+i)).length=n:=by rw[RH,T1]
 refine⟨λi hi=>by rw[a]at hi;exact hi,λi hi=>by rw[a]at hi;exact hi,λi x H' hi y=>⟨y.1,?_⟩⟩;rw[a]at hi;rw[Sl,Ui hi,y.2];rfl
theorem sI{G:Hp}(lo:Int):∀n:Nat,Dns Y G ((List.range n).map λi:Nat=>D.int (lo+i)) ((List.range n).map λi:Nat=>V.int (lo+i))
 |0=>by rw[List.range_zero,SM,SM,Dns]
 | n+1=>by
   rw[List.range_succ,Sm,Sm];exact(sI lo n).append (Dns.one (by rw[Dn]))
theorem Ey{k:Kd}{d:TE}{e:L4->Res D}(g:PJ Y (KC Y k) E ms d e):PJ Y (KI Y k .X) E ms (qR Y.K d) (kH e):=by
 intro B U As Z H T Q R P;refine g.bnd R P λx v I U1 L O _ f i h M W=>?_;cases x with
 |lst ds=>
   obtain⟨a,xs,r,b,c⟩:=M;exact⟨a,r,⟨xs,SqL.of b⟩,W _ I U1 L [] f (Gw.refl _ _ _) New.nil ⟨xs,jn (.inl b),c⟩⟩
 |scr ds=>
   obtain⟨a,xs,r,b,c⟩:=M;exact⟨a,r,⟨xs,b.sq⟩,W _ I U1 L [] f (Gw.refl _ _ _) New.nil ⟨xs,jn (.inr b),c⟩⟩
 |_=>exact W.elim
theorem ss{k:Kd}{e:TE}{f:L4->Res D}(g:PJ Y (KR Y k) E ms e f):PJ Y (KI Y k k) E ms (qR Y.K e) (kH f):=by
 intro B U As Z H T Q R P;refine g.bnd R P λx v I U1 L O _ c i h M W=>?_;have M:Dn Y (hp k I U1 L) x v:=M;cases x with
 |lst ds=>
   rw[Dn]at M;obtain⟨a,xs,r,b,d⟩:=M;exact⟨a,r,⟨xs,SqL.of (c.hp k _ _ b)⟩,W _ I U1 L [] c (Gw.refl _ _ _) New.nil ⟨xs,jn (.inl b),d⟩⟩
 |scr ds=>
   rw[Dn]at M;obtain⟨a,xs,r,b,d⟩:=M;exact⟨a,r,⟨xs,(b.mono (c.hp k)).sq⟩,W _ I U1 L [] c (Gw.refl _ _ _) New.nil ⟨xs,jn (.inr b),d⟩⟩
 |_=>exact W.elim
theorem Pu{g:Kd}{d tb:TE}{f e:L4->Res D}(m:PJ Y (KR Y .X) E ms d f)(l:PJ Y (KR Y .X) E ms tb e):PJ Y (KI Y .F g) E ms (Ja (bS d (bS tb dE))) (zJ f e):=by
 intro B U As Z H T Q R P;refine m.bnd R P λx v I U1 L O _ n r p M W=>l.bnd n W λy u k h c s _ R2 q o b a=>?_;have M:Dn Y L x v:=M;have b:Dn Y c y u:=b;cases x with
 |int i=>
   cases y with
   |int j=>
     rw[Dn]at M;rw[Dn]at b;subst M b;have a:Po Y (KI Y .F g) E ms k h As Z c T (if -(2 ^ 62)<=i/\i<2 ^ 62/\-(2 ^ 62)<=j/\j<2 ^ 62 then .ok (rng i j) else .bad) Q:=a;by_cases z:-(2 ^ 62)<=i/\i<2 ^ 62/\-(2 ^ 62)<=j/\j<2 ^ 62
     ·rw[RF z]at a;exact⟨i,j,rfl,z,a _ k h c [] R2 (Gw.refl _ _ _) New.nil ⟨_,uN i _,sI i _⟩⟩
     ·rw[RE z]at a;exact a.elim
   |_=>exact a.elim
 |_=>cases y<;>exact a.elim
theorem sr{g:Kd}{tb:TE}{c:L4->Res D}(k:PJ Y (KR Y .X) E ms tb c):PJ Y (KI Y .F g) E ms (Jb (bS tb dE)) (fA c):=by
 intro B U As Z H T Q R P
 have P:Po Y (KI Y .F g) E ms B U As Z H T ((c T).bind λy=>match D.int 0,y with
  |.int i,.int j=>if -(2 ^ 62)<=i/\i<2 ^ 62/\-(2 ^ 62)<=j/\j<2 ^ 62 then .ok (rng i j) else .bad
  |_,_=>.bad) Q:=P
 refine k.bnd R P λy u h f d n _ R2 m l b a=>?_;have b:Dn Y d y u:=b;cases y with
 |int j=>
   rw[Dn]at b;subst b;have a:Po Y (KI Y .F g) E ms h f As Z d T (if -(2 ^ 62)<=(0:Int)/\(0:Int)<2 ^ 62/\-(2 ^ 62)<=j/\j<2 ^ 62 then .ok (rng 0 j) else .bad) Q:=a;by_cases z:-(2 ^ 62)<=(0:Int)/\(0:Int)<2 ^ 62/\-(2 ^ 62)<=j/\j<2 ^ 62
   · rw[RF z]at a;refine⟨j,rfl,z.2.2.1,z.2.2.2,a _ h f d [] R2 (Gw.refl _ _ _) New.nil ?_⟩;have e:(j-0).toNat=j.toNat:=by rw[Int.sub_zero]
     unfold rng;rw[e];exact⟨_,uN 0 _,sI 0 _⟩
   ·rw[RE z]at a;exact a.elim
 |_=>exact a.elim
theorem xV{W:Type}{l:List (Option W)}{x:Option W}{i:Nat}:rg (x::l) (i+1)=rg l i:=by unfold rg;rw[List.getElem?_cons_succ]
theorem xU{W:Type}{l:List (Option W)}{x:Option W}:rg (x::l) 0=x:=by unfold rg;rw[List.getElem?_cons_zero];rfl
theorem BQ{W:Type}{l:List (Option W)}{ix:List Nat}{j:Nat}:rg (ix.map λi=>rg l i) j=match ix[j]? with|some i=>rg l i|none=>none:=by
 unfold rg;rw[List.getElem?_map];cases ix[j]?<;>rfl
theorem ur:∀{l:List Nat} {i j:Nat},l.Nodup->(a:i<l.length)->(b:j<l.length)->l[i]=l[j]->i=j
 |[],_,_,_,a,_,_=>by simp at a
 |x::l,0,0,_,_,_,_=>rfl
 | x::l,0,j+1,nd,a,b,e=>by
   have c:j<l.length:=by simpa using b
   exact absurd (show x∈l from by rw[show x=l[j] from e];exact T6 c) (RZ.mp nd).1
 | x::l,i+1,0,nd,a,b,e=>by
   have c:i<l.length:=by simpa using a
   exact absurd (show x∈l from by rw[show x=l[i] from e.symm];exact T6 c) (RZ.mp nd).1
 | x::l,i+1,j+1,nd,a,b,e=>by
   rw[ur (RZ.mp nd).2 (by simpa using a) (by simpa using b) e]
def Rr(As:Nat->List Addr)(ix:List Nat):Nat->List Addr
 |0=>[]
 |j+1=>match ix[j]? with|some i=>As i|none=>[]
def n5(m:Md)(ms:List Md)(ix:List Nat):List Md:=m::ix.map λi=>ms.getD i .F
theorem Rel.inner(R:Rel Y ms B U As Z H T){ix:List Nat}(h:ix.Nodup){m:Md}{d:D}{v:V}(hd:Lo Y B U H m (some d) (some v) []):
 Rel Y (n5 m ms ix) B U (Rr As ix) (some v::iP Z ix) H (some d::d6 T ix) where
 bu:=R.bu
 uh:=R.uh
 nd:=λi=>by
  cases i with
  |zero=>exact Sy
  |succ j=>
    show(match ix[j]? with|some i=>As i|none=>[]).Nodup;cases ix[j]? with
    |none=>exact Sy
    |some i=>exact R.nd i
 dj:=λi j a g b c=>by
  cases i with
  |zero=>cases b
  |succ i=>
    cases j with
    |zero=>cases c
    |succ j=>
      have b:a∈(match ix[i]? with|some i=>As i|none=>[]):=b;have c:a∈(match ix[j]? with|some i=>As i|none=>[]):=c;cases f:ix[i]? with
      |none=>rw[f]at b;cases b
      |some x=>
        cases k:ix[j]? with
        |none=>rw[k]at c;cases c
        |some y=>
          rw[f]at b;rw[k]at c;by_cases e:x=y
          · subst e;obtain⟨p,n⟩:=R5.mp f;obtain⟨o,l⟩:=R5.mp k
            have:=ur h p o (n.trans l.symm)
            exact g (by rw[this])
          ·exact R.dj x y a e b c
 tb:=R.tb
 un:=λi a b=>by
  cases i with
  |zero=>cases b
  |succ i=>
    have b:a∈(match ix[i]? with|some i=>As i|none=>[]):=b;cases f:ix[i]? with
    |none=>rw[f]at b;cases b
    |some x=>rw[f]at b;exact R.un x a b
 lo:=λi=>by
  cases i with
  |zero=>
    rw[xU,xU];exact hd
  |succ j=>
    rw[xV,xV];unfold iP d6;have n:rg (ix.map λj=>rg T j) j=match ix[j]? with|some i=>rg T i|none=>none:=BQ
    have l:rg (ix.map λj=>(Z[j]?).join) j=match ix[j]? with|some i=>rg Z i|none=>none:=BQ
    rw[n,l];show Lo Y B U H ((m::ix.map λi=>ms.getD i .F).getD (j+1) .F) _ _ (match ix[j]? with|some i=>As i|none=>[]);rw[TN,Sa,Sl];cases ix[j]? with
    |none=>exact rfl
    |some i=>exact R.lo i
 len:=by
  rw[RL,RL,iP,d6,RH,RH]
theorem Rel.poke(R:Rel Y ms B U As Z H T){p:Addr}{o:HO}(b:U p=none)(c:∀i,p∉As i):Rel Y ms B U As Z (upd H p o) T:=
 ⟨R.bu,λa u q=>by rw[aS (bf q b)];exact R.uh a u q,R.nd,R.dj,R.un,λi=>(R.lo i).mono (Same.refl _) (Same.refl _) λa h=>aS (λz:a=p=>c i (z▸h)),R.len,R.tb⟩
theorem jr{W:Type}{l:List W}{i:Nat}{x:W}(h:l[i]?=some x):l.drop i=x::l.drop (i+1):=by
 obtain⟨b,a⟩:=R5.mp h;rw[List.drop_eq_getElem_cons b,a]
theorem Hc{k k':Kd}{m0:Md}{X:KT D V}{ix:List Nat}{ti:TT}{te:TE}{S:L4->Res Bool}{A:L4->Res D}(hix:ix.Nodup)(h0:∀B U H d v,Same B U->Same U H->Dn Y (hp k B U H) d v->Lo Y B U H m0 (some d) (some v) [])
 (hti:PJ Y KB E0 (n5 m0 ms ix) ti S) (hte:PJ Y (KR Y k') E0 (n5 m0 ms ix) te A)
 (fin:∀B U As Z H T I U1 L Q l ys p,Rel Y ms I U1 As Z L T->Gw B U H I U1 L->H p=none->U1 p=none->(∀i,p∉As i)->L p=some (.lst ys)->Dns Y (hp k' I U1 L) l ys->Po Y X E ms B U As Z H T (.ok (.lst l)) Q->Q (.ref p) L)
 (hk':k'= .F\/k'= .U) {As:Nat->List Addr} {Z:St} {T:L4} {Q:VK} {ds:List D} {J:It} {I U1 L:Hp} {vs:List V} (R1:Rel Y ms I U1 As Z L T) (hJ:Hu J L vs) (hd:Dns Y (hp k I U1 L) ds vs)
 (W:Po Y X E ms I U1 As Z L T (if ds.length<aj then (bL S A (d6 T ix) ds).bind λr=>.ok (.lst r) else .bad) Q) (p:Addr) (hp:L p=none):Fz J (λv=>some v::iP Z ix) ti te p L Q:=by
 by_cases z:ds.length<aj
 · rw[RF z]at W;have hvl:ds.length=vs.length:=hd.len;have hpA:∀i,p∉As i:=λi=>R1.fresh hp i
   have G:∀{s f M B3 P H3:Hp},Gw s f M B3 P H3->Same (Mi.hp k' s f (λ_=>none)) (Mi.hp k' B3 P (λ_=>none)):=λg=>by
    rcases hk' with e|e<;>subst e
    ·exact g.b
    ·exact g.u
   have hpe:∀{s f M:Hp},Mi.hp k' s f M=Mi.hp k' s f (λ_=>none):=λ{s f M}=>by rcases hk' with e|e<;>subst e<;>rfl
   refine⟨λi m ys M=>i<=ds.length/\m=ds.length-i/\M p=some (.lst ys)/\ys.length<=i/\∃s f l,Rel Y ms s f As Z M T/\Gw I U1 L s f M/\f p=none/\Dns Y (Mi.hp k' s f (λ_=>none)) l ys/\
    Po Y X E ms I U1 As Z L T ((bL S A (d6 T ix) (ds.drop i)).bind λr=>.ok (.lst (l++r))) Q,⟨ds.length,SR _,rfl,aY,RU _,I,U1,[],R1.new hp,Gw.newO R1 hp,R1.uh.free hp,by rw[Dns],W⟩,?_⟩
   rintro i m ys M ⟨hi,rfl,hy,hle,s,f,l,R2,g2,u2,dz,t⟩;have C:=hJ M g2.h;refine⟨hy,SN hle (dJ (SF (SN hi z))),?_⟩;by_cases hlt:i<ds.length
   · refine .inr ⟨C.2.1 i (by omega),λv H3 hyl=>?_⟩;obtain⟨rfl,ev⟩:=C.2.2 i v H3 (by omega) hyl;obtain⟨d,ed,dd⟩:=hd.geti ev;rw[jr ed,bL]at t;have RI:=R2.inner hix (h0 s f H3 d v R2.bu R2.uh (Dn.mono (ik g2) dd));refine hti s f _ _ H3 _ _ RI ?_;cases eb:S (some d::d6 T ix) with
     |ok c=>
       rw[eb]at t;intro b B3 P H4 N3 K n n3 hb;cases hb
       have up3:P p=none:=by
        cases q:P p with
        |none=>rfl
        |some o=>
          rcases n.fr p o q with z|z|⟨xs,z⟩
          ·rw[u2]at z;cases z
          ·rw[hy]at z;cases z
          ·subst z;have:=K.uh p _ q;rw[n.h _ _ hy]at this;cases this
       have R3:Rel Y ms B3 P As Z H4 T:=R2.grow n.b n.u n.h K.bu K.uh λj a N=>by
        cases q:P a with
        |none=>rfl
        |some o=>
          rcases n.fr a o q with z|z|z
          ·rw[R2.un j a N]at z;cases z
          ·obtain⟨o',w⟩:=R2.at N;rw[z]at w;cases w
          ·obtain⟨o',w⟩:=R2.at N;have e1:=n.h _ _ w;rw[K.uh a _ q]at e1;cases e1;exact(R2.nt N w z).elim
       cases c with
       |false=>
         rw[RE RQ];exact⟨ds.length-(i+1),by omega,hlt,rfl,n.h _ _ hy,by omega,B3,P,l,R3,g2.trans n,up3,dz.mono (G n),t⟩
       |true=>
         rw[RF rfl];refine hte B3 P _ _ H4 _ _ K ?_;cases ee:A (some d::d6 T ix) with
         |ok x=>
           have P3:Po Y X E ms I U1 As Z L T (((A (some d::d6 T ix)).calm.bind λx=>(bL S A (d6 T ix) (ds.drop (i+1))).bind λxs=>.ok (x::xs)).bind λr=>.ok (.lst (l++r))) Q:=t;rw[ee]at P3;intro y B4 U4 H5 N4 R O n4 hx;have y5:H5 p=some (.lst ys):=O.h _ _ (n.h _ _ hy)
           have up4:U4 p=none:=by
            cases q:U4 p with
            |none=>rfl
            |some o=>
              rcases O.fr p o q with z|z|⟨xs,z⟩
              ·rw[up3]at z;cases z
              ·rw[n.h _ _ hy]at z;cases z
              ·subst z;have:=R.uh p _ q;rw[y5]at this;cases this
           have R4:Rel Y ms B4 U4 As Z H5 T:=R3.grow O.b O.u O.h R.bu R.uh λj a N=>by
            cases q:U4 a with
            |none=>rfl
            |some o=>
              rcases O.fr a o q with z|z|z
              ·rw[R3.un j a N]at z;cases z
              ·obtain⟨o',w⟩:=R3.at N;rw[z]at w;cases w
              ·obtain⟨o',w⟩:=R3.at N;have e1:=O.h _ _ w;rw[R.uh a _ q]at e1;cases e1;exact(R3.nt N w z).elim
           have g5:Gw I U1 L B4 U4 (upd H5 p (.lst (ys++[y]))):=by
            have g:=(g2.trans n).trans O;exact⟨g.toEx,λa o q=>by rw[aS (bf q hp)];exact g.h a o q,g.fr⟩
           refine⟨y5,ds.length-(i+1),by omega,hlt,rfl,aY,by rw[RK,Sv];omega,B4,U4,l++[x],R4.poke up4 hpA,g5,up4,(dz.mono (G (n.trans O))).append (Dns.one ?_),?_⟩
           ·have hx:Dn Y (Mi.hp k' B4 U4 H5) x y:=hx;rw[hpe]at hx;exact hx
           · cases eg:bL S A (d6 T ix) (ds.drop (i+1)) with
             |ok r=>
               rw[eg]at P3;show Po Y X E ms I U1 As Z L T (.ok (.lst (l++[x]++r))) Q;rw[Ta];exact P3
             |exc c=>rw[eg]at P3;exact P3
             |bad=>rw[eg]at P3;exact P3
         |exc c=>
           have P3:Po Y X E ms I U1 As Z L T (((A (some d::d6 T ix)).calm.bind λx=>(bL S A (d6 T ix) (ds.drop (i+1))).bind λxs=>.ok (x::xs)).bind λr=>.ok (.lst (l++r))) Q:=t;rw[ee]at P3;exact P3.elim
         |bad=>
           have P3:Po Y X E ms I U1 As Z L T (((A (some d::d6 T ix)).calm.bind λx=>(bL S A (d6 T ix) (ds.drop (i+1))).bind λxs=>.ok (x::xs)).bind λr=>.ok (.lst (l++r))) Q:=t;rw[ee]at P3;exact P3.elim
     |exc c=>rw[eb]at t;exact t.elim
     |bad=>rw[eb]at t;exact t.elim
   · have e:i=ds.length:=by omega
     subst e;rw[T7,bL]at t;refine .inl ⟨C.1 _ (by omega),?_⟩;have P3:Po Y X E ms I U1 As Z L T (.ok (.lst (l++[]))) Q:=t;rw[Sk]at P3;exact fin I U1 As Z L T s f M Q l ys p R2 g2 hp u2 hpA hy (by rw[hpe];exact dz) P3
 ·rw[RE z]at W;exact W.elim
theorem Hb{k k':Kd}{a:Md}{o:KT D V}{j:TI}{ix:List Nat}{l:TT}{te:TE}{src:L4->Res (List D)}{m:L4->Res Bool}{n:L4->Res D}
 (q:PJ Y (KI Y k .X) E ms j src) (f:ix.Nodup) (h0:∀B U H d v,Same B U->Same U H->Dn Y (hp k B U H) d v->Lo Y B U H a (some d) (some v) [])
 (b:PJ Y KB E0 (n5 a ms ix) l m) (c:PJ Y (KR Y k') E0 (n5 a ms ix) te n)
 (g:∀B U As Z H T I U1 L Q h ys p,Rel Y ms I U1 As Z L T->Gw B U H I U1 L->H p=none->U1 p=none->(∀i,p∉As i)->L p=some (.lst ys)->Dns Y (hp k' I U1 L) h ys->Po Y o E ms B U As Z H T (.ok (.lst h)) Q->Q (.ref p) L)
 (e:k'= .F\/k'= .U):PJ Y o E ms (qt j ix l te) (ko src ix m n):=by
 intro B U As Z H T Q R P;refine q.bnd R P λds J I U1 L O _ s u t ⟨vs,r,hd⟩ W p hp=>?_;exact Hc f h0 b c g e s r hd W p hp
theorem Pt{B U H:Hp}{d:D}{v:V}(_:Same B U)(_:Same U H)(h:Dn Y (hp .F B U H) d v):Lo Y B U H .F (some d) (some v) []:=⟨v,rfl,h,rfl⟩
theorem Rj{B U:Hp}{As:Nat->List Addr}{Z:St}{H:Hp}{T:L4}{I U1 L:Hp}{Q:VK}{b:List D}{ys:List V}{p:Addr}(R:Rel Y ms I U1 As Z L T)(g:Gw B U H I U1 L)(hp:H p=none)(u:U1 p=none)(c:∀i,p∉As i)(h:L p=some (.lst ys))
 (d:Dns Y (Mi.hp .F I U1 L) b ys) (P:Po Y (KO Y (.ct .fz)) E ms B U As Z H T (.ok (.lst b)) Q):Q (.ref p) L:=
 P (.ref p) I U1 L [p] R g ⟨by simp,λa q=>by rw[RV.mp q];exact hp,λa q=>by rw[RV.mp q];exact u⟩ (by
  show Ow Y I L (.lst b) (.ct .fz) (.ref p) [p];rw[Ow]
  exact⟨p,ys,[],rfl,h,rfl,Ows.of d⟩)
section
variable{wi:TI}{ix:List Nat}{ti:TT}{te:TE}{src:L4->Res (List D)}{mi:L4->Res Bool}{me:L4->Res D}
theorem rO:PJ Y KB E ms NG (λ_=>.ok true):=λB U As Z H T Q R P=>P _ B U H [] R (Gw.refl _ _ _) New.nil rfl
theorem kO(d:PJ Y (KI Y .F .X) E ms wi src)(c:ix.Nodup)(a:PJ Y KB E0 (n5 .F ms ix) ti mi)(b:PJ Y (KR Y .F) E0 (n5 .F ms ix) te me):PJ Y (KO Y (.ct .fz)) E ms (qt wi ix ti te) (ko src ix mi me):=
 Hb d c (λ_ _ _ _ _=>Pt) a b (λ_ _ _ _ _ _ _ _ _ _ _ _ _=>Rj) (.inl rfl)
end
end
structure NewM (N:List Addr) (U:Hp) (As:Nat->List Addr):Prop where
 nd:N.Nodup
 un:∀a∈N,U a=none
 ap:∀a∈N,∀i,a∉As i
theorem NewM.nil{U:Hp}{As:Nat->List Addr}:NewM [] U As:=⟨Sy,λ_ h=>(nomatch h),λ_ h=>(nomatch h)⟩
def Kp(b:Nat->Bool)(Z a:St):Prop:=∀j,b j=true->rg a j=rg Z j
theorem Kp.refl(a:Nat->Bool)(Z:St):Kp a Z Z:=λ_ _=>rfl
theorem Kp.trans{e:Nat->Bool}{Z d c:St}(a:Kp e Z d)(b:Kp e d c):Kp e Z c:=λj h=>(b j h).trans (a j h)
section
variable(Y:Cm)
def Mo{W X:Type}(K:KT W X)(E:XK)(ms:List Md)(B U:Hp)(Z:St)(r:Out W)(Q:X->Hp->Prop):Prop:=
 match r with
 |.ok d G=>∀v S M J H' N,Rel Y ms S M J Z H' G->Ex B U S M->NewM N M J->K d v S M H' N->Q v H'
 |.exc c G=>∀S M J H',Rel Y ms S M J Z H' G->Ex B U S M->∀a,E (.ref (Y c)) a H'
 |.bad=>False
def MJ{W X:Type}(K:KT W X)(E:XK)(ms:List Md)(t:St->Hp->(X->Hp->Prop)->Prop)(m:L4->Out W):Prop:=
 ∀B U As Z H T Q,Rel Y ms B U As Z H T->Mo Y K E ms B U Z (m T) Q->t Z H Q
def So(E:XK)(f:KT D V)(b:Nat->Bool)(ms:List Md)(B U:Hp)(Z:St)(r:SO)(D:Ends):Prop:=
 match r with
 |.nx G=>∀a S M J H',Rel Y ms S M J a H' G->Ex B U S M->Kp b Z a->D.nx a H'
 |.bk G=>∀a S M J H',Rel Y ms S M J a H' G->Ex B U S M->Kp b Z a->D.bk a H'
 |.ct G=>∀a S M J H',Rel Y ms S M J a H' G->Ex B U S M->Kp b Z a->D.ct a H'
 |.rt d G=>∀v a S M J H' N,Rel Y ms S M J a H' G->Ex B U S M->Kp b Z a->NewM N M J->f d v S M H' N->D.rt v H'
 |.exc c G=>∀a S M J H',Rel Y ms S M J a H' G->Ex B U S M->Kp b Z a->∀e,E (.ref (Y c)) e H'
 |.bad=>False
def SJ(E:XK)(b:KT D V)(a:Nat->Bool)(ms:List Md)(t:TS)(m:L4->SO):Prop:=
 ∀B U As Z H T D,Rel Y ms B U As Z H T->So Y E b a ms B U Z (m T) D->t D Z H
end
section
variable{Y:Cm}{E:XK}{Kr:KT D V}{pr:Nat->Bool}{ms:List Md}{K:F0}{B U H I U1 L:Hp}{As:Nat->List Addr}{Z σ1:St}{T:L4}
theorem Mo.at{W X:Type}{K:KT W X}{r:Out W}{Q:X->Hp->Prop}(P:Mo Y K E ms B U Z r Q)(e:Ex B U I U1):Mo Y K E ms I U1 Z r Q:=by
 cases r with
 |ok d G=>exact λv S M J H' N b a f k=>P v S M J H' N b (e.trans a) f k
 |exc c G=>exact λS M J H' b a=>P S M J H' b (e.trans a)
 |bad=>exact P
theorem So.at{r:SO}{D:Ends}(P:So Y E Kr pr ms B U Z r D)(e:Ex B U I U1)(k:Kp pr Z σ1):So Y E Kr pr ms I U1 σ1 r D:=by
 cases r with
 |nx G=>exact λa S M J H' f b k'=>P a S M J H' f (e.trans b) (k.trans k')
 |bk G=>exact λa S M J H' f b k'=>P a S M J H' f (e.trans b) (k.trans k')
 |ct G=>exact λa S M J H' f b k'=>P a S M J H' f (e.trans b) (k.trans k')
 |rt d G=>exact λv a S M J H' N f b k'=>P v a S M J H' N f (e.trans b) (k.trans k')
 |exc c G=>exact λa S M J H' f b k'=>P a S M J H' f (e.trans b) (k.trans k')
 |bad=>exact P
theorem ba{W X:Type}{K:KT W X}{t:St->Hp->(X->Hp->Prop)->Prop}{m:L4->Res W}(h:PJ Y K E ms t m):MJ Y K E ms t (λT=>(m T).up T):=by
 intro B U As Z H T Q R P;replace P:Mo Y K E ms B U Z ((m T).up T) Q:=P;refine h B U As Z H T Q R ?_;cases e:m T with
 |ok d=>
   rw[e]at P;exact λv S M H' N a g n k=>P v S M As H' N a g.toEx ⟨n.nd,n.un,R.apart n⟩ k
 |exc c=>
   rw[e]at P;exact λS M H' a g=>P S M As H' a g.toEx
 |bad=>rw[e]at P;exact P
theorem MJ.imp{W X:Type}{K b:KT W X}{t:St->Hp->(X->Hp->Prop)->Prop}{m:L4->Out W}(h:MJ Y K E ms t m)(f:∀B U As Z H T d v N,Rel Y ms B U As Z H T->K d v B U H N->b d v B U H N):MJ Y b E ms t m:=by
 intro B U As Z H T Q R P;refine h B U As Z H T Q R ?_;cases e:m T with
 |ok d G=>rw[e]at P;exact λv S M J H' N a i g k=>P v S M J H' N a i g (f _ _ _ _ _ _ _ _ _ a k)
 |exc c G=>rw[e]at P;exact P
 |bad=>rw[e]at P;exact P
theorem mfu{t:TE}{m:L4->Out D}(h:MJ Y (KR Y .F) E ms t m):MJ Y (KR Y .U) E ms t m:=h.imp λ_ _ _ _ _ _ _ _ _ R q=>Dn.mono R.bu q
theorem mux{t:TE}{m:L4->Out D}(h:MJ Y (KR Y .U) E ms t m):MJ Y (KR Y .X) E ms t m:=h.imp λ_ _ _ _ _ _ _ _ _ R q=>Dn.mono R.uh q
theorem moF{s:Sh}{t:TE}{m:L4->Out D}(h:MJ Y (KO Y s) E ms t m):MJ Y (KR Y .F) E ms t m:=by
 intro B U As Z H T Q R P;refine h B U As Z H T Q R ?_;cases e:m T with
 |ok d G=>
   rw[e]at P;intro v S M J H' N g k f i;obtain⟨R2,j⟩:=g.freeze λa b=>⟨f.un a b,f.ap a b⟩;refine P v _ _ J H' [] R2 (k.trans j) NewM.nil (Ow.dn (cr g.bh) (λa b o q=>?_) i);unfold Mi.frz;rw[if_pos b];exact q
 |exc c G=>rw[e]at P;exact P
 |bad=>rw[e]at P;exact P
theorem MJ.bnd{W X O M:Type}{i:KT W X}{g:KT O M}{d:St->Hp->(X->Hp->Prop)->Prop}{b:L4->Out W}(l:MJ Y i E ms d b)(R:Rel Y ms B U As Z H T){k:W->L4->Out O}{Q:M->Hp->Prop}
 (P:Mo Y g E ms B U Z ((b T).bind k) Q) {body:X->Hp->Prop}
 (h:∀x G v I U1 a L N,Rel Y ms I U1 a Z L G->Ex B U I U1->NewM N U1 a->i x v I U1 L N->Mo Y g E ms I U1 Z (k x G) Q->body v L):d Z H body:=by
 refine l B U As Z H T body R ?_;cases e:b T with
 |ok x G=>
   rw[e]at P;exact λv I U1 a L N m f j k1=>h x G v I U1 a L N m f j k1 (Mo.at (r:=k x G) P f)
 |exc c G=>rw[e]at P;exact P
 |bad=>rw[e]at P;exact P
theorem MJ.bndS{W X:Type}{g:KT W X}{d:St->Hp->(X->Hp->Prop)->Prop}{b:L4->Out W}(j:MJ Y g E ms d b)(R:Rel Y ms B U As Z H T){k:W->L4->SO}{D:Ends}
 (P:So Y E Kr pr ms B U Z (gJ (b T) k) D) {body:X->Hp->Prop}
 (h:∀x G v I U1 a L N,Rel Y ms I U1 a Z L G->Ex B U I U1->NewM N U1 a->g x v I U1 L N->So Y E Kr pr ms I U1 Z (k x G) D->body v L):d Z H body:=by
 refine j B U As Z H T body R ?_;cases e:b T with
 |ok x G=>
   rw[e]at P;exact λv I U1 a L N m f i k1=>h x G v I U1 a L N m f i k1 (So.at (r:=k x G) P f (Kp.refl _ _))
 |exc c G=>rw[e]at P;exact λS M J H' n l=>P Z S M J H' n l (Kp.refl _ _)
 |bad=>rw[e]at P;exact P
theorem iU{W:Type}{l:List (Option W)}{i j:Nat}{x:Option W}:rg (l.set i x) j=if i=j/\i<l.length then x else rg l j:=by
 unfold rg;rw[List.getElem?_set];by_cases e:i=j
 · subst e;by_cases h:i<l.length
   ·rw[RF rfl,RF h,RF ⟨rfl,h⟩];rfl
   ·rw[RF rfl,RE h,RE λz=>h z.2,R6 (by omega)]
 ·rw[RE e,RE λz=>e z.1]
theorem Rel.store(R:Rel Y ms B U As Z H T){i:Nat}{d:D}{v:V}{N:List Addr}(n:NewM N U As)(l:Lo Y B U H (ms.getD i .F) (some d) (some v) N):
 ∃J,Rel Y ms B U J (Z.set i (some v)) H (T.set i (some d)):=by
 by_cases hi:i<T.length
 · refine⟨λj=>if j=i then N else As j,R.bu,R.uh,λj=>?_,λj k a f b c=>?_,λj a b=>?_,λj=>?_,by rw[SH,SH];exact R.len,R.tb⟩
   · show(if j=i then N else As j).Nodup;split
     ·exact n.nd
     ·exact R.nd j
   · replace b:a∈(if j=i then N else As j):=b;replace c:a∈(if k=i then N else As k):=c;split at b
     · split at c
       ·rename_i h g;exact f (h.trans g.symm)
       ·exact n.ap a b k c
     · split at c
       ·exact n.ap a c j b
       ·exact R.dj j k a f b c
   · replace b:a∈(if j=i then N else As j):=b;split at b
     ·exact n.un a b
     ·exact R.un j a b
   · rw[iU,iU];show Lo Y B U H (ms.getD j .F) _ _ (if j=i then N else As j);by_cases e:i=j
     ·subst e;rw[RF ⟨rfl,hi⟩,RF ⟨rfl,by rw[<-R.len];exact hi⟩,RF rfl];exact l
     ·rw[RE λz=>e z.1,RE λz=>e z.1,RE λz=>e z.symm];exact R.lo j
 ·have g:=R.len;have o:Z.set i (some v)=Z:=UB (by omega);have m:T.set i (some d)=T:=UB (by omega);rw[o,m];exact⟨As,R⟩
theorem Kp.set{i:Nat}{x:Option V}(h:pr i=false):Kp pr Z (Z.set i x):=λj a=>by
 rw[iU,RE];rintro⟨e,_⟩;rw[e,a]at h;cases h
theorem HN{f:KT D V}{i:Nat}{te:TE}{m:L4->Out D}(h:MJ Y f E ms te m)(k:∀B U H d v N,f d v B U H N->∃a,(a=[]\/a=N)/\Lo Y B U H (ms.getD i .F) (some d) (some v) a)(hp:pr i=false):SJ Y E Kr pr ms (rs te (eh i)) (bW i m):=by
 intro B U As Z H T D R P;refine h.bndS R P λx G v I U1 c L N o p j k1 W=>?_;obtain⟨a,n,l⟩:=k I U1 L x v N k1
 have g:NewM a U1 c:=by
  rcases n with e|e
  ·subst e;exact NewM.nil
  ·subst e;exact j
 obtain⟨b,R2⟩:=o.store g l;exact W _ I U1 b L R2 (Ex.refl _ _) (Kp.set hp)
theorem br{i:Nat}{te:TE}{m:L4->Out D}(h:MJ Y (KR Y .F) E ms te m)(a:ms.getD i .F= .F)(hp:pr i=false):SJ Y E Kr pr ms (rs te (eh i)) (bW i m):=
 HN h (λB U H d v N k=>⟨[],.inl rfl,by rw[a];exact⟨v,rfl,k,rfl⟩⟩) hp
theorem dm{i:Nat}{s:Sh}{te:TE}{m:L4->Out D}(h:MJ Y (KO Y s) E ms te m)(a:ms.getD i .F= .O s)(hp:pr i=false):SJ Y E Kr pr ms (rs te (eh i)) (bW i m):=
 HN h (λB U H d v N k=>⟨N,.inr rfl,by rw[a];exact⟨v,rfl,k⟩⟩) hp
theorem bN:SJ Y E Kr pr ms HC bH:=λB U As Z H T D R P=>P Z B U As H R (Ex.refl _ _) (Kp.refl _ _)
theorem ar{t u:TS}{m n:L4->SO}(h:SJ Y E Kr pr ms t m)(k:SJ Y E Kr pr ms u n):SJ Y E Kr pr ms (FR t u) (ay m n):=by
 intro B U As Z H T D R P;refine h B U As Z H T _ R ?_;unfold ay at P;cases e:m T with
 |nx G=>rw[e]at P;exact λa S M J H' f b kp=>k S M J a H' G D f (So.at P b kp)
 |bk G=>rw[e]at P;exact P
 |ct G=>rw[e]at P;exact P
 |rt d G=>rw[e]at P;exact P
 |exc c G=>rw[e]at P;exact P
 |bad=>rw[e]at P;exact P
theorem aN{c:KT D V}{te:TE}{m:L4->Out D}(h:MJ Y c E ms te m):SJ Y E Kr pr ms (nC te) (aT m):=by
 intro B U As Z H T D R P;refine h.bndS R P λx G v I U1 a L N b e d k1 W=>?_;exact W Z I U1 a L b (Ex.refl _ _) (Kp.refl _ _)
theorem cg{te:TE}{m:L4->Out D}(h:MJ Y Kr E ms te m):SJ Y E Kr pr ms (NH te) (dF m):=by
 intro B U As Z H T D R P;refine h.bndS R P λx G v I U1 a L N c d b k1 W=>?_;exact W v Z I U1 a L N c (Ex.refl _ _) (Kp.refl _ _) b k1
theorem JZ(h:∀B U H,Kr .non .non B U H []):SJ Y E Kr pr ms HB Kw:=λB U As Z H T D R P=>P .non Z B U As H [] R (Ex.refl _ _) (Kp.refl _ _) NewM.nil (h _ _ _)
theorem cQ{c:TT}{t u:TS}{mc:L4->Out Bool}{m n:L4->SO}(d:MJ Y KB E ms c mc)(h:SJ Y E Kr pr ms t m)(k:SJ Y E Kr pr ms u n):SJ Y E Kr pr ms (FT c t u) (gc mc m n):=by
 intro B U As Z H T D R P;refine d.bndS R P λx G v I U1 a L N b f e k1 W=>?_;cases k1;cases x with
 |true=>exact h I U1 a Z L G D b W
 |false=>exact k I U1 a Z L G D b W
def TJ(Y:Cm)(k:Kd)(pr:Nat->Bool)(ms:List Md)(g:TG)(c:D->L4->Option L4):Prop:=∀B U As Z H T d v a Q,Rel Y ms B U As Z H T->Dn Y (hp k B U H) d v->c d T=some a->(∀σ1 b,Rel Y ms B U b σ1 H a->Kp pr Z σ1->Q σ1 H)->g v Z H Q
theorem FP{i:Nat}(c:ms.getD i .F= .F)(hp:pr i=false):TJ Y .F pr ms (eh i) (v2 i):=by
 intro B U As Z H T d v b Q R hd e h;cases e;obtain⟨a,R2⟩:=R.store (i:=i) (d:=d) (v:=v) NewM.nil (by rw[c];exact⟨v,rfl,hd,rfl⟩);exact h _ a R2 (Kp.set hp)
theorem ND{i:Nat}(c:ms.getD i .F= .R)(hp:pr i=false):TJ Y .U pr ms (eh i) (v2 i):=by
 intro B U As Z H T d v b Q R hd e h;cases e;obtain⟨a,R2⟩:=R.store (i:=i) (d:=d) (v:=v) NewM.nil (by rw[c];exact⟨v,rfl,hd,rfl⟩);exact h _ a R2 (Kp.set hp)
theorem NE{i:Nat}(b:ms.getD i .F= .R)(hp:pr i=false):TJ Y .F pr ms (eh i) (v2 i):=λB U As Z H T d v a Q R hd e h=>ND b hp B U As Z H T d v a Q R (Dn.mono R.bu hd) e h
theorem tg2{k:Kd}{i j:Nat}(hi:TJ Y k pr ms (eh i) (v2 i))(t:TJ Y k pr ms (eh j) (v2 j)):TJ Y k pr ms (Pw K 2 (EG (eh i) (EG (eh j) Py))) (JC i j):=by
 intro B U As Z H T d v p Q R hd e h;cases d with
 |tup ds=>
   rcases ds with _|⟨x,_|⟨y,_|⟨z,ds⟩⟩⟩
   ·cases e
   ·cases e
   ·cases e;rw[Dn]at hd;obtain⟨a,xs,rfl,u,o⟩:=hd;rw[Dns]at o;obtain⟨f,r,rfl,s,n⟩:=o;rw[Dns]at n;obtain⟨b,A,rfl,q,m⟩:=n;rw[Dns]at m;subst m;refine⟨a,[f,b],rfl,SqT.of (R.hp k _ _ u),rfl,f,[b],rfl,?_⟩;refine hi B U As Z H T x f _ _ R s rfl λσ1 l w k1=>⟨b,[],rfl,?_⟩;exact t B U l σ1 H _ y b _ _ w q rfl λc g R2 k2=>⟨rfl,h c g R2 (k1.trans k2)⟩
   ·cases e
 |_=>cases e
theorem gK{k:Kd}{wi:TI}{g:TG}{tb:TS}{src:L4->Out (List D)}{O:D->L4->Option L4}{body:L4->SO}(hs:MJ Y (KI Y k .U) E ms wi src)(hk:k= .F\/k= .U)(hg:TJ Y k pr ms g O)(hb:SJ Y E Kr pr ms tb body):
 SJ Y E Kr pr ms (JF wi g tb) (fB src O body):=by
 intro B U As Z H T D R P;refine hs.bndS R P λds X J I U1 As1 L N R1 e1 n1 ⟨vs,hJ,hd⟩ W=>?_;have hvl:ds.length=vs.length:=hd.len
 have hp1:∀{p o H2:Hp},Ex I U1 p o->Same (hp k I U1 L) (hp k p o H2):=λe=>by
  rcases hk with z|z<;>subst z
  ·exact e.b
  ·exact e.u
 refine⟨λi m r H'=>i<=ds.length/\m=ds.length-i/\∃p o n h,Rel Y ms p o n r H' h/\Ex I U1 p o/\Kp pr Z r/\So Y E Kr pr ms I U1 Z (sC O body (ds.drop i) h) D,⟨_,SR _,rfl,I,U1,As1,X,R1,Ex.refl _ _,Kp.refl _ _,W⟩,?_⟩;rintro i m r H' ⟨hi,rfl,p,o,n,h,R2,C,k2,a⟩;have hj:=hJ H' (C.u.trans R2.uh);by_cases Q:i<ds.length
 · refine .inr ⟨hj.2.1 i (by omega),λq S=>i+1<=ds.length/\∃p o n h,Rel Y ms p o n q S h/\Ex I U1 p o/\Kp pr Z q/\So Y E Kr pr ms I U1 Z (sC O body (ds.drop (i+1)) h) D,λq S ⟨h1,h2⟩=>⟨ds.length-(i+1),by omega,h1,rfl,h2⟩,λx Hx hy=>?_⟩;obtain⟨rfl,ev⟩:=hj.2.2 i x Hx (by omega) hy;obtain⟨d,ed,dd⟩:=hd.geti ev;rw[jr ed,sC]at a;cases et:O d h with
   |none=>rw[et]at a;exact a.elim
   |some G=>
     rw[et]at a;refine hg p o n r Hx h d x G _ R2 (Dn.mono (hp1 C) dd) et λV As3 R3 k3=>?_;refine hb p o As3 V Hx G _ R3 ?_;dsimp only at a;cases M:body G with
     |nx l=>
       rw[M]at a;exact λj A w f K y t s=>⟨Q,A,w,f,l,y,C.trans t,(k2.trans k3).trans s,a⟩
     |ct l=>
       rw[M]at a;exact λj A w f K y t s=>⟨Q,A,w,f,l,y,C.trans t,(k2.trans k3).trans s,a⟩
     |bk l=>
       rw[M]at a;exact λj A w f K y t s=>a j A w f K y (C.trans t) ((k2.trans k3).trans s)
     |rt d l=>
       rw[M]at a;exact λv j A w f K N y t s=>a v j A w f K N y (C.trans t) ((k2.trans k3).trans s)
     |exc c l=>
       rw[M]at a;exact λj A w f K y t s=>a j A w f K y (C.trans t) ((k2.trans k3).trans s)
     |bad=>rw[M]at a;exact a.elim
 · have e:i=ds.length:=by omega
   subst e;rw[T7,sC]at a;exact .inl ⟨hj.1 _ (by omega),a r p o n H' R2 C k2⟩
theorem Gb{c:TT}{tb:TS}{mc:L4->Out Bool}{body:L4->SO}(n:Nat)(Q:MJ Y KB E ms c mc)(S:SJ Y E Kr pr ms tb body):SJ Y E Kr pr ms (Bc c tb) (zD mc body n):=by
 intro B U As Z H T D R P;refine⟨λm i H'=>∃O J A p,Rel Y ms O J A i H' p/\Ex B U O J/\Kp pr Z i/\So Y E Kr pr ms B U Z (zD mc body m p) D,⟨n,B,U,As,T,R,Ex.refl _ _,Kp.refl _ _,P⟩,?_⟩;rintro m i H' ⟨O,J,A,p,R2,y,k2,b⟩;cases m with
 |zero=>exact b.elim
 |succ m=>
   rw[zD]at b;refine Q O J A i H' p _ R2 ?_;cases e:mc p with
   |ok x q=>
     rw[e]at b;intro v M I u L N K w V k3;cases k3;cases x with
     |false=>
       rw[RE RQ];exact b i M I u L K (y.trans w) k2
     |true=>
       rw[RF rfl]
       have b:So Y E Kr pr ms B U Z (match body q with
        |.nx G=>zD mc body m G
        |.ct G=>zD mc body m G
        |.bk G=>.nx G
        |o=>o) D:=b
       refine⟨λl F=>∃k j a f,Rel Y ms k j a l F f/\Ex B U k j/\Kp pr Z l/\So Y E Kr pr ms B U Z (zD mc body m f) D,λl F h=>⟨m,T5 m,h⟩,?_⟩;refine S M I u i L q _ K ?_;cases C:body q with
       |nx f=>
         rw[C]at b;exact λg k j a z t s r=>⟨k,j,a,f,t,(y.trans w).trans s,k2.trans r,b⟩
       |ct f=>
         rw[C]at b;exact λg k j a z t s r=>⟨k,j,a,f,t,(y.trans w).trans s,k2.trans r,b⟩
       |bk f=>
         rw[C]at b;exact λg k j a z t s r=>b g k j a z t ((y.trans w).trans s) (k2.trans r)
       |rt d f=>
         rw[C]at b;exact λv g k j a z N t s r=>b v g k j a z N t ((y.trans w).trans s) (k2.trans r)
       |exc c f=>
         rw[C]at b;exact λg k j a z t s r=>b g k j a z t ((y.trans w).trans s) (k2.trans r)
       |bad=>rw[C]at b;exact b.elim
   |exc c q=>rw[e]at b;exact λM I u L K w=>b i M I u L K (y.trans w) k2
   |bad=>rw[e]at b;exact b.elim
end
inductive Ap where
 |F|U|X|O (i:Nat)|Bo (i:Nat)
deriving DecidableEq
def d7:List Ap->Nat->L4->L4->L4
 |[],_,_,T=>T
 |.O i::r,j,a,T=>d7 r (j+1) a (T.set i (rg a j))
 |_::r,j,a,T=>d7 r (j+1) a T
def fg(a:List Ap)(e:List D->Out D)(ds:List D)(T:L4):Out D:=match e ds with
 |.ok d b=>.ok d (d7 a 0 b T)
 |.exc c b=>.exc c (d7 a 0 b T)
 |.bad=>.bad
def gb(a:List D->Out D)(ds:List D):Res D:=match a ds with
 |.ok d _=>.ok d
 |.exc c _=>.exc c
 |.bad=>.bad
def gr(ms:List Md)(T:L4):L4:=(List.range ms.length).map λi=>match ms.getD i .F with | .O _=>rg T i|_=>none
section
variable(Y:Cm)
def dO(ms:List Md)(e:KT D V)(b:List D->Out D):Sp:=λvs H Q E=>∃B U As ds,Rel Y ms B U As (vs.map some) H (ds.map some)/\vs.length=ms.length/\match b ds with
 |.ok d G=>∀v S M J H' N,Rel Y ms S M J (vs.map some) H' (gr ms G)->Ex B U S M->NewM N M J->e d v S M H' N->Q v H'
 |.exc c G=>∀S M J H',Rel Y ms S M J (vs.map some) H' (gr ms G)->Ex B U S M->∀a,E (.ref (Y c)) a H'
 |.bad=>False
def A1(p:Ap)(B U H:Hp)(Z:St)(T:L4)(d:D)(v:V):Prop:=match p with
 |.F=>Dn Y B d v
 |.U=>Dn Y U d v
 |.X=>Dn Y H d v
 |.O i=>rg Z i=some v/\rg T i=some d
 |.Bo i=>rg Z i=some v/\rg T i=some d
def Ag(B U H:Hp)(Z:St)(T:L4):List Ap->List D->List V->Prop
 |[],ds,vs=>ds=[]/\vs=[]
 |p::ps,ds,vs=>∃d a v vr,ds=d::a/\vs=v::vr/\A1 Y p B U H Z T d v/\Ag B U H Z T ps a vr
end
section
variable{Y:Cm}{E:XK}{ms:List Md}{B U H:Hp}{As:Nat->List Addr}{Z:St}{T:L4}
theorem A1.mono{p:Ap}{S M H':Hp}{d:D}{v:V}(h:A1 Y p B U H Z T d v)(g:Gw B U H S M H'):A1 Y p S M H' Z T d v:=by
 cases p with
 |F=>exact Dn.mono g.b h
 |U=>exact Dn.mono g.u h
 |X=>exact Dn.mono g.h h
 |O i=>exact h
 |Bo i=>exact h
def A1J(Y:Cm)(E:XK)(ms:List Md)(p:Ap)(t:TE)(m:L4->Res D):Prop:=∀B U As Z H T Q,Rel Y ms B U As Z H T->Po Y (λd v B U H _=>A1 Y p B U H Z T d v) E ms B U As Z H T (m T) Q->t Z H Q
def AJ(Y:Cm)(E:XK)(ms:List Md)(ps:List Ap)(t:TA)(m:L4->Res (List D)):Prop:=∀B U As Z H T Q,Rel Y ms B U As Z H T->Po Y (λd v B U H _=>Ag Y B U H Z T ps d v) E ms B U As Z H T (m T) Q->t Z H Q
theorem aF{t:TE}{m:L4->Res D}(h:PJ Y (KR Y .F) E ms t m):A1J Y E ms .F t m:=λB U As Z H T Q R P=>h B U As Z H T Q R P
theorem aU{t:TE}{m:L4->Res D}(h:PJ Y (KR Y .U) E ms t m):A1J Y E ms .U t m:=λB U As Z H T Q R P=>h B U As Z H T Q R P
theorem aX{t:TE}{m:L4->Res D}(h:PJ Y (KR Y .X) E ms t m):A1J Y E ms .X t m:=λB U As Z H T Q R P=>h B U As Z H T Q R P
theorem Fu{i:Nat}{p:Ap}(hp:∀B U H Z T d v,rg Z i=some v->rg T i=some d->A1 Y p B U H Z T d v):A1J Y E ms p (eT i) (vr i):=by
 intro B U As Z H T Q R P;unfold vr at P;have l:=R.lo i;cases e:rg T i with
 |none=>rw[e]at P;exact P.elim
 |some d=>
   rw[e]at P l;obtain⟨v,a,q⟩:=l;exact⟨v,fj a,P v B U H [] R (Gw.refl _ _ _) New.nil (hp _ _ _ _ _ _ _ a e)⟩
theorem aO{i:Nat}:A1J Y E ms (.O i) (eT i) (vr i):=Fu λ_ _ _ _ _ _ _ h k=>⟨h,k⟩
theorem aB{i:Nat}:A1J Y E ms (.Bo i) (eT i) (vr i):=Fu λ_ _ _ _ _ _ _ h k=>⟨h,k⟩
theorem aA:AJ Y E ms [] dE a6:=λB U As Z H T Q R P=>P [] B U H [] R (Gw.refl _ _ _) New.nil ⟨rfl,rfl⟩
theorem A1J.bnd{p:Ap}{O M:Type}{f:KT O M}{b:TE}{a:L4->Res D}(g:A1J Y E ms p b a)(R:Rel Y ms B U As Z H T){k:D->Res O}{Q:M->Hp->Prop}
 (P:Po Y f E ms B U As Z H T ((a T).bind k) Q) {body:V->Hp->Prop}
 (h:∀x v I U1 L,Rel Y ms I U1 As Z L T->Gw B U H I U1 L->A1 Y p I U1 L Z T x v->Po Y f E ms I U1 As Z L T (k x) Q->body v L):b Z H body:=by
 refine g B U As Z H T body R ?_;cases e:a T with
 |ok x=>
   rw[e]at P;exact λv I U1 L N i d j k1=>h x v I U1 L i d k1 (Po.at (r:=k x) P d)
 |exc c=>rw[e]at P;exact P
 |bad=>rw[e]at P;exact P
theorem AJ.bnd{ps:List Ap}{O M:Type}{f:KT O M}{b:TA}{a:L4->Res (List D)}(g:AJ Y E ms ps b a)(R:Rel Y ms B U As Z H T){k:List D->Res O}{Q:M->Hp->Prop}
 (P:Po Y f E ms B U As Z H T ((a T).bind k) Q) {body:List V->Hp->Prop}
 (h:∀x v I U1 L,Rel Y ms I U1 As Z L T->Gw B U H I U1 L->Ag Y I U1 L Z T ps x v->Po Y f E ms I U1 As Z L T (k x) Q->body v L):b Z H body:=by
 refine g B U As Z H T body R ?_;cases e:a T with
 |ok x=>
   rw[e]at P;exact λv I U1 L N i d j k1=>h x v I U1 L i d k1 (Po.at (r:=k x) P d)
 |exc c=>rw[e]at P;exact P
 |bad=>rw[e]at P;exact P
theorem af{p:Ap}{ps:List Ap}{b:TE}{a:TA}{d:L4->Res D}{c:L4->Res (List D)}(f:A1J Y E ms p b d)(e:AJ Y E ms ps a c):AJ Y E ms (p::ps) (bS b a) (ax d c):=by
 intro B U As Z H T Q R P;refine f.bnd R P λx v I U1 L j n M W=>e.bnd j W λy u m i l R2 g h k=>?_;exact k (v::u) m i l [] R2 (Gw.refl _ _ _) New.nil ⟨x,y,v,u,rfl,rfl,M.mono g,h⟩
def sD(ms:List Md)(pure:Bool):Ap->Md->Bool
 |.F,.F=>true
 |.F,.R=>true
 |.U,.R=>true
 |.X,.R=>pure
 |.Bo _,.R=>true
 |_,_=>false
theorem Ag.len:∀{ps:List Ap} {ds:List D} {vs:List V},Ag Y B U H Z T ps ds vs->ds.length=ps.length/\vs.length=ps.length
 |[],_,_,h=>by obtain⟨rfl,rfl⟩:=h;exact⟨rfl,rfl⟩
 | p::ps,_,_,h=>by
   obtain⟨d,a,v,vr,rfl,rfl,_,h⟩:=h
   have:=Ag.len h
   exact⟨by rw[RL,RL,this.1],by rw[RL,RL,this.2]⟩
theorem Ag.get:∀{ps:List Ap} {ds:List D} {vs:List V} {j:Nat} {p:Ap},Ag Y B U H Z T ps ds vs->ps[j]?=some p->∃d v,ds[j]?=some d/\vs[j]?=some v/\A1 Y p B U H Z T d v
 |[],_,_,_,_,_,e=>by cases e
 | p::ps,_,_,j,q,h,e=>by
   obtain⟨d,b,v,vr,rfl,rfl,a,h⟩:=h;cases j with
   |zero=>cases e;exact⟨d,v,rfl,rfl,a⟩
   |succ j=>exact Ag.get (j:=j) h (by simpa using e)
theorem eJ{W:Type}{l:List W}{i:Nat}:rg (l.map some) i=l[i]?:=by
 unfold rg;rw[List.getElem?_map];cases l[i]?<;>rfl
theorem Rel.read(R:Rel Y ms B U As Z H T){i:Nat}{d:D}{v:V}(a:rg Z i=some v)(hd:rg T i=some d):Dn Y H d v:=by
 have l:=R.lo i;rw[hd]at l;have q:=ii l a;cases e:ms.getD i .F with
 |F=>rw[e]at q;exact Dn.mono R.bh q.1
 |R=>rw[e]at q;exact Dn.mono R.uh q.1
 |O s=>rw[e]at q;exact Ow.dn R.bh (λ_ _ _ q=>q) q
theorem A1.read(R:Rel Y ms B U As Z H T){p:Ap}{d:D}{v:V}(h:A1 Y p B U H Z T d v):Dn Y H d v:=by
 cases p with
 |F=>exact Dn.mono R.bh h
 |U=>exact Dn.mono R.uh h
 |X=>exact h
 |O i=>exact R.read h.1 h.2
 |Bo i=>exact R.read h.1 h.2
def ov(B U:Hp):Hp:=λa=>match B a with|some o=>some o|none=>U a
theorem vQ{f:List Md}{y:KT D V}{K:List D->Out D}{ps:List Ap}{ds:List D}{vs:List V}{Q:VK}(R:Rel Y ms B U As Z H T)(A:Ag Y B U H Z T ps ds vs)(hl:ps.length=f.length)
 (hf:∀(j:Nat) p,ps[j]?=some p->sD ms true p (f.getD j .F)=true) (hU:∀d v B U M H N,y d v B U H N->y d v B M H N) (P:Po Y y E ms B U As Z H T (gb K ds) Q):dO Y f y K vs H Q E:=by
 have n:=A.len
 have Rc:Rel Y f B H (λ_=>[]) (vs.map some) H (ds.map some):=by
  refine⟨R.bh,Same.refl _,λ_=>Sy,λ_ _ _ _ h=>(nomatch h),λ_ _ h=>(nomatch h),λj=>?_,by rw[RH,RH,n.1,n.2],R.tb⟩;rw[eJ,eJ];cases e:ps[j]? with
  |none=>
    have:ps.length<=j:=SI.mp e
    rw[R6 (by omega)];rfl
  |some p=>
    obtain⟨d,v,ed,ev,t⟩:=A.get e;rw[ed,ev];refine⟨v,rfl,?_⟩;have hr:=A1.read R t;have q:=hf j p e;cases X:f.getD j .F with
    |F=>
      rw[X]at q;cases p with
      |F=>exact⟨t,rfl⟩
      |_=>cases q
    |R=>exact⟨hr,rfl⟩
    |O s=>rw[X]at q;cases p<;>cases q
 refine⟨B,H,λ_=>[],ds,Rc,by omega,?_⟩
 have m:∀{S M H':Hp} {J:Nat->List Addr} {x:L4},Rel Y f S M J (vs.map some) H' x->Ex B H S M->Rel Y ms S (ov S U) As Z H' T/\Gw B U H S (ov S U) H':=λ{S M H' J x} l g=>by
  have same:∀a o,U a=some o->∀o',S a=some o'->o'=o:=λa o q o' w=>by
   have t:=g.u a o (R.uh a o q);have W:=l.bu a o' w;rw[t]at W;exact(R9 W).symm
  have L:Same U (ov S U):=λa o q=>by
   unfold ov;cases z:S a with
   |none=>exact q
   |some o'=>rw[same a o q o' z]
  have sh:Same H H':=g.u.trans l.uh
  have uh:Same (ov S U) H':=λa o q=>by
   unfold ov at q;cases z:S a with
   |none=>rw[z]at q;exact sh a o (R.uh a o q)
   |some o'=>rw[z]at q;cases q;exact l.bh a _ z
  have bu:Same S (ov S U):=λa o q=>by unfold ov;rw[q]
  have new:∀a o,S a=some o->B a=some o\/H a=none\/dY o:=g.nb;refine⟨R.grow g.b L sh bu uh λi a r=>?_,⟨g.b,L,λa o q=>?_⟩,sh,λa o q=>?_⟩
  · unfold ov;cases z:S a with
    |none=>exact R.un i a r
    |some o=>
      obtain⟨o',w⟩:=R.at r;rcases new a o z with q|q|q
      ·have:=R.bu a o q;rw[R.un i a r]at this;cases this
      ·rw[q]at w;cases w
      ·have e1:=sh _ _ w;rw[l.bh a o z]at e1;cases e1;exact(R.nt r w q).elim
  · rcases new a o q with q|q|q
    ·exact .inl q
    ·exact .inr (.inl (R.uh.free q))
    ·exact .inr (.inr q)
  · unfold ov at q;cases z:S a with
    |none=>rw[z]at q;exact .inl q
    |some o'=>
      rw[z]at q;cases q;rcases new a _ z with q|q
      ·exact .inl (R.bu a _ q)
      ·exact .inr q
 cases e:K ds with
 |ok d G=>
   unfold gb at P;rw[e]at P;intro v S M J H' N l g C k;obtain⟨R2,I⟩:=m l g;refine P v S _ H' N R2 I ⟨C.nd,λa r=>g.u.free (C.un a r),λa r=>?_⟩ (hU d v S M (ov S U) H' N k);unfold ov;have t:=C.un a r;cases z:S a with
   |none=>exact R.uh.free (g.u.free t)
   |some o=>have:=l.bu a o z;rw[t]at this;cases this
 |exc c G=>
   unfold gb at P;rw[e]at P;intro S M J H' l g;obtain⟨R2,I⟩:=m l g;exact P S _ H' R2 I
 |bad=>
   unfold gb at P;rw[e]at P;exact P
theorem hF{d:D}{v:V}{B U M H:Hp}{N:List Addr}(h:KR Y .F d v B U H N):KR Y .F d v B M H N:=h
theorem hO{s:Sh}{d:D}{v:V}{B U M H:Hp}{N:List Addr}(h:KO Y s d v B U H N):KO Y s d v B M H N:=h
theorem CP{a:List Md}{b:KT D V}{c:List D->Out D}{ps:List Ap}{t:TA}{m:L4->Res (List D)}(h:AJ Y E ms ps t m)(e:ps.length=a.length)
 (f:∀(j:Nat) p,ps[j]?=some p->sD ms true p (a.getD j .F)=true) (g:∀d v B U M H N,b d v B U H N->b d v B M H N):PJ Y b E ms (l8 (dO Y a b c) [] E t) (λT=>(m T).bind (gb c)):=by
 intro B U As Z H T Q R P;refine h.bnd R P λds vs I U1 L i k A W=>?_;rw[Sk];exact vQ i A e f g W
def cA(c:Nat)(m:Str):D->Bool
 |.obj a ns _=>decide (a=c)&&!ns.contains m
 |_=>false
theorem mq{m:Str}:∀{fs:List (Str×V)},(fs.map (·.1)).contains m=false->fs.lookup m=none
 |[],_=>rfl
 | p::fs,h=>by
   rw[RJ,List.contains_cons,Bool.or_eq_false_iff]at h;rw[Sx,h.1];exact mq h.2
theorem qH{c:Nat}{m:Str}{d:D}{v:V}(h:cA c m d=true)(hd:Dn Y H d v):∃a dx fs,v=.ref a/\H a=some (.ins (Y c) dx fs)/\fs.lookup m=none:=by
 cases d with
 |obj g ns ds=>
   have h:(decide (g=c)&&!ns.contains m)=true:=h;rw[S7]at h;have e:=Tw h.1;subst e;rw[Dn]at hd;obtain⟨a,dx,fs,r,f,b,_⟩:=hd;refine⟨a,dx,fs,r,f,mq ?_⟩;rw[b];simpa using h.2
 |_=>cases h
theorem wu{c:Nat}{f:Str}{b:List Md}{e:KT D V}{k:List D->Out D}{p:Ap}{ps:List Ap}{g:TE}{i:L4->Res D}{t:TA}{m:L4->Res (List D)}(u:A1J Y E ms p g i)(h:AJ Y E ms ps t m)(r:(p::ps).length=b.length)
 (s:∀(j:Nat) q,(p::ps)[j]?=some q->sD ms true q (b.getD j .F)=true) (w:∀d v B U M H N,e d v B U H N->e d v B M H N):
 PJ Y e E ms (kB (Y c) f (dO Y b e k) [] E g t) (λT=>(i T).bind λo=>if cA c f o=true then (m T).bind λds=>gb k (o::ds) else .bad):=by
 intro B U As Z H T Q R P;refine u.bnd R P λo v I U1 L n J l W=>?_;by_cases z:cA c f o=true
 ·rw[RF z]at W;obtain⟨a,dx,fs,rfl,y,x⟩:=qH z (A1.read n l);refine⟨a,dx,fs,rfl,y,x,h.bnd n W λds vs S K O R2 C A G=>?_⟩;rw[Sk];exact vQ (ps:=p::ps) (ds:=o::ds) R2 ⟨o,ds,_,vs,rfl,rfl,l.mono C,A⟩ r s w G
 ·rw[RE z]at W;exact W.elim
end
section
variable{Y:Cm}{E:XK}{ms:List Md}{B U H:Hp}{As:Nat->List Addr}{Z:St}{T:L4}
def iW:List Ap->Nat->Option Nat
 |[],_=>none
 |p::r,i=>if p= .O i then some 0 else (iW r i).map (·+1)
theorem gL:∀{ps:List Ap} {i j:Nat},iW ps i=some j->ps[j]?=some (.O i)
 |[],_,_,h=>by cases h
 | p::r,i,j,h=>by
   unfold iW at h;by_cases e:p= .O i
   ·rw[RF e]at h;cases h;rw[e];rfl
   ·rw[RE e]at h;obtain⟨k,a,rfl⟩:=Sd.mp h;rw[TX];exact gL a
def fW:List Ap->List Nat
 |[]=>[]
 |.O i::r=>i::fW r
 |_::r=>fW r
def tP:List Ap->List Nat
 |[]=>[]
 |.Bo i::r=>i::tP r
 |_::r=>tP r
theorem i0:∀{ps:List Ap} {i j:Nat},ps[j]?=some (.O i)->i∈fW ps
 |[],_,_,h=>by cases h
 | p::r,i,j,h=>by
   cases j with
   |zero=>cases h;exact RG
   |succ j=>
     have:=i0 (ps:=r) (j:=j) (by simpa using h)
     cases p <;> first | exact this | exact on _ this
theorem oy:∀{ps:List Ap} {i:Nat},i∈fW ps->∃j,iW ps i=some j
 |[],_,h=>by cases h
 | p::r,i,h=>by
   unfold iW;by_cases e:p= .O i
   ·exact⟨0,by rw[RF e]⟩
   · rw[RE e]
     have:i∈fW r:=by
      cases p with
      |O k=>
        rcases RO.mp h with z|z
        ·exact absurd (by rw[z]) e
        ·exact z
      |_=>exact h
     obtain⟨j,a⟩:=oy this;exact⟨j+1,by rw[a];rfl⟩
theorem uA:∀{ps:List Ap} {i j:Nat},ps[j]?=some (.Bo i)->i∈tP ps
 |[],_,_,h=>by cases h
 | p::r,i,j,h=>by
   cases j with
   |zero=>cases h;exact RG
   |succ j=>
     have:=uA (ps:=r) (j:=j) (by simpa using h)
     cases p <;> first | exact this | exact on _ this
theorem qI:∀{ps:List Ap} {i j k:Nat},(fW ps).Nodup->ps[j]?=some (.O i)->ps[k]?=some (.O i)->j=k
 |[],_,_,_,_,h,_=>by cases h
 | p::r,i,j,k,nd,c,b=>by
   cases j with
   |zero=>
     cases k with
     |zero=>rfl
     |succ k=>
       cases c;exact absurd (i0 (ps:=r) (j:=k) (by simpa using b)) (RZ.mp nd).1
   |succ j=>
     cases k with
     |zero=>
       cases b;exact absurd (i0 (ps:=r) (j:=j) (by simpa using c)) (RZ.mp nd).1
     |succ k=>
       have a:(fW r).Nodup:=by
        cases p with
        |O x=>exact(RZ.mp nd).2
        |_=>exact nd
       rw[qI a (j:=j) (k:=k) (by simpa using c) (by simpa using b)]
theorem jK:∀{ps:List Ap} {j:Nat} {a T:L4},(d7 ps j a T).length=T.length
 |[],_,_,_=>rfl
 | p::r,j,a,T=>by
   cases p with
   |O i=>rw[d7,jK,SH]
   |F=>rw[d7,jK];all_goals simp
   |U=>rw[d7,jK];all_goals simp
   |X=>rw[d7,jK];all_goals simp
   |Bo i=>rw[d7,jK];all_goals simp
theorem rm:∀{ps:List Ap} {b:Nat} {a T:L4} {i:Nat},(fW ps).Nodup->i<T.length->rg (d7 ps b a T) i=match iW ps i with|some j=>rg a (b+j)|none=>rg T i
 |[],_,_,_,_,_,_=>rfl
 | p::r,b,a,T,i,nd,hi=>by
   have step:∀G:L4,G.length=T.length->(fW r).Nodup->(p≠ .O i)->rg G i=rg T i->rg (d7 r (b+1) a G) i=match iW (p::r) i with|some j=>rg a (b+j)|none=>rg T i:=λG g d hp e=>by
    rw[rm d (by rw[g];exact hi),iW,RE hp];cases iW r i with
    |none=>exact e
    |some j=>
      show rg a (b+1+j)=rg a (b+(j+1));rw[show b+1+j=b+(j+1) by omega]
   cases p with
   |O k=>
     rw[d7];by_cases e:k=i
     · subst e
       have f:iW r k=none:=by
        cases q:iW r k with
        |none=>rfl
        |some j=>exact absurd (i0 (gL q)) (RZ.mp nd).1
       rw[rm (RZ.mp nd).2 (by rw[SH];exact hi),f,iW,RF rfl,iU,RF ⟨rfl,hi⟩];rfl
     ·exact step _ (SH ..) (RZ.mp nd).2 (λz=>e (by cases z;rfl)) (by rw[iU,RE λz=>e z.1])
   |F=>rw[d7];exact step T rfl nd (λz=>by cases z) rfl;all_goals simp
   |U=>rw[d7];exact step T rfl nd (λz=>by cases z) rfl;all_goals simp
   |X=>rw[d7];exact step T rfl nd (λz=>by cases z) rfl;all_goals simp
   |Bo k=>rw[d7];exact step T rfl nd (λz=>by cases z) rfl;all_goals simp
def PB(ms:List Md):Ap->Md->Prop
 |.F,.F=>True
 |.F,.R=>True
 |.U,.R=>True
 |.Bo _,.R=>True
 |.O i,.O s=>ms.getD i .F= .O s
 |_,_=>False
def fitM(ms:List Md):List Ap->List Md->Prop
 |[],[]=>True
 |p::ps,m::r=>PB ms p m/\fitM ms ps r
 |_,_=>False
theorem fitM.len:∀{ps:List Ap} {mc:List Md},fitM ms ps mc->ps.length=mc.length
 |[],[],_=>rfl
 |[],_::_,h=>h.elim
 |_::_,[],h=>h.elim
 |p::ps,m::r,h=>by rw[RL,RL,fitM.len h.2]
theorem fitM.get:∀{ps:List Ap} {mc:List Md} {j:Nat} {p:Ap},fitM ms ps mc->ps[j]?=some p->PB ms p (mc.getD j .F)
 |[],_,_,_,_,e=>by cases e
 |_::_,[],_,_,h,_=>h.elim
 | p::ps,m::r,j,q,h,e=>by
   cases j with
   |zero=>cases e;exact h.1
   |succ j=>rw[TN];exact fitM.get (j:=j) h.2 (by simpa using e)
theorem lU{mc:List Md}{a:L4}{j:Nat}{s:Sh}(h:mc.getD j .F= .O s):rg (gr mc a) j=rg a j:=by
 have b:j<mc.length:=by
  by_cases z:j<mc.length
  ·exact z
  ·rw[Sa,R6 (by omega)]at h;cases h
 unfold gr;show((((List.range mc.length).map _)[j]?).join)=_;rw[List.getElem?_map,List.getElem?_range b];show(some (match mc.getD j .F with | .O _=>rg a j|_=>none)).join=_;rw[h];rfl
open Classical in
theorem vR{g:List Md}{Kr:KT D V}{fm:List D->Out D}{ps:List Ap}{ds:List D}{vs:List V}{Q:VK}(R:Rel Y ms B U As Z H T)(A:Ag Y B U H Z T ps ds vs)(hf:fitM ms ps g)(hd:(fW ps).Nodup)
 (hb:∀i∈tP ps,i∉fW ps) (hU:∀d v B U M H N,Kr d v B U H N->Kr d v B M H N) (P:Mo Y Kr E ms B U Z (fg ps fm ds T) Q):dO Y g Kr fm vs H Q E:=by
 have hlen:=A.len;have hl:=hf.len
 have I:∀{i j:Nat},ps[j]?=some (.O i)->∃d v s,ds[j]?=some d/\vs[j]?=some v/\rg Z i=some v/\rg T i=some d/\g.getD j .F= .O s/\ms.getD i .F= .O s:=λ{i j} e=>by
  obtain⟨d,v,ed,ev,r⟩:=A.get e;have q:=hf.get e;cases y:g.getD j .F with
  |O s=>rw[y]at q;exact⟨d,v,s,ed,ev,r.1,r.2,rfl,q⟩
  |F=>rw[y]at q;exact q.elim
  |R=>rw[y]at q;exact q.elim
 have FPd:∃Uc:Hp,(∀a,(∃j i:Nat,ps[j]?=some (.O i)/\a∈As i)->Uc a=none)/\(∀a,(¬ ∃j i:Nat,ps[j]?=some (.O i)/\a∈As i)->Uc a=H a):=
  ⟨λa=>if (∃j i:Nat,ps[j]?=some (.O i)/\a∈As i) then none else H a,λa h=>RF h,λa h=>RE h⟩
 obtain⟨Uc,uc1,uc2⟩:=FPd
 have notFP:∀{a o},U a=some o->¬ ∃j i:Nat,ps[j]?=some (.O i)/\a∈As i:=λ{a o} q ⟨j,i,_,f⟩=>by
  rw[R.un i a f]at q;cases q
 have m:Same U Uc:=λa o q=>by rw[uc2 a (notFP q)];exact R.uh a o q
 have ucH:Same Uc H:=λa o q=>by
  by_cases z:∃j i:Nat,ps[j]?=some (.O i)/\a∈As i
  ·rw[uc1 a z]at q;cases q
  ·rw[uc2 a z]at q;exact q
 -- what is owned and not fW
 have other:∀{i a},i∉fW ps->a∈As i->∃o,Uc a=some o/\H a=some o:=λ{i a} hi f=>by
  obtain⟨o,q⟩:=R.at f;refine⟨o,?_,q⟩;rw[uc2 a]
  ·exact q
  · rintro⟨j,k,ek,x⟩;by_cases e:k=i
    ·subst e;exact hi (i0 ek)
    ·exact R.dj k i a e x f
 have Rc:Rel Y g B Uc (λj=>match ps[j]? with|some (.O i)=>As i|_=>[]) (vs.map some) H (ds.map some):=by
  refine⟨R.bu.trans m,ucH,λj=>?_,λj k a hne f x=>?_,λj a f=>?_,λj=>?_,by rw[RH,RH,hlen.1,hlen.2],R.tb⟩
  · try dsimp only
    split
    ·exact R.nd _
    ·exact Sy
  · try dsimp only at f x
    split at f
    · rename_i i e1;split at x
      · rename_i i' e2;by_cases e:i=i'
        ·subst e;exact hne (qI hd e1 e2)
        ·exact R.dj i i' a e f x
      ·cases x
    ·cases f
  · try dsimp only at f
    split at f
    ·rename_i i e1;exact uc1 a ⟨j,i,e1,f⟩
    ·cases f
  · rw[eJ,eJ];cases e:ps[j]? with
    |none=>
      have:ps.length<=j:=SI.mp e
      rw[R6 (by omega)];rfl
    |some p=>
      obtain⟨d,v,ed,ev,r⟩:=A.get e;rw[ed,ev];refine⟨v,rfl,?_⟩;have q:=hf.get e;cases p with
      |F=>
        have r:Dn Y B d v:=r;cases y:g.getD j .F with
        |F=>exact⟨r,rfl⟩
        |R=>exact⟨Dn.mono (R.bu.trans m) r,rfl⟩
        |O s=>rw[y]at q;exact q.elim
      |U=>
        have r:Dn Y U d v:=r;cases y:g.getD j .F with
        |F=>rw[y]at q;exact q.elim
        |R=>exact⟨Dn.mono m r,rfl⟩
        |O s=>rw[y]at q;exact q.elim
      |X=>cases y:g.getD j .F<;>(rw[y]at q;exact q.elim)
      |Bo i=>
        cases y:g.getD j .F with
        |F=>rw[y]at q;exact q.elim
        |O s=>rw[y]at q;exact q.elim
        |R=>
          refine⟨?_,rfl⟩;have l:=R.lo i;rw[r.2]at l;have w:=ii l r.1;cases e2:ms.getD i .F with
          |F=>rw[e2]at w;exact Dn.mono (R.bu.trans m) w.1
          |R=>rw[e2]at w;exact Dn.mono m w.1
          |O s=>
            rw[e2]at w;refine Ow.dn (R.bu.trans m) (λa f o q=>?_) w;obtain⟨o',W,q2⟩:=other (hb i (uA e)) f;rw[q2]at q;cases q;exact W
      |O i=>
        obtain⟨d',v',s,ed',ev',K,h3,h4,h5⟩:=I e;rw[h4];have l:=R.lo i;rw[r.2,h5]at l;exact ii l r.1
 refine⟨B,Uc,_,ds,Rc,by omega,?_⟩
 have main:∀{S M H':Hp} {J:Nat->List Addr} {L:L4},Rel Y g S M J (vs.map some) H' (gr g L)->Ex B Uc S M->
  Rel Y ms S (ov S U) (λi=>match iW ps i with|some j=>J j|none=>As i) Z H' (d7 ps 0 L T)/\Ex B U S (ov S U)/\∀N,NewM N M J->NewM N (ov S U) (λi=>match iW ps i with|some j=>J j|none=>As i):=λ{S M H' J L} t C=>by
  have su:Same U (ov S U):=λa o q=>by
   unfold ov;cases z:S a with
   |none=>exact q
   |some o'=>
     have r:=C.u a o (m a o q);have K:=t.bu a o' z;rw[r]at K;cases K;rfl
  have uh:Same (ov S U) H':=λa o q=>by
   unfold ov at q;cases z:S a with
   |none=>rw[z]at q;exact t.uh a o (C.u a o (m a o q))
   |some o'=>rw[z]at q;cases q;exact t.bh a _ z
  have bu:Same S (ov S U):=λa o q=>by unfold ov;rw[q]
  have free:∀{a},M a=none->ov S U a=none:=λ{a} h=>by
   unfold ov;cases z:S a with
   |none=>exact m.free (C.u.free h)
   |some o=>have:=t.bu a o z;rw[h]at this;cases this
  have there:∀{i a},iW ps i=none->a∈As i->∃o,M a=some o/\H a=some o/\H' a=some o:=λ{i a} hi f=>by
   obtain⟨o,W,q2⟩:=other (λz=>by obtain⟨j,hj⟩:=oy z;rw[hi]at hj;cases hj) f;exact⟨o,C.u a o W,q2,t.uh a o (C.u a o W)⟩
  refine⟨⟨bu,uh,λi=>?_,λi k a hne f x=>?_,λi a f=>?_,λi=>?_,by rw[jK];exact R.len,t.tb⟩,⟨C.b,su,λa o q=>?_⟩,λN n=>⟨n.nd,λa f=>free (n.un a f),λa f i=>?_⟩⟩
  · try dsimp only
    split
    ·exact t.nd _
    ·exact R.nd _
  · try dsimp only at f x
    split at f
    · rename_i j ej;split at x
      ·rename_i j' ej';refine t.dj j j' a (λz=>hne ?_) f x;subst z;have r:=gL ej;have K:=gL ej';rw[r]at K;cases K;rfl
      ·rename_i ek;obtain⟨o,q,_⟩:=there ek x;rw[t.un j a f]at q;cases q
    · rename_i ei;obtain⟨o,q,_⟩:=there ei f;split at x
      ·rename_i j' ej';rw[t.un j' a x]at q;cases q
      ·exact R.dj i k a hne f x
  · try dsimp only at f
    split at f
    ·rename_i j ej;exact free (t.un j a f)
    · rename_i ei;obtain⟨o,q,_⟩:=there ei f;unfold ov;cases z:S a with
      |none=>exact R.un i a f
      |some o'=>
        rcases C.nb a o' z with w|w|w
        ·have:=R.bu a o' w;rw[R.un i a f]at this;cases this
        ·obtain⟨o2,W,q2⟩:=other (λz=>by obtain⟨j,hj⟩:=oy z;rw[ei]at hj;cases hj) f;rw[w]at W;cases W
        ·obtain⟨o2,_,q2,q3⟩:=there ei f;rw[t.bh a o' z]at q3;cases q3;exact(R.nt f q2 w).elim
  · try dsimp only
    cases ep:iW ps i with
    |some j=>
      obtain⟨d,v,s,ed,ev,K,h3,h4,h5⟩:=I (gL ep)
      have hi:i<T.length:=by
       have:=fj h3
       exact(R5.mp this).1
      rw[rm hd hi,ep]
      try dsimp only
      have l:=t.lo j;rw[lU h4,eJ,ev,h4]at l;rw[K,h5,Nat.zero_add];exact l
    |none=>
      try dsimp only
      by_cases hi:i<T.length
      ·rw[rm hd hi,ep];refine(R.lo i).mono C.b su λa f=>?_;obtain⟨o,_,W,q2⟩:=there ep f;rw[W,q2]
      · have r:rg (d7 ps 0 L T) i=none:=by
         unfold rg;rw[List.getElem?_eq_none (by rw[jK];omega)];rfl
        have K:rg T i=none:=by
         unfold rg;rw[List.getElem?_eq_none (by omega)];rfl
        have l:=R.lo i;rw[K]at l;rw[r];exact l
  · rcases C.nb a o q with w|w|w
    ·exact .inl w
    ·exact .inr (.inl (m.free w))
    ·exact .inr (.inr w)
  · try dsimp only
    cases ep:iW ps i with
    |some j=>exact n.ap a f j
    |none=>
      intro z;obtain⟨o,q,_⟩:=there ep z;rw[n.un a f]at q;cases q
 cases e:fm ds with
 |ok d G=>
   unfold fg at P;rw[e]at P;intro v S M J H' N t C n' k;obtain⟨R2,e2,n2⟩:=main t C;exact P v S _ _ H' N R2 e2 (n2 N n') (hU d v S M (ov S U) H' N k)
 |exc c G=>
   unfold fg at P;rw[e]at P;intro S M J H' t C;obtain⟨R2,e2,n2⟩:=main t C;exact P S _ _ H' R2 e2
 |bad=>
   unfold fg at P;rw[e]at P;exact P
end
def fV(c:Nat)(a:List D->Out D)(ds:List D):Res D:=match a (.obj c [] []::ds) with
 |.ok .non G=>(match rg G 0 with|some d=>.ok d|none=>.bad)
 |.ok _ _=>.bad
 |.exc c _=>.exc c
 |.bad=>.bad
section
variable{Y:Cm}{E:XK}{ms:List Md}{B U H:Hp}{As:Nat->List Addr}{Z:St}{T:L4}{K:F0}
theorem D3{a:List Md}{b:KT D V}{f:List D->Out D}{ps:List Ap}{t:TA}{m:L4->Res (List D)}(h:AJ Y E ms ps t m)(k:fitM ms ps a)(hd:(fW ps).Nodup)(l:∀i∈tP ps,i∉fW ps)
 (n:∀d v B U M H N,b d v B U H N->b d v B M H N):MJ Y b E ms (l8 (dO Y a b f) [] E t) (λT=>((m T).up T).bind (fg ps f)):=by
 intro B U As Z H T Q R P;replace P:Mo Y b E ms B U Z (((m T).up T).bind (fg ps f)) Q:=P;refine h B U As Z H T _ R ?_;cases e:m T with
 |ok ds=>
   rw[e]at P;intro vs I U1 L N j g o A;rw[Sk];exact vR j A k hd l n (Mo.at (r:=fg ps f ds T) P g.toEx)
 |exc c=>rw[e]at P;exact λI U1 L j g=>P I U1 As L j g.toEx
 |bad=>rw[e]at P;exact P
theorem LS{c:Nat}{g:Str}{f:List Md}{b:KT D V}{j:List D->Out D}{p:Ap}{ps:List Ap}{u:TE}{k:L4->Res D}{t:TA}{m:L4->Res (List D)}(J:A1J Y E ms p u k)(h:AJ Y E ms ps t m)(F:fitM ms (p::ps) f)(hd:(fW (p::ps)).Nodup)
 (G:∀i∈tP (p::ps),i∉fW (p::ps)) (K:∀d v B U M H N,b d v B U H N->b d v B M H N):
 MJ Y b E ms (kB (Y c) g (dO Y f b j) [] E u t) (λT=>((k T).up T).bind λo T=>if cA c g o=true then ((m T).up T).bind λds T=>fg (p::ps) j (o::ds) T else .bad):=by
 intro B U As Z H T Q R P;replace P:Mo Y b E ms B U Z (((k T).up T).bind λo T=>if cA c g o=true then ((m T).up T).bind λds T=>fg (p::ps) j (o::ds) T else .bad) Q:=P;refine J B U As Z H T _ R ?_;cases e:k T with
 |ok o=>
   rw[e]at P;intro v I U1 L N q n X w;replace P:Mo Y b E ms B U Z (if cA c g o=true then ((m T).up T).bind λds T=>fg (p::ps) j (o::ds) T else .bad) Q:=P;by_cases z:cA c g o=true
   · rw[RF z]at P;obtain⟨a,dx,fs,rfl,S,O⟩:=qH z (A1.read q w);refine⟨a,dx,fs,rfl,S,O,h I U1 As Z L T _ q ?_⟩;cases s:m T with
     |ok ds=>
       rw[s]at P;intro vs C x y N2 R2 l W A;rw[Sk];exact vR (ps:=p::ps) (ds:=o::ds) R2 ⟨o,ds,_,vs,rfl,rfl,w.mono l,A⟩ F hd G K (Mo.at (r:=fg (p::ps) j (o::ds) T) P (n.toEx.trans l.toEx))
     |exc c=>rw[s]at P;exact λC x y R2 l=>P C x As y R2 (n.toEx.trans l.toEx)
     |bad=>rw[s]at P;exact P
   ·rw[RE z]at P;exact P.elim
 |exc c=>rw[e]at P;exact λI U1 L q n=>P I U1 As L q n.toEx
 |bad=>rw[e]at P;exact P
theorem GF{c:Nat}{sh:List (Str×Sh)}{f:List Md}{fm:List D->Out D}{ps:List Ap}{ds:List D}{vs:List V}{Q:VK}(R:Rel Y ms B U As Z H T)(A:Ag Y B U H Z T ps ds vs)(hl:ps.length+1=f.length)(h0:f.getD 0 .F= .O (.ob sh))
 (hf:∀(j:Nat) p,ps[j]?=some p->sD ms true p (f.getD (j+1) .F)=true) (P:Po Y (KO Y (.ob sh)) E ms B U As Z H T (fV c fm ds) Q) (x dx:Addr) (hx:H x=none) (hdx:H dx=none) (hne:dx≠x):
 dO Y f (KR Y .F) fm (.ref x::vs) (upd (upd H dx (.own x)) x (.ins (Y c) dx [])) (λv H2=>v=.non/\Q (.ref x) H2) E:=by
 have I:=A.len;have sH:Same H (upd (upd H dx (.own x)) x (.ins (Y c) dx [])):=Gd.uc hx (Gd.cz hdx);have hUc:∃y:Hp,y x=none/\∀a,a≠x->y a=upd (upd H dx (.own x)) x (.ins (Y c) dx []) a:=⟨λa=>if a=x then none else upd (upd H dx (.own x)) x (.ins (Y c) dx []) a,RF rfl,λa h=>RE h⟩;obtain⟨y,u1,u2⟩:=hUc;have n:Same H y:=λa o q=>by rw[u2 a (bf q hx)];exact sH a o q
 have ucH:Same y (upd (upd H dx (.own x)) x (.ins (Y c) dx [])):=λa o q=>by
  by_cases z:a=x
  ·subst z;rw[u1]at q;cases q
  ·rw[u2 a z]at q;exact q
 have r:∀{a},y a=none->H a=none:=λh=>n.free h
 have Rc:Rel Y f B y (λj=>match j with|0=>[x]|_+1=>[]) ((.ref x::vs).map some) (upd (upd H dx (.own x)) x (.ins (Y c) dx [])) ((.obj c [] []::ds).map some):=by
  refine⟨R.bh.trans n,ucH,λj=>?_,λj k a L g hk=>?_,λj a g=>?_,λj=>?_,by rw[RH,RH,RL,RL,I.1,I.2],R.tb⟩
  · cases j with
    |zero=>simp
    |succ j=>exact Sy
  · cases j with
    |zero=>
      cases k with
      |zero=>exact L rfl
      |succ k=>cases hk
    |succ j=>cases g
  · cases j with
    |zero=>rw[RV.mp g];exact u1
    |succ j=>cases g
  · rw[eJ,eJ];cases j with
    |zero=>
      rw[h0];refine⟨.ref x,rfl,?_⟩;show Ow Y B _ (.obj c [] []) (.ob sh) (.ref x) [x];rw[Ow];exact⟨x,dx,[],[],rfl,aY,rfl,rfl,by rw[Owf];exact⟨rfl,rfl⟩⟩
    |succ j=>
      rw[TX,TX];cases e:ps[j]? with
      |none=>
        have:ps.length<=j:=SI.mp e
        rw[R6 (by omega)];rfl
      |some p=>
        obtain⟨d,v,ed,ev,h1⟩:=A.get e;rw[ed,ev];refine⟨v,rfl,?_⟩;have hr:=A1.read R h1;have q:=hf j p e;cases em:f.getD (j+1) .F with
        |F=>
          rw[em]at q;cases p with
          |F=>exact⟨h1,rfl⟩
          |_=>cases q
        |R=>exact⟨Dn.mono n hr,rfl⟩
        |O s=>rw[em]at q;cases p<;>cases q
 refine⟨B,y,_,.obj c [] []::ds,Rc,by rw[RL];omega,?_⟩
 have C:∀{S M H':Hp} {J:Nat->List Addr} {K:L4},Rel Y f S M J ((.ref x::vs).map some) H' K->Ex B y S M->Rel Y ms S (ov S U) As Z H' T/\Gw B U H S (ov S U) H'/\∀a,M a=none->ov S U a=none:=λ{S M H' J K} m t=>by
  have sU:Same U M:=(R.uh.trans n).trans t.u
  have su:Same U (ov S U):=λa o q=>by
   unfold ov;cases z:S a with
   |none=>exact q
   |some o'=>
     have h1:=sU a o q;have h2:=m.bu a o' z;rw[h1]at h2;cases h2;rfl
  have sh:Same H H':=(n.trans t.u).trans m.uh
  have uh:Same (ov S U) H':=λa o q=>by
   unfold ov at q;cases z:S a with
   |none=>rw[z]at q;exact sh a o (R.uh a o q)
   |some o'=>rw[z]at q;cases q;exact m.bh a _ z
  have bu:Same S (ov S U):=λa o q=>by unfold ov;rw[q]
  have new:∀a o,S a=some o->B a=some o\/H a=none\/dY o:=λa o q=>(t.nb a o q).imp id λz=>z.imp r id;refine⟨R.grow t.b su sh bu uh λi a g=>?_,⟨⟨t.b,su,λa o q=>?_⟩,sh,λa o q=>?_⟩,λa h=>?_⟩
  · unfold ov;cases z:S a with
    |none=>exact R.un i a g
    |some o=>
      obtain⟨o',X⟩:=R.at g;rcases new a o z with q|q|q
      ·have:=R.bu a o q;rw[R.un i a g]at this;cases this
      ·rw[q]at X;cases X
      ·have e1:=sh _ _ X;rw[m.bh a o z]at e1;cases e1;exact(R.nt g X q).elim
  · rcases new a o q with q|q|q
    ·exact .inl q
    ·exact .inr (.inl (R.uh.free q))
    ·exact .inr (.inr q)
  · unfold ov at q;cases z:S a with
    |none=>rw[z]at q;exact .inl q
    |some o'=>
      rw[z]at q;cases q;rcases new a _ z with q|q
      ·exact .inl (R.bu a _ q)
      ·exact .inr q
  · unfold ov;cases z:S a with
    |none=>exact sU.free h
    |some o=>have:=m.bu a o z;rw[h]at this;cases this
 unfold fV at P;cases e:fm (.obj c [] []::ds) with
 |ok d G=>
   rw[e]at P;intro v S M J H' N m t n' k;obtain⟨R2,g2,W⟩:=C m t;cases d with
   |non=>
     have k:Dn Y S .non v:=k;rw[Dn]at k;refine⟨k,?_⟩;replace P:Po Y (KO Y (.ob sh)) E ms B U As Z H T (match rg G 0 with|some d=>.ok d|none=>.bad) Q:=P;have l:=m.lo 0;rw[lU h0,h0]at l;cases e0:rg G 0 with
     |none=>rw[e0]at P;exact P.elim
     |some d=>
       rw[e0]at P l;have w:=ii l (v:=.ref x) rfl;exact P (.ref x) S _ H' (J 0) R2 g2 ⟨m.nd 0,λa g=>r (t.u.free (m.un 0 a g)),λa g=>W a (m.un 0 a g)⟩ w
   |_=>exact P.elim
 |exc c' G=>
   rw[e]at P;intro S M J H' m t;obtain⟨R2,g2,W⟩:=C m t;exact P S _ H' R2 g2
 |bad=>rw[e]at P;exact P
theorem KZ{c:Nat}{sh:List (Str×Sh)}{a:List Md}{e:List D->Out D}{ps:List Ap}{t:TA}{m:L4->Res (List D)}(h:AJ Y E ms ps t m)(g:ps.length+1=a.length)(h0:a.getD 0 .F= .O (.ob sh))
 (i:∀(j:Nat) p,ps[j]?=some p->sD ms true p (a.getD (j+1) .F)=true):PJ Y (KO Y (.ob sh)) E ms (Bj (Y c) (dO Y a (KR Y .F) e) [] E t) (λT=>(m T).bind (fV c e)):=by
 intro B U As Z H T Q R P;refine h.bnd R P λds vs I U1 L k l A W=>?_;intro x dx f d b;rw[Sk];exact GF k A g h0 i W x dx f d b
structure Pth (Y:Cm) (ms:List Md) (t:TE) (get:L4->Option D) (set:L4->D->L4):Prop where
 rd:∀{B U:Hp} {As:Nat->List Addr} {Z:St} {H:Hp} {T:L4} {d:D},Rel Y ms B U As Z H T->get T=some d->∃v A,(∀Q:VK,Q v H->t Z H Q)/\Ow Y B H d (.ct .fz) v A/\(∀a∈A,∃i,a∈As i)/\
  ∀I U1 L,Rel Y ms I U1 As Z L T->Same B I->Same H L->∀a∈A,∀o' d',Ow Y I (upd L a o') d' (.ct .fz) v A->Rel Y ms I U1 As Z (upd L a o') (set T d')
theorem Rel.mut(R:Rel Y ms B U As Z H T){i:Nat}{a:Addr}{o':HO}{d d':D}{v:V}{sh:Sh}(g:ms.getD i .F= .O sh)(f:rg Z i=some v)(hd:rg T i=some d)(c:a∈As i)(w:Ow Y B (upd H a o') d' sh v (As i)):
 Rel Y ms B U As Z (upd H a o') (T.set i (some d')):=by
 have hi:i<T.length:=(R5.mp (fj hd)).1;refine⟨R.bu,λb u q=>?_,R.nd,R.dj,R.un,λj=>?_,by rw[SH];exact R.len,R.tb⟩
 ·rw[aS (bf q (R.un i a c))];exact R.uh b u q
 · rw[iU];by_cases e:i=j
   ·subst e;rw[RF ⟨rfl,hi⟩,g];exact⟨v,f,w⟩
   ·rw[RE λz=>e z.1];exact(R.lo j).mono (Same.refl _) (Same.refl _) λb h=>aS (λz:b=a=>R.dj i j a e c (z▸h))
def nG(i:Nat):L4->Option D:=λT=>rg T i
def jA(i:Nat):L4->D->L4:=λT d=>T.set i (some d)
theorem zW{i:Nat}(f:ms.getD i .F= .O (.ct .fz)):Pth Y ms (eT i) (nG i) (jA i) where
 rd:=λ{B U As Z H T d} R e=>by
  replace e:rg T i=some d:=e;have l:=R.lo i;rw[e,f]at l;obtain⟨v,c,w⟩:=l;exact⟨v,As i,λQ q=>⟨v,fj c,q⟩,w,λa b=>⟨i,b⟩,λI U1 L h _ _ a b o' d' g=>h.mut f c e b g⟩
theorem Owf.upd{sh:List (Str×Sh)}{f:Str}{B H:Hp}:∀{fs:List (Str×V)} {ds:List D} {A:List Addr} {d:D},Owf Y B H ds (fs.map (·.1)) sh (fs.map (·.2)) A->A.Nodup->cP (fs.map (·.1)) ds f=some d->
 ∃v A1,fs.lookup f=some v/\Ow Y B H d ((sh.lookup f).getD .fz) v A1/\(∀a∈A1,a∈A)/\∀I L d',Same B I->(∀b∈A,b∉A1->L b=H b)->Ow Y I L d' ((sh.lookup f).getD .fz) v A1->Owf Y I L (fN (fs.map (·.1)) ds f d') (fs.map (·.1)) sh (fs.map (·.2)) A
 |[],ds,A,d,h,nd,e=>by cases ds<;>cases e
 | p::fs,ds,A,d,h,nd,e=>by
   cases ds with
   |nil=>cases e
   |cons N ds=>
     rw[List.map_cons,List.map_cons,Owf]at h;obtain⟨n,E,x,r,s,y,J,h0,K,o,u⟩:=h;cases J;cases h0;subst K;obtain⟨F,j,g⟩:=List.nodup_append.mp nd;rw[List.map_cons]at e;unfold cP at e;by_cases q:p.1=f
     ·rw[RF q]at e;cases e;rw[q]at o;refine⟨p.2,s,by rw[Sx,<-q,SW],o,λa m=>RX _ m,λI L d' i k w=>?_⟩;rw[RJ,RJ,fN,RF q,Owf];exact⟨p.1,_,p.2,_,s,y,rfl,rfl,rfl,by rw[q];exact w,Owf.mono i (λb c=>k b (RN _ c) λz=>g b z b c rfl) u⟩
     ·rw[RE q]at e;obtain⟨v,A1,G,C,t,M⟩:=Owf.upd u j e;have c:(f==p.1)=false:=Sr.mpr λz=>q z.symm;refine⟨v,A1,by rw[Sx,c];exact G,C,λa m=>RN _ (t a m),λI L d' i k w=>?_⟩;rw[RJ,RJ,fN,RE q,Owf];exact⟨p.1,_,p.2,_,s,y,rfl,rfl,rfl,Ow.mono i (λb c=>k b (RX _ c) λz=>g b c b (t b z) rfl) o,M I L d' i (λb c l=>k b (RN _ c) l) w⟩
def i7(c:Nat)(f:Str)(i:Nat):L4->Option D:=λT=>match rg T i with
 |some (.obj a ns vs)=>if a=c then cP ns vs f else none
 |_=>none
def iM(f:Str)(i:Nat):L4->D->L4:=λT d=>match rg T i with
 |some (.obj c ns vs)=>T.set i (some (.obj c ns (fN ns vs f d)))
 |_=>T
theorem mS{c:Nat}{f:Str}{i:Nat}{sh:List (Str×Sh)}(hc:Cls K (Y c))(X:NoAttr K (Y c) f)(G:ms.getD i .F= .O (.ob sh))(J:(sh.lookup f).getD .fz=.ct .fz):Pth Y ms (zH K (eT i) f) (i7 c f i) (iM f i) where
 rd:=λ{B U As Z H T d} R e=>by
  have l:=R.lo i;unfold i7 at e;cases g:rg T i with
  |none=>rw[g]at e;cases e
  |some d0=>
    cases d0 with
    |obj m ns vs=>
      rw[g]at e;replace e:(if m=c then cP ns vs f else none)=some d:=e;by_cases q:m=c
      · subst q;rw[RF rfl]at e;rw[g,G]at l;obtain⟨v,D,w⟩:=l;have A:Ow Y B H (.obj m ns vs) (.ob sh) v (As i):=w;rw[Ow]at A;obtain⟨a,dx,xs,A',rfl,N,h2,k,M⟩:=A;subst h2;have nd:=R.nd i;rw[k]at nd;obtain⟨p,n⟩:=RZ.mp nd;obtain⟨u,A1,W,C,x,cl⟩:=Owf.upd M n e;rw[J]at C;refine⟨u,A1,λQ q=>⟨.ref a,fj D,a,_,dx,xs,u,rfl,N,hc,X,W,q⟩,C,λb j=>⟨i,by rw[k];exact on _ (x b j)⟩,λI U1 L R1 S h b j o' d' P=>?_⟩;have t:b∈As i:=by rw[k];exact on _ (x b j)
        have:iM f i T d'=T.set i (some (.obj m (xs.map (·.1)) (fN (xs.map (·.1)) vs f d'))):=by unfold iM;rw[g]
        rw[this];refine R1.mut G D g t ?_;rw[k,Ow];have r:a≠b:=λz=>p (by rw[z];exact x b j);refine⟨a,dx,xs,A',rfl,by rw[aS r];exact h _ _ N,rfl,rfl,cl I _ d' S (λy V s=>?_) (by rw[J];exact P)⟩
        have:y≠b:=λz=>s (by rw[z];exact j)
        rw[aS this];obtain⟨o,E⟩:=Owf.at M V;rw[E,h _ _ E]
      ·rw[RE q]at e;cases e
    |_=>rw[g]at e;cases e
def w6(set:L4->D->L4)(T:L4):Option (D×List D)->Out D
 |some (d,es)=>.ok d (set T (.lst es))
 |none=>.bad
def GN(set:L4->D->L4)(f:List D->D->Option (D×List D))(T:L4)(xs:List D):Res D->Out D
 |.ok x=>w6 set T (f xs x)
 |.exc c=>.exc c T
 |.bad=>.bad
def mU(get:L4->Option D)(set:L4->D->L4)(f:List D->D->Option (D×List D))(a:L4->Res D):L4->Out D:=λT=>match get T with
 |some (.lst xs)=>GN set f T xs (a T)
 |_=>.bad
theorem Ow.lst{d:D}{v:V}{A:List Addr}{ds:List D}(w:Ow Y B H d (.ct .fz) v A)(e:d=.lst ds):∃a xs,v=.ref a/\H a=some (.lst xs)/\A=[a]/\Dns Y B ds xs:=by
 subst e;rw[Ow]at w;obtain⟨a,xs,i,r,h,g,f⟩:=w;obtain⟨c,b⟩:=Ows.fz f;exact⟨a,xs,r,h,by rw[g,b],c⟩
theorem Ow.lst'{a:Addr}{ds:List D}{xs:List V}(h:H a=some (.lst xs))(d:Dns Y B ds xs):Ow Y B H (.lst ds) (.ct .fz) (.ref a) [a]:=by
 rw[Ow];exact⟨a,xs,[],rfl,h,rfl,Ows.of d⟩
section
variable{t:TE}{get:L4->Option D}{set:L4->D->L4}
theorem I0{k:Kd}{r:V->List V->Hp->VK->Prop}{f:List D->D->Option (D×List D)}{te:TE}{j:L4->Res D}(p:Pth Y ms t get set)(C:PJ Y (KR Y k) E ms te j)
 (z:∀(B U H:Hp) (a:Addr) (ds:List D) (xs:List V) (x:D) (u:V) (d:D) (es:List D) (Q:VK),Same B U->Same U H->H a=some (.lst xs)->Dns Y B ds xs->Dn Y (hp k B U H) x u->f ds x=some (d,es)->(∀v ys,Dn Y B d v->Dns Y B es ys->Q v (upd H a (.lst ys)))->r (.ref a) [u] H Q):
 MJ Y (KR Y .F) E ms (HF K "list" r t (bS te dE)) (mU get set f j):=by
 intro B U As Z H T Q R P;unfold mU at P;cases e:get T with
 |none=>rw[e]at P;exact P.elim
 |some M=>
   cases M with
   |lst ds=>
     rw[e]at P;replace P:Mo Y (KR Y .F) E ms B U Z (GN set f T ds (j T)) Q:=P;obtain⟨v,A,y,w,W,O⟩:=p.rd R e;obtain⟨a,xs,rfl,n,rfl,G⟩:=w.lst rfl;refine y _ ⟨.inl ⟨rfl,xs,SqL.of n⟩,C B U As Z H T _ R ?_⟩;cases l:j T with
     |ok x=>
       rw[l]at P;replace P:Mo Y (KR Y .F) E ms B U Z (w6 set T (f ds x)) Q:=P;intro u I U1 L N i g S s;cases m:f ds x with
       |none=>rw[m]at P;exact P.elim
       |some J=>
         obtain⟨d,es⟩:=J;rw[m]at P;refine z I U1 L a ds xs x u d es Q i.bu i.uh (g.h _ _ n) (G.mono g.b) s m λv ys q o=>?_;exact P v I U1 As _ [] (O I U1 L i g.b g.h a RG _ _ (Ow.lst' aY o)) g.toEx NewM.nil q
     |exc c=>rw[l]at P;exact λI U1 L i g=>P I U1 As L i g.toEx
     |bad=>rw[l]at P;exact P.elim
   |_=>rw[e]at P;exact P.elim
def jg(xs:List D)(x:D):Option (D×List D):=if xs.length<aj then some (.non,xs++[x]) else none
theorem oj{te:TE}{c:L4->Res D}(p:Pth Y ms t get set)(h:PJ Y (KR Y .F) E ms te c):MJ Y (KR Y .F) E ms (HF K "list" kL t (bS te dE)) (mU get set jg c):=
 I0 (f:=jg) p h λB U H a ds xs x u d es Q _ _ i e g b k=>by
  unfold jg at b;by_cases z:ds.length<aj
  ·rw[RF z]at b;cases b;exact⟨a,xs,u,rfl,rfl,i,dJ (SF (by rw[<-e.len];exact z)),k .non _ (by rw[Dn]) (e.append (Dns.one g))⟩
  ·rw[RE z]at b;cases b
def CB(xs:List D)(x:D):Option (D×List D):=match x with
 |.int i=>if 0<=i/\i<xs.length/\xs.length<=aj then xs[i.toNat]?.map λd=>(d,xs.eraseIdx i.toNat) else none
 |_=>none
theorem GH{te:TE}{g:L4->Res D}(p:Pth Y ms t get set)(n:PJ Y (KR Y .X) E ms te g):MJ Y (KR Y .F) E ms (HF K "list" Cj t (bS te dE)) (mU get set CB g):=
 I0 (f:=CB) p n λB U H a ds xs x u d es Q _ _ o e c b k=>by
  cases x with
  |int i=>
    have c:Dn Y H (.int i) u:=c;rw[Dn]at c;subst c;replace b:(if 0<=i/\i<ds.length/\ds.length<=aj then ds[i.toNat]?.map λd=>(d,ds.eraseIdx i.toNat) else none)=some (d,es):=b;by_cases z:0<=i/\i<ds.length/\ds.length<=aj
    ·rw[if_pos z]at b;obtain⟨y,q,r⟩:=Option.map_eq_some_iff.mp b;cases r;obtain⟨w,m,s⟩:=e.get q;obtain⟨l,j,h⟩:=z;unfold aj at h;refine⟨a,xs,i,i.toNat,w,rfl,rfl,o,by omega,by omega,?_,m,k w _ s (e.erase _)⟩;refine(sj ?_).1;unfold kU;rw[if_pos l,if_pos (by rw[<-e.len];exact j)]
    ·rw[RE z]at b;cases b
  |_=>cases b
def vU(i:Nat)(x:D)(T:L4):Out D:=match rg T i with
 |some (.lst xs)=>w6 (jA i) T (jg xs x)
 |_=>.bad
def Fs(i:Nat)(a:L4->Out D):L4->Out D:=λT=>match rg T i with
 |some (.lst _)=>(a T).bind (vU i)
 |_=>.bad
theorem Ah{i:Nat}{te:TE}{f:L4->Out D}(h:ms.getD i .F= .O (.ct .fz))(r:MJ Y (KR Y .F) E ms te f):MJ Y (KR Y .F) E ms (HF K "list" kL (eT i) (bS te dE)) (Fs i f):=by
 intro B U As Z H T Q R P;unfold Fs at P;cases e:rg T i with
 |none=>rw[e]at P;exact P.elim
 |some C=>
   cases C with
   |lst ds=>
     rw[e]at P;replace P:Mo Y (KR Y .F) E ms B U Z ((f T).bind (vU i)) Q:=P;have l:=R.lo i;rw[e,h]at l;obtain⟨v,g,w⟩:=l;obtain⟨a,xs,rfl,t,_,M⟩:=Ow.lst w rfl;refine⟨.ref a,fj g,.inl ⟨rfl,xs,SqL.of t⟩,r.bnd R P λx G u I U1 j L N o S J q W=>?_⟩;have k:=o.lo i;unfold vU at W;cases b:rg G i with
     |none=>rw[b]at W;exact W.elim
     |some A=>
       cases A with
       |lst c=>
         rw[b]at W;rw[b,h,g]at k;have p:=ii k rfl;obtain⟨V,d,y,s,n,m⟩:=Ow.lst p rfl;cases y;replace W:Mo Y (KR Y .F) E ms I U1 Z (w6 (jA i) G (jg c x)) Q:=W;unfold jg at W;by_cases z:c.length<aj
         ·rw[RF z]at W;refine⟨a,d,u,rfl,rfl,s,dJ (SF (by rw[<-m.len];exact z)),?_⟩;refine W .non I U1 j _ [] (o.mut h g b (by rw[n];exact RG) ?_) (Ex.refl _ _) NewM.nil (show Dn Y I .non .non by rw[Dn]);rw[n];exact Ow.lst' aY (m.append (Dns.one q))
         ·rw[RE z]at W;exact W.elim
       |_=>rw[b]at W;exact W.elim
   |_=>rw[e]at P;exact P.elim
end
end
section
variable{Y:Cm}{E:XK}{Kr:KT D V}{pr:Nat->Bool}{ms:List Md}{B U H:Hp}{As:Nat->List Addr}{Z:St}{T:L4}{K:F0}
def uY(set:L4->D->L4)(x d:D)(T:L4):Res D->SO
 |.ok k=>(match uZ d k x with|some d'=>.nx (set T d')|none=>.bad)
 |.exc c=>.exc c T
 |.bad=>.bad
def ja(get:L4->Option D)(set:L4->D->L4)(mk:L4->Res D)(b:L4->Out D):L4->SO:=λT=>gJ (b T) λx a=>match get a with
 |some d=>uY set x d a (mk a)
 |none=>.bad
section
variable{X:Type}[DecidableEq X]
theorem nB{a:List (X×V)}{k:X}:(a.any λb=>decide (b.1=k))=dD (a.map (·.1)) k:=by
 unfold dD;rw[List.any_map];rfl
theorem uk{a:List (X×V)}{k:X}{v:V}(h:dD (a.map (·.1)) k=true):(fH a k v).map (·.1)=a.map (·.1):=by
 unfold fH;rw[nB,if_pos h,List.map_map];refine List.map_congr_left λp _=>?_;show(if p.1=k then (p.1,v) else p).1=p.1;split<;>rfl
theorem fK{a:List (X×V)}{k:X}{v:V}(h:¬ dD (a.map (·.1)) k=true):fH a k v=a++[(k,v)]:=by
 unfold fH;rw[nB,if_neg h]
theorem nJ{G:Hp}{x:D}{v:V}{k:X}(c:Dn Y G x v):∀{a:List (X×V)} {ds:List D},Dns Y G ds (a.map (·.2))->Dns Y G (lQ (a.map (·.1)) ds k x) ((a.map λb=>if b.1=k then (b.1,v) else b).map (·.2))
 |[],ds,h=>by cases ds<;>exact(by rw[List.map_nil,List.map_nil,List.map_nil];unfold lQ;rw[Dns])
 | p::a,ds,h=>by
   cases ds with
   |nil=>rw[Dns]at h;cases h
   |cons d ds=>
     rw[RJ,Dns]at h;obtain⟨y,r,e,g,f⟩:=h;cases e;rw[RJ,RJ,RJ,lQ,Dns];refine⟨_,_,rfl,?_,nJ c f⟩;by_cases q:p.1=k
     ·rw[RF q,RF q];exact c
     ·rw[RE q,RE q];exact g
end
theorem Ow.dT{d:D}{v:V}{A:List Addr}{ks:List (List bJ)}{ds:List D}(w:Ow Y B H d (.ct .fz) v A)(e:d=.dT ks ds):∃(a:Addr) (b:List (List bJ×V)),v=.ref a/\H a=some (.dT b)/\b.map (·.1)=ks/\A=[a]/\Dns Y B ds (b.map (·.2)):=by
 subst e;rw[Ow]at w;obtain⟨a,xs,k,r,j,i,h,g⟩:=w;obtain⟨f,c⟩:=Ows.fz g;exact⟨a,xs,r,j,i,by rw[h,c],f⟩
theorem Ow.dK{d:D}{v:V}{A:List Addr}{ks:List bJ}{ds:List D}(w:Ow Y B H d (.ct .fz) v A)(e:d=.dK ks ds):∃(a:Addr) (b:List (bJ×V)),v=.ref a/\H a=some (.dK b)/\b.map (·.1)=ks/\A=[a]/\Dns Y B ds (b.map (·.2)):=by
 subst e;rw[Ow]at w;obtain⟨a,xs,k,r,j,i,h,g⟩:=w;obtain⟨f,c⟩:=Ows.fz g;exact⟨a,xs,r,j,i,by rw[h,c],f⟩
theorem Ow.dT'{a:Addr}{b:List (List bJ×V)}{ds:List D}(h:H a=some (.dT b))(d:Dns Y B ds (b.map (·.2))):Ow Y B H (.dT (b.map (·.1)) ds) (.ct .fz) (.ref a) [a]:=by
 rw[Ow];exact⟨a,b,[],rfl,h,rfl,rfl,Ows.of d⟩
theorem Ow.dK'{a:Addr}{b:List (bJ×V)}{ds:List D}(h:H a=some (.dK b))(d:Dns Y B ds (b.map (·.2))):Ow Y B H (.dK (b.map (·.1)) ds) (.ct .fz) (.ref a) [a]:=by
 rw[Ow];exact⟨a,b,[],rfl,h,rfl,rfl,Ows.of d⟩
theorem G0{d k x d':D}{v u w:V}{A:List Addr}(p:Ow Y B H d (.ct .fz) v A)(m:Dn Y H k u)(j:Dn Y B x w)(e:uZ d k x=some d'):∃a o',v=.ref a/\a∈A/\DPut H a u w (upd H a o')/\Ow Y B (upd H a o') d' (.ct .fz) v A:=by
 cases d with
 |dT ks vs=>
   obtain⟨a,c,rfl,n,i,rfl,h⟩:=p.dT rfl;cases k with
   |tup r=>
     replace e:((fq r).bind λk=>if ks.length<aj then some (if dD ks k=true then D.dT ks (lQ ks vs k x) else .dT (ks++[k]) (vs++[x])) else none)=some d':=e;obtain⟨f,o,e⟩:=UG.mp e;rw[Dn]at m;obtain⟨b,xs,rfl,y,s⟩:=m;have ex:=jV o s;subst ex;by_cases z:ks.length<aj
     · rw[RF z]at e;cases e;have l:c.length<sizeLine:=dJ (SF (by rw[<-i,RH]at z;exact z));refine⟨a,_,rfl,RG,DPut.t n y l,?_⟩;subst i;by_cases q:dD (c.map (·.1)) f=true
       · rw[if_pos q];have hp:fH c f w=c.map λg=>if g.1=f then (g.1,w) else g:=by unfold fH;rw[nB,if_pos q]
         have:=Ow.dT' (Y:=Y) (B:=B) (H:=upd H a (.dT (fH c f w))) (ds:=lQ (c.map (·.1)) vs f x) aY (by rw[hp];exact nJ j h)
         rw[uk q]at this;exact this
       · rw[RE q]
         have:=Ow.dT' (Y:=Y) (B:=B) (H:=upd H a (.dT (fH c f w))) (ds:=vs++[x]) aY (by rw[fK q,Sm];exact h.append (Dns.one j))
         rw[fK q,Sm]at this;rw[fK q];exact this
     ·rw[RE z]at e;cases e
   |_=>cases e
 |dK ks vs=>
   obtain⟨a,c,rfl,n,i,rfl,h⟩:=p.dK rfl;replace e:((mB k).bind λk=>if ks.length<aj then some (if dD ks k=true then D.dK ks (lQ ks vs k x) else .dK (ks++[k]) (vs++[x])) else none)=some d':=by cases k<;>exact e
   obtain⟨f,o,e⟩:=UG.mp e;have ex:=uM o m;subst ex;by_cases z:ks.length<aj
   · rw[RF z]at e;cases e;have l:c.length<sizeLine:=dJ (SF (by rw[<-i,RH]at z;exact z));refine⟨a,_,rfl,RG,DPut.k n l,?_⟩;subst i;by_cases q:dD (c.map (·.1)) f=true
     · rw[if_pos q];have hp:fH c f w=c.map λg=>if g.1=f then (g.1,w) else g:=by unfold fH;rw[nB,if_pos q]
       have:=Ow.dK' (Y:=Y) (B:=B) (H:=upd H a (.dK (fH c f w))) (ds:=lQ (c.map (·.1)) vs f x) aY (by rw[hp];exact nJ j h)
       rw[uk q]at this;exact this
     · rw[RE q]
       have:=Ow.dK' (Y:=Y) (B:=B) (H:=upd H a (.dK (fH c f w))) (ds:=vs++[x]) aY (by rw[fK q,Sm];exact h.append (Dns.one j))
       rw[fK q,Sm]at this;rw[fK q];exact this
   ·rw[RE z]at e;cases e
 |_=>cases k<;>cases e
section
variable{t:TE}{get:L4->Option D}{set:L4->D->L4}{tk tv:TE}{mk:L4->Res D}{mv:L4->Out D}
theorem g7(p:Pth Y ms t get set)(Q:PJ Y (KR Y .X) E ms tk mk)(K:MJ Y (KR Y .F) E ms tv mv):SJ Y E Kr pr ms (HV t tk tv) (ja get set mk mv):=by
 intro B U As Z H T D R P;refine K.bndS R P λx f w I U1 i L N G e1 n1 J W=>?_;cases e:get f with
 |none=>rw[e]at W;exact W.elim
 |some d=>
   rw[e]at W;replace W:So Y E Kr pr ms I U1 Z (uY set x d f (mk f)) D:=W;obtain⟨v,A,O,z,hA,V⟩:=p.rd G e;refine O _ (Q I U1 i Z L f _ G ?_);cases s:mk f with
   |ok k=>
     rw[s]at W;replace W:So Y E Kr pr ms I U1 Z (match uZ d k x with|some d'=>.nx (set f d')|none=>.bad) D:=W;intro u j l m N2 R2 g n2 M;cases y:uZ d k x with
     |none=>rw[y]at W;exact W.elim
     |some d'=>
       rw[y]at W
       have q:Ow Y j m d (.ct .fz) v A:=Ow.mono g.b (λa r=>by
        obtain⟨o,C⟩:=Ow.at z r
        rw[C,g.h _ _ C]) z
       obtain⟨a,o',S,r,dp,n⟩:=G0 q M (Dn.mono g.b J) y;exact⟨a,_,S,dp,W Z j l i _ (V j l m R2 g.b g.h a r o' d' n) g.toEx (Kp.refl _ _)⟩
   |exc c=>rw[s]at W;exact λj l m R2 g=>W Z j l i m R2 g.toEx (Kp.refl _ _)
   |bad=>rw[s]at W;exact W.elim
def D4(set:L4->D->L4)(x:D)(xs:List D)(T:L4):Res D->SO
 |.ok (.int i)=>(match kU xs.length i with|some j=>.nx (set T (.lst (xs.set j x)))|none=>.bad)
 |.ok _=>.bad
 |.exc c=>.exc c T
 |.bad=>.bad
def uG(get:L4->Option D)(set:L4->D->L4)(mk:L4->Res D)(mv:L4->Out D):L4->SO:=λT=>gJ (mv T) λx a=>match get a with
 |some (.lst xs)=>D4 set x xs a (mk a)
 |_=>.bad
theorem Ke(p:Pth Y ms t get set)(M:PJ Y (KR Y .X) E ms tk mk)(J:MJ Y (KR Y .F) E ms tv mv):SJ Y E Kr pr ms (rs tv (Px t tk HY)) (uG get set mk mv):=by
 intro B U As Z H T D R P;refine J.bndS R P λx f w I U1 l L N z e1 V G W=>?_;cases e:get f with
 |none=>rw[e]at W;exact W.elim
 |some d=>
   cases d with
   |lst xs=>
     rw[e]at W;replace W:So Y E Kr pr ms I U1 Z (D4 set x xs f (mk f)) D:=W;obtain⟨v,A,K,C,hA,Q⟩:=p.rd z e;obtain⟨a,vs,rfl,O,rfl,y⟩:=C.lst rfl;refine K _ (M I U1 l Z L f _ z ?_);cases r:mk f with
     |ok k=>
       rw[r]at W;intro u q n o N2 R2 g S m;cases k with
       |int i=>
         replace W:So Y E Kr pr ms I U1 Z (match kU xs.length i with|some j=>.nx (set f (.lst (xs.set j x)))|none=>.bad) D:=W;have m:Dn Y o (.int i) u:=m;rw[Dn]at m;cases s:kU xs.length i with
         |none=>rw[s]at W;exact W.elim
         |some j=>
           rw[s]at W;refine⟨a,vs,i,j,rfl,m,g.h _ _ O,by rw[<-y.len];exact s,?_⟩;exact W Z q n l _ (Q q n o R2 g.b g.h a RG _ _ (Ow.lst' aY (Dns.set (Dn.mono g.b G) j (y.mono g.b)))) g.toEx (Kp.refl _ _)
       |_=>exact W.elim
     |exc c=>rw[r]at W;exact λq n o R2 g=>W Z q n l o R2 g.toEx (Kp.refl _ _)
     |bad=>rw[r]at W;exact W.elim
   |_=>rw[e]at W;exact W.elim
end
theorem qB{f:Str}{y:V}:∀{fs:List (Str×V)},(fP f y fs).map (·.1)=if dD (fs.map (·.1)) f=true then fs.map (·.1) else fs.map (·.1)++[f]
 |[]=>rfl
 | p::fs=>by
   obtain⟨g,z⟩:=p;unfold fP dD;rw[List.map_cons,List.any_cons];by_cases q:g=f
   ·rw[RF q,SX q,Bool.true_or,RF rfl,RJ]
   · rw[if_neg q,decide_eq_false q,Bool.false_or,List.map_cons,qB];unfold dD;split
     ·rfl
     ·rw[UF]
theorem Owf.put{sh:List (Str×Sh)}{f:Str}{x:D}{y:V}{N:List Addr}(s:Ow Y B H x ((sh.lookup f).getD .fz) y N)(v:N.Nodup):∀{fs:List (Str×V)} {ds:List D} {A:List Addr},Owf Y B H ds (fs.map (·.1)) sh (fs.map (·.2)) A->A.Nodup->(∀a∈N,a∉A)->
 ∃i,Owf Y B H (if dD (fs.map (·.1)) f=true then fN (fs.map (·.1)) ds f x else ds++[x]) ((fP f y fs).map (·.1)) sh ((fP f y fs).map (·.2)) i/\i.Nodup/\∀a∈i,a∈A\/a∈N
 | [],ds,A,h,nd,hd=>by
   cases ds with
   |nil=>
     refine⟨N,?_,v,λa c=>.inr c⟩;show Owf Y B H [x] [f] sh [y] N;rw[Owf];exact⟨f,[],y,[],N,[],rfl,rfl,by rw[Sk],s,by rw[Owf];exact⟨rfl,rfl⟩⟩
   |cons d ds=>
     rw[Owf]at h;obtain⟨_,_,_,_,_,_,e,_⟩:=h;cases e
 | p::fs,ds,A,h,nd,hd=>by
   obtain⟨g,z⟩:=p;cases ds with
   |nil=>
     rw[Owf]at h;cases h.1
   |cons d ds=>
     rw[List.map_cons,List.map_cons,Owf]at h;obtain⟨n,J,u,r,E,I,K,h0,M,L,G⟩:=h;cases K;cases h0;subst M;obtain⟨o,j,m⟩:=List.nodup_append.mp nd;unfold fP;by_cases q:g=f
     · have t:dD (((g,z)::fs).map (·.1)) f=true:=by
        unfold dD;rw[List.map_cons,List.any_cons,decide_eq_true q,Bool.true_or]
       rw[RF q,t,RF rfl,RJ,fN,RF q,RJ,RJ];refine⟨N++I,?_,Sz.mpr ⟨v,j,λa c b k e=>hd a c (RN _ (e▸k))⟩,λa c=>?_⟩
       ·rw[Owf];exact⟨g,_,y,_,N,I,rfl,rfl,rfl,by rw[q];exact s,G⟩
       · rcases RW.mp c with z|z
         ·exact .inr z
         ·exact .inl (RN _ z)
     · obtain⟨i,w,l,F⟩:=Owf.put s v G j (λa c k=>hd a c (RN _ k))
       have t:dD (((g,z)::fs).map (·.1)) f=dD (fs.map (·.1)) f:=by
        unfold dD;rw[List.map_cons,List.any_cons,decide_eq_false q,Bool.false_or]
       rw[RE q,t,RJ,RJ,RJ,fN,RE q]
       have C:∀a∈E,∀b∈i,a≠b:=λa c b k e=>by
        rcases F b k with z|z
        ·exact m a c b z e
        ·exact hd b z (RX _ (e▸c))
       refine⟨E++i,?_,Sz.mpr ⟨o,l,C⟩,λa c=>?_⟩
       · have:(if dD (fs.map (·.1)) f=true then d::fN (fs.map (·.1)) ds f x else (d::ds)++[x])=d::(if dD (fs.map (·.1)) f=true then fN (fs.map (·.1)) ds f x else ds++[x]):=by split<;>rfl
         rw[this,Owf];exact⟨g,_,z,_,E,i,rfl,rfl,rfl,L,w⟩
       · rcases RW.mp c with z|z
         ·exact .inl (RX _ z)
         · rcases F a z with z|z
           ·exact .inl (RN _ z)
           ·exact .inr z
def cX(c:Nat)(f:Str)(i:Nat)(b:L4->Out D):L4->SO:=λT=>gJ (b T) λx a=>match rg a i with
 |some d=>(match l9 c f x d with|some d'=>.nx (a.set i (some d'))|none=>.bad)
 |none=>.bad
theorem HR{K':KT D V}{c:Nat}{f:Str}{i:Nat}{sh:List (Str×Sh)}{te:TE}{me:L4->Out D}(hc:Cls K (Y c))(hn:NoAttr K (Y c) f)(hm:ms.getD i .F= .O (.ob sh))(he:MJ Y K' E ms te me)
 (r:∀B U H d v N,K' d v B U H N->∃N',(N'=[]\/N'=N)/\Ow Y B H d ((sh.lookup f).getD .fz) v N'):SJ Y E Kr pr ms (Gf K (eT i) te f) (cX c f i me):=by
 intro B U As Z H T D R P;refine he.bndS R P λx s y I U1 g L N m e1 n1 hx W=>?_;obtain⟨N',hN,ow⟩:=r _ _ _ _ _ _ hx
 have J:NewM N' U1 g:=by
  rcases hN with e|e
  ·subst e;exact NewM.nil
  ·subst e;exact n1
 have l:=m.lo i;cases e:rg s i with
 |none=>rw[e]at W;exact W.elim
 |some d=>
   rw[e]at W;replace W:So Y E Kr pr ms I U1 Z (match l9 c f x d with|some d'=>.nx (s.set i (some d'))|none=>.bad) D:=W;rw[e,hm]at l;obtain⟨v,hv,w⟩:=l;cases d with
   |obj p ns vs=>
     have ep:l9 c f x (.obj p ns vs)=if p=c/\ns.length<900 then some (if dD ns f=true then .obj p ns (fN ns vs f x) else .obj p (ns++[f]) (vs++[x])) else none:=rfl
     rw[ep]at W;by_cases q:p=c/\ns.length<900
     · rw[RF q]at W;obtain⟨q1,q2⟩:=q;subst q1;have w:Ow Y I L (.obj p ns vs) (.ob sh) v (g i):=w;rw[Ow]at w;obtain⟨a,dx,fs,A',rfl,h1,h2,X,h4⟩:=w;subst h2;have nd:=m.nd i;rw[X]at nd;obtain⟨nd1,nd2⟩:=RZ.mp nd;have n:a∈g i:=by rw[X];exact RG
       obtain⟨o,w2,nda,hA⟩:=Owf.put ow J.nd h4 nd2 (λb h A=>J.ap b h i (by rw[X];exact on _ A))
       have S:a∉o:=λz=>by
        rcases hA a z with z|z
        ·exact nd1 z
        ·exact J.ap a z i n
       refine⟨.ref a,fj hv,a,_,dx,fs,rfl,h1,hc,hn,by rw[RH]at q2;omega,?_⟩
       have w3:Ow Y I (upd L a (.ins (Y p) dx (fP f y fs))) (if dD (fs.map (·.1)) f=true then .obj p (fs.map (·.1)) (fN (fs.map (·.1)) vs f x) else .obj p (fs.map (·.1)++[f]) (vs++[x])) (.ob sh) (.ref a) (a::o):=by
        have C:=Owf.mono (H':=upd L a (.ins (Y p) dx (fP f y fs))) (Same.refl I) (λb h=>aS (λz:b=a=>S (z▸h))) w2;have G:=qB (f:=f) (y:=y) (fs:=fs);by_cases k:dD (fs.map (·.1)) f=true
        ·rw[RF k]at G C ⊢;rw[Ow];rw[G]at C;exact⟨a,dx,_,o,rfl,aY,G,rfl,C⟩
        ·rw[RE k]at G C ⊢;rw[Ow];rw[G]at C;exact⟨a,dx,_,o,rfl,aY,G,rfl,C⟩
       have hi:i<s.length:=(R5.mp (fj e)).1;refine W Z I U1 (λj=>if j=i then a::o else g j) _ ⟨m.bu,λb u z=>?_,λj=>?_,λj k b Q h r=>?_,λj b h=>?_,λj=>?_,by rw[SH];exact m.len,m.tb⟩ (Ex.refl _ _) (Kp.refl _ _)
       ·rw[aS (bf z (m.un i a n))];exact m.uh b u z
       · show(if j=i then a::o else g j).Nodup;split
         ·exact RZ.mpr ⟨S,nda⟩
         ·exact m.nd j
       · replace h:b∈(if j=i then a::o else g j):=h;replace r:b∈(if k=i then a::o else g k):=r
         have M:∀{j},j≠i->b∈a::o->b∈g j->False:=λ{j} hj A t=>by
          rcases RO.mp A with z|z
          ·exact m.dj i j b (Th hj) (by rw[z];exact n) t
          · rcases hA b z with z|z
            ·exact m.dj i j b (Th hj) (by rw[X];exact on _ z) t
            ·exact J.ap b z j t
         split at h
         · rename_i z1;split at r
           ·rename_i z2;exact Q (z1.trans z2.symm)
           ·rename_i z2;exact M z2 h r
         · rename_i z1;split at r
           ·exact M z1 r h
           ·exact m.dj j k b Q h r
       · replace h:b∈(if j=i then a::o else g j):=h;split at h
         · rcases RO.mp h with z|z
           ·rw[z];exact m.un i a n
           · rcases hA b z with z|z
             ·exact m.un i b (by rw[X];exact on _ z)
             ·exact J.un b z
         ·exact m.un j b h
       · rw[iU];show Lo Y I U1 _ (ms.getD j .F) _ _ (if j=i then a::o else g j);by_cases z:i=j
         ·subst z;rw[RF ⟨rfl,hi⟩,RF rfl,hm];exact⟨.ref a,hv,w3⟩
         ·rw[RE λy=>z y.1,RE λy=>z y.symm];exact(m.lo j).mono (Same.refl _) (Same.refl _) λb h=>aS (λy:b=a=>m.dj i j a z n (y▸h))
     ·rw[RE q]at W;exact W.elim
   |_=>exact W.elim
theorem Kl{c:Nat}{f:Str}{i:Nat}{sh:List (Str×Sh)}{te:TE}{a:L4->Out D}(j:Cls K (Y c))(b:NoAttr K (Y c) f)(e:ms.getD i .F= .O (.ob sh))(g:(sh.lookup f).getD .fz=.fz)(h:MJ Y (KR Y .F) E ms te a):SJ Y E Kr pr ms (Gf K (eT i) te f) (cX c f i a):=
 HR j b e h λB U H d v N k=>⟨[],.inl rfl,by rw[g,Ow];exact⟨k,rfl⟩⟩
theorem gC{c:Nat}{f:Str}{i:Nat}{sh:List (Str×Sh)}{s:Sh}{te:TE}{a:L4->Out D}(j:Cls K (Y c))(b:NoAttr K (Y c) f)(e:ms.getD i .F= .O (.ob sh))(g:(sh.lookup f).getD .fz=s)(h:MJ Y (KO Y s) E ms te a):SJ Y E Kr pr ms (Gf K (eT i) te f) (cX c f i a):=
 HR j b e h λB U H d v N k=>⟨N,.inr rfl,by rw[g];exact k⟩
def tX(ms:List Md)(a:Nat):Nat->Bool:=λj=>decide (j<a)&&(match ms.getD j .F with | .O _=>true|_=>false)
theorem wk{W:Type}{l:List (Option W)}{n i:Nat}:rg (l++List.replicate n none) i=rg l i:=by
 unfold rg;by_cases h:i<l.length
 ·rw[TL h]
 · rw[Tx (by omega),R6 (show l.length<=i by omega)];by_cases a:i-l.length<n
   ·rw[TW,RF a];rfl
   ·rw[TW,RE a]
def iN(k:Nat)(body:L4->SO)(ds:List D):Out D:=match body (ds.map some++List.replicate (k-ds.length) none) with
 |.rt d T=>.ok d T
 |.exc c T=>.exc c T
 |_=>.bad
theorem Rel.enter{more:List Md}{vs:List V}{ds:List D}{n:Nat}(R:Rel Y ms B U As (vs.map some) H (ds.map some))(a:vs.length=ms.length):Rel Y (ms++more) B U As (vs.map some++List.replicate n none) H (ds.map some++List.replicate n none):=by
 have hd:ds.length=vs.length:=by have:=R.len;rw[RH,RH]at this;exact this
 refine⟨R.bu,R.uh,R.nd,R.dj,R.un,λi=>?_,by rw[RK,RK,R.len,Tu,Tu],R.tb⟩;rw[wk,wk];have l:=R.lo i;by_cases h:i<ms.length
 ·rw[Sa,TL h,<-Sa];exact l
 · have:rg (ds.map some) i=none:=by rw[eJ,R6 (by omega)]
   rw[this]at l ⊢;exact l
theorem Rel.leave{more:List Md}{vs:List V}{d:St}{G:L4}{n:Nat}(h:vs.length=ms.length)(R:Rel Y (ms++more) B U As d H G)(k:Kp (tX ms ms.length) (vs.map some++List.replicate n none) d):
 ∃J,Rel Y ms B U J (vs.map some) H (gr ms G)/\∀N,NewM N U As->NewM N U J:=by
 refine⟨λi=>if tX ms ms.length i=true then As i else [],⟨R.bu,R.uh,λi=>?_,λi j a g b f=>?_,λi a b=>?_,λi=>?_,?_,R.tb⟩,λN n=>⟨n.nd,n.un,λa b i=>?_⟩⟩
 · show(if tX ms ms.length i=true then As i else []).Nodup;split
   ·exact R.nd i
   ·exact Sy
 · replace b:a∈(if tX ms ms.length i=true then As i else []):=b;replace f:a∈(if tX ms ms.length j=true then As j else []):=f;split at b
   · split at f
     ·exact R.dj i j a g b f
     ·cases f
   ·cases b
 · replace b:a∈(if tX ms ms.length i=true then As i else []):=b;split at b
   ·exact R.un i a b
   ·cases b
 · show Lo Y B U H (ms.getD i .F) (rg (gr ms G) i) (rg (vs.map some) i) (if tX ms ms.length i=true then As i else []);by_cases hi:i<ms.length
   · have m:(ms++more).getD i .F=ms.getD i .F:=by
      rw[Sa,TL hi,<-Sa]
     cases c:ms.getD i .F with
     |O s=>
       have hp:tX ms ms.length i=true:=by unfold tX;rw[c,decide_eq_true hi];rfl
       rw[RF hp,lU c];have l:=R.lo i;rw[m,c,k i hp,wk]at l;exact l
     |F=>
       have hp:tX ms ms.length i=false:=by unfold tX;rw[c];simp
       have e:rg (gr ms G) i=none:=by
        unfold gr rg;rw[List.getElem?_map,List.getElem?_range hi];show(some (match ms.getD i .F with | .O _=>_|_=>none)).join=none;rw[c];rfl
       rw[hp,e];exact rfl
     |R=>
       have hp:tX ms ms.length i=false:=by unfold tX;rw[c];simp
       have e:rg (gr ms G) i=none:=by
        unfold gr rg;rw[List.getElem?_map,List.getElem?_range hi];show(some (match ms.getD i .F with | .O _=>_|_=>none)).join=none;rw[c];rfl
       rw[hp,e];exact rfl
   · have hp:tX ms ms.length i=false:=by unfold tX;rw[decide_eq_false hi];rfl
     have e:rg (gr ms G) i=none:=by
      unfold gr rg;rw[List.getElem?_eq_none (by rw[List.length_map,List.length_range];omega)];rfl
     rw[hp,e];exact rfl
 ·unfold gr;rw[List.length_map,List.length_map,List.length_range,h]
 · show a∉(if tX ms ms.length i=true then As i else []);split
   ·exact n.ap a b i
   ·simp
theorem aQ{vs:List V}{Q:VK}{b:List D->Out D}(h:dO Y ms Kr b vs H Q E):vs.length=ms.length:=by
 obtain⟨_,_,_,_,_,a,_⟩:=h;exact a
end
end Mi
namespace Mi
open PySem PySem.Spec L2
mutual
def toPy:D->Option PyData
 |.non=>some .none
 |.bl b=>some (.bool b)
 |.int i=>some (.int i)
 |.str x=>some (.str x)
 |.lst xs=>(toPys xs).map .list
 |.scr xs=>(toPys xs).map .list
 |.tup xs=>(toPys xs).map .tuple
 |.ty _=>none
 |.dK _ _=>none
 |.dT _ _=>none
 |.obj _ _ _=>none
def toPys:List D->Option (List PyData)
 |[]=>some []
 | d::r=>match toPy d,toPys r with
   |some p,some q=>some (p::q)
   |_,_=>none
end
section
variable{Y:Cm}{E:XK}{Kr:KT D V}{pr:Nat->Bool}{ms:List Md}{B U H:Hp}{As:Nat->List Addr}{Z:St}{T:L4}{K:F0}
mutual
theorem den_of:∀{d:D} {p:PyData} {v:V},toPy d=some p->Dn Y H d v->L2.Den Y.K H p v
 |.non,p,v,e,h=>by rw[Dn]at h;cases e;rw[L2.Den];exact h
 |.bl _,p,v,e,h=>by rw[Dn]at h;cases e;rw[L2.Den];exact h
 |.int _,p,v,e,h=>by rw[Dn]at h;cases e;rw[L2.Den];exact h
 |.str _,p,v,e,h=>by rw[Dn]at h;cases e;rw[L2.Den];exact h
 | .lst xs,p,v,e,h=>by
   rw[Dn]at h;obtain⟨a,ys,rfl,c,b⟩:=h;rw[toPy]at e;obtain⟨ps,f,rfl⟩:=Sd.mp e;rw[L2.Den];exact⟨a,ys,rfl,SqL.of c,dens_of f b⟩
 | .scr xs,p,v,e,h=>by
   rw[Dn]at h;obtain⟨a,ys,rfl,c,b⟩:=h;rw[toPy]at e;obtain⟨ps,f,rfl⟩:=Sd.mp e;rw[L2.Den];exact⟨a,ys,rfl,c.sq,dens_of f b⟩
 | .tup xs,p,v,e,h=>by
   rw[Dn]at h;obtain⟨a,ys,rfl,c,b⟩:=h;rw[toPy]at e;obtain⟨ps,f,rfl⟩:=Sd.mp e;rw[L2.Den];exact⟨a,ys,rfl,SqT.of c,dens_of f b⟩
 |.ty _,p,v,e,h=>by cases e
 |.dK _ _,p,v,e,h=>by cases e
 |.dT _ _,p,v,e,h=>by cases e
 |.obj _ _ _,p,v,e,h=>by cases e
theorem dens_of:∀{ds:List D} {ps:List PyData} {xs:List V},toPys ds=some ps->Dns Y H ds xs->L2.Dens Y.K H ps xs
 |[],ps,xs,e,h=>by rw[Dns]at h;rw[toPys]at e;cases e;rw[L2.Dens];exact h
 | d::ds,ps,xs,e,h=>by
   rw[Dns]at h;obtain⟨x,r,rfl,f,c⟩:=h;rw[toPys]at e;cases a:toPy d with
   |none=>rw[a]at e;cases e
   |some p=>
     cases b:toPys ds with
     |none=>rw[a,b]at e;cases e
     |some q=>
       rw[a,b]at e;cases e;rw[L2.Dens];exact⟨x,r,rfl,den_of a f,dens_of b c⟩
end
def Jh(neg:Bool)(x y:D):Res D:=match toPy x,toPy y with
 |some p,some q=>if SeqAt.shaped p=true/\SeqAt.shaped q=true then .ok (.bl (neg.xor (PyData.eqv p q))) else .bad
 |_,_=>.bad
theorem wg{neg:Bool}:S2 Y (Co Y.K neg) (Jh neg):=by
 intro H x y v u b a;unfold Jh;cases d:toPy x with
 |none=>trivial
 |some p=>
   cases c:toPy y with
   |none=>trivial
   |some q=>
     dsimp only;by_cases z:SeqAt.shaped p=true/\SeqAt.shaped q=true
     ·rw[RF z];refine⟨.bl _,λ_=>by rw[Dn],λQ h=>⟨p,q,den_of d b,den_of c a,z.1,z.2,?_⟩⟩;cases neg<;>simpa using h
     ·rw[RE z];trivial
def inD(x y:D):Res D:=match toPy x,toPy y with
 |some p,some (.list xs)=>if SeqAt.shaped p=true/\SeqAt.shaped (.list xs)=true/\(xs.all λz=>SeqAt.noMix z p)=true then .ok (.bl (decide (countIn p xs≠0))) else .bad
 |_,_=>.bad
def Q0(d:D)(T:L4):Out Bool:=match d with | .bl b=>.ok b T|_=>.bad
def A4(m:L4->Out D):L4->Out Bool:=λT=>(m T).bind Q0
theorem Ph{t:TE}{m:L4->Out D}(h:MJ Y (KR Y .X) E ms t m):MJ Y KB E ms (λZ H Q=>t Z H λx L=>∃c,x=.bl c/\Q c L) (A4 m):=by
 intro B U As Z H T Q R P;refine h.bnd R P λx G v I U1 a L N d f e M W=>?_;cases x with
 |bl b=>
   have M:Dn Y L (.bl b) v:=M;rw[Dn]at M;exact⟨b,M,W _ I U1 a L [] d (Ex.refl _ _) NewM.nil rfl⟩
 |_=>exact W.elim
theorem Ra{t:TE}{m:L4->Out D}(h:MJ Y (KR Y .X) E ms t m):MJ Y KB E ms (Bf t) (A4 m):=Ph h
def Rn(f:D->D->Res D)(a b:L4->Out D):L4->Out D:=λT=>(a T).bind λx T=>(b T).bind λy T=>(f x y).up T
theorem Rb{r:R2}{f:D->D->Res D}{i tb:TE}{l j:L4->Out D}(h:S2 Y r f)(t:MJ Y (KR Y .F) E ms i l)(s:MJ Y (KR Y .X) E ms tb j):MJ Y (KR Y .F) E ms (Bi r i tb) (Rn f l j):=by
 intro B U As Z H T Q R P;refine t.bnd R P λx o v I U1 K L O G V S M W=>s.bnd G W λy n u J C g m N2 R2 z N A a=>?_;have q:=h m x y v u (Dn.mono (z.b.trans R2.bh) M) A;cases e:f x y with
 |ok d=>
   rw[e]at q a;obtain⟨w,p,k⟩:=q;exact k Q (a w J C g m [] R2 (Ex.refl _ _) NewM.nil (p _))
 |exc c=>rw[e]at q;exact q.elim
 |bad=>rw[e]at a;exact a.elim
def yw(i:Nat):L4->Out D:=λT=>match rg T i with|some d=>.ok d (T.set i none)|none=>.bad
theorem Rel.take(R:Rel Y ms B U As Z H T)(i:Nat):Rel Y ms B U (λj=>if j=i then [] else As j) Z H (T.set i none)/\∀a∈As i,U a=none/\∀j,a∉(λj=>if j=i then [] else As j) j:=by
 refine⟨⟨R.bu,R.uh,λj=>?_,λj k a f b d=>?_,λj a b=>?_,λj=>?_,by rw[SH];exact R.len,R.tb⟩,λa b=>⟨R.un i a b,λj c=>?_⟩⟩
 · show(if j=i then [] else As j).Nodup;split
   ·exact Sy
   ·exact R.nd j
 · replace b:a∈(if j=i then [] else As j):=b;replace d:a∈(if k=i then [] else As k):=d;split at b
   ·cases b
   · split at d
     ·cases d
     ·exact R.dj j k a f b d
 · replace b:a∈(if j=i then [] else As j):=b;split at b
   ·cases b
   ·exact R.un j a b
 · show Lo Y B U H (ms.getD j .F) (rg (T.set i none) j) (rg Z j) (if j=i then [] else As j);rw[iU];by_cases e:i=j
   · subst e;rw[RF rfl];by_cases h:i<T.length
     ·rw[RF ⟨rfl,h⟩];exact rfl
     · rw[RE λz=>h z.2]
       have:rg T i=none:=by unfold rg;rw[List.getElem?_eq_none (by omega)];rfl
       rw[this];exact rfl
   ·rw[RE λz=>e z.1,RE λz=>e z.symm];exact R.lo j
 · replace c:a∈(if j=i then [] else As j):=c;split at c
   ·cases c
   ·rename_i z;exact R.dj i j a (λq=>z q.symm) b c
theorem qk{i:Nat}{s:Sh}(g:ms.getD i .F= .O s):MJ Y (KO Y s) E ms (eT i) (yw i):=by
 intro B U As Z H T Q R P;unfold yw at P;have l:=R.lo i;cases e:rg T i with
 |none=>rw[e]at P;exact P.elim
 |some d=>
   rw[e]at P;rw[e,g]at l;obtain⟨v,f,w⟩:=l;obtain⟨R2,c⟩:=R.take i;exact⟨v,fj f,P v B U _ H (As i) R2 (Ex.refl _ _) ⟨R.nd i,λa b=>(c a b).1,λa b=>(c a b).2⟩ w⟩
def bD:D->Bool | .int _=>true | .bl _=>true | .non=>true | .str _=>true|_=>false
def kJ:D->Bool
 |.lst xs=>xs.all bD
 |.scr xs=>xs.all bD
 |.tup xs=>xs.all bD
 |.dK _ xs=>xs.all bD
 |.dT _ xs=>xs.all bD
 |.obj _ _ xs=>xs.all bD
 |d=>bD d
def mY(m:L4->Res D):L4->Res D:=λT=>(m T).bind λd=>if kJ d=true then .ok d else .bad
theorem gg{G a:Hp}{d:D}{v:V}(h:bD d=true)(q:Dn Y G d v):Dn Y a d v:=by
 cases d with
 |int _=>rw[Dn]at q ⊢;exact q
 |bl _=>rw[Dn]at q ⊢;exact q
 |non=>rw[Dn]at q ⊢;exact q
 |str _=>rw[Dn]at q ⊢;exact q
 |_=>cases h
theorem cT{G c:Hp}:∀{ds:List D} {xs:List V},ds.all bD=true->Dns Y G ds xs->Dns Y c ds xs
 |[],_,_,q=>by rw[Dns]at q ⊢;exact q
 | d::ds,_,h,q=>by
   rw[Vg,S7]at h;rw[Dns]at q ⊢;obtain⟨x,r,e,b,a⟩:=q;exact⟨x,r,e,gg h.1 b,cT h.2 a⟩
theorem cS{k k':Kd}{t:TE}{m:L4->Res D}(h:PJ Y (KC Y k) E ms t m):PJ Y (KC Y k') E ms t (mY m):=by
 intro B U As Z H T Q R P;refine h.bnd R P λx v I U1 L O _ f i g M W=>?_;by_cases z:kJ x=true
 · rw[RF z]at W;refine W v I U1 L [] f (Gw.refl _ _ _) New.nil ?_;cases x with
   |lst ds=>obtain⟨a,xs,r,d,b⟩:=M;exact⟨a,xs,r,d,cT z b⟩
   |scr ds=>obtain⟨a,xs,r,d,b⟩:=M;exact⟨a,xs,r,d,cT z b⟩
   |tup ds=>obtain⟨a,xs,r,d,b⟩:=M;exact⟨a,xs,r,d,cT z b⟩
   |dK ks ds=>obtain⟨a,xs,r,d,b,e⟩:=M;exact⟨a,xs,r,d,b,cT z e⟩
   |dT ks ds=>obtain⟨a,xs,r,d,b,e⟩:=M;exact⟨a,xs,r,d,b,cT z e⟩
   |obj c ns ds=>obtain⟨a,dx,xs,r,d,b,e⟩:=M;exact⟨a,dx,xs,r,d,b,cT z e⟩
   |int _=>exact gg (G:=hp k I U1 L) z M
   |bl _=>exact gg (G:=hp k I U1 L) z M
   |non=>exact gg (G:=hp k I U1 L) z M
   |str _=>exact gg (G:=hp k I U1 L) z M
   |ty _=>cases z
 ·rw[RE z]at W;exact W.elim
theorem rS{k:Kd}{t:TE}{m:L4->Res D}(h:PJ Y (KR Y .X) E ms t m):PJ Y (KR Y .F) E ms t (λT=>(m T).bind λd=>if bD d=true then .ok d else .bad):=by
 intro B U As Z H T Q R P;refine h.bnd R P λx v I U1 L O _ a c b M W=>?_;by_cases z:bD x=true
 ·rw[RF z]at W;exact W v I U1 L [] a (Gw.refl _ _ _) New.nil (gg z M)
 ·rw[RE z]at W;exact W.elim
def kD:bJ->D | .inl i=>.int i | .inr x=>.str x
def yA:D->Res D | .dT ks _=>.ok (.lst (ks.map λk=>.tup (k.map kD)))|_=>.bad
theorem ES{G:Hp}:∀k:List bJ,Dns Y G (k.map kD) (k.map kV)
 |[]=>by rw[SM,SM,Dns]
 | x::k=>by
   rw[RJ,RJ,Dns];refine⟨_,_,rfl,?_,ES k⟩;cases x with
   |inl i=>show Dn Y G (.int i) (.int i);rw[Dn]
   |inr i=>show Dn Y G (.str i) (.str i);rw[Dn]
theorem Dns.of_get{G:Hp}:∀{ds:List D} {xs:List V},ds.length=xs.length->(∀(i:Nat) d x,ds[i]?=some d->xs[i]?=some x->Dn Y G d x)->Dns Y G ds xs
 | [],xs,h,_=>by
   rw[Dns];exact SG.mp h.symm
 |d::ds,[],h,_=>by cases h
 | d::ds,x::xs,h,k=>by
   rw[Dns];exact⟨x,xs,rfl,k 0 d x rfl rfl,Dns.of_get (by simpa using h) λi d x b a=>k (i+1) d x (by simpa using b) (by simpa using a)⟩
theorem ym{k:Kd}{p:TE}{r:L4->Res D}(h:PJ Y (KC Y k) E ms p r):PJ Y (KO Y (.ct .fz)) E ms (FG (λxs H Q=>∃a f,xs=[.ref a]/\Rd H a (.dT f)/\
 ∀(ks:List Addr) (l:Addr),ks.length=f.length->(∀(i:Nat) k v b,f[i]?=some (k,v)->ks[i]?=some b->H b=some (.tup (k.map kV)))->H l=none->Q (.ref l) (upd H l (.lst (ks.map V.ref)))) (bS p dE)) (un yA r):=by
 intro B U As Z H T Q R P;refine h.bnd R P λx v I U1 L O _ g e1 X M W=>?_;cases x with
 |dT ks ds=>
   obtain⟨a,f,rfl,K,u,h3⟩:=M;refine⟨a,f,rfl,K,λbs l F s C=>?_⟩
   have c:∀b∈bs,∃o,L b=some o/\dY o:=λb m=>by
    obtain⟨i,hi,e⟩:=Uh m;have J:bs[i]?=some b:=by rw[<-e];exact R7 hi
    have G:f[i]?=some (f[i]'(by omega)):=R7 (by omega);exact⟨_,s i _ _ b (by rw[G]) J,_,rfl⟩
   have R2:Rel Y ms (Mi.frz I L bs) (Mi.frz U1 L bs) As Z L T:=g.grow (cr g.bh) (cr g.uh) (Same.refl _) (oI g.bu) (sy g.uh) λi a h=>by
    unfold Mi.frz;split
    ·rename_i z;obtain⟨o,e,t⟩:=c a z;exact(g.nt h e t).elim
    ·exact g.un i a h
   have N:Gw I U1 L (Mi.frz I L bs) (Mi.frz U1 L bs) L:=by
    refine⟨⟨cr g.bh,cr g.uh,λa o q=>?_⟩,Same.refl _,λa o q=>?_⟩
    · unfold Mi.frz at q;split at q
      ·rename_i z;obtain⟨o',e,t⟩:=c a z;rw[e]at q;cases q;exact .inr (.inr t)
      ·exact .inl q
    · unfold Mi.frz at q;split at q
      ·rename_i z;obtain⟨o',e,t⟩:=c a z;rw[e]at q;cases q;exact .inr (.inr t)
      ·exact .inl q
   have S:Po Y (KO Y (.ct .fz)) E ms (Mi.frz I L bs) (Mi.frz U1 L bs) As Z L T (.ok (.lst (ks.map λk=>.tup (k.map kD)))) Q:=Po.at W N;refine dX R2 S (Dns.of_get (by rw[List.length_map,List.length_map,F,<-u,List.length_map]) λi d x y ex=>?_) C;rw[List.getElem?_map]at y ex;obtain⟨kk,w,rfl⟩:=Option.map_eq_some_iff.mp y;obtain⟨b,A,rfl⟩:=Option.map_eq_some_iff.mp ex;rw[<-u,List.getElem?_map]at w;obtain⟨j,n,rfl⟩:=Option.map_eq_some_iff.mp w;have m:=s i j.1 j.2 b n A;rw[Dn];refine⟨b,_,rfl,?_,ES j.1⟩;unfold Mi.frz;rw[if_pos (List.mem_of_getElem? A)];exact m
 |_=>exact W.elim
def cO:List D->Option (List Int)
 |[]=>some []
 |.int i::r=>(cO r).map (i::·)
 |_::_=>none
theorem ij{G:Hp}:∀{ds:List D} {ns:List Int} {xs:List V},cO ds=some ns->Dns Y G ds xs->xs=ns.map V.int
 |[],ns,xs,e,h=>by rw[Dns]at h;cases e;rw[h];rfl
 | d::ds,ns,xs,e,h=>by
   rw[Dns]at h;obtain⟨x,r,rfl,a,b⟩:=h;cases d with
   |int i=>
     rw[cO]at e;obtain⟨ms,c,rfl⟩:=Sd.mp e;rw[Dn]at a;rw[ij c b,a,RJ]
   |_=>cases e
def dL:List Int->Int->Int
 |[],m=>m
 |x::r,m=>dL r (if x<m then x else m)
def gq:List Int->Int->Int
 |[],m=>m
 |x::r,m=>gq r (if m<x then x else m)
theorem i4:∀(l:List Int) (m:Int),(dL l m=m\/dL l m∈l)/\dL l m<=m/\∀x∈l,dL l m<=x
 |[],m=>⟨.inl rfl,Int.le_refl _,λ_ h=>(nomatch h)⟩
 | x::r,m=>by
   unfold dL;obtain⟨a,b,d⟩:=i4 r (if x<m then x else m);refine⟨?_,?_,λy c=>?_⟩
   · rcases a with a|a
     · by_cases z:x<m
       ·rw[RF z]at a ⊢;exact .inr (by rw[a];exact RG)
       ·rw[RE z]at a ⊢;exact .inl a
     ·exact .inr (on _ a)
   ·split at b<;>split<;>omega
   · rcases RO.mp c with z|z
     ·subst z;split at b<;>split<;>omega
     ·exact d y z
theorem ie:∀(l:List Int) (m:Int),(gq l m=m\/gq l m∈l)/\m<=gq l m/\∀x∈l,x<=gq l m
 |[],m=>⟨.inl rfl,Int.le_refl _,λ_ h=>(nomatch h)⟩
 | x::r,m=>by
   unfold gq;obtain⟨a,b,d⟩:=ie r (if m<x then x else m);refine⟨?_,?_,λy c=>?_⟩
   · rcases a with a|a
     · by_cases z:m<x
       ·rw[RF z]at a ⊢;exact .inr (by rw[a];exact RG)
       ·rw[RE z]at a ⊢;exact .inl a
     ·exact .inr (on _ a)
   ·split at b<;>split<;>omega
   · rcases RO.mp c with z|z
     ·subst z;split at b<;>split<;>omega
     ·exact d y z
def oM(f:List Int->Int->Int)(x d:D):Res D:=match x with
 |.lst ds=>(match cO ds with|some []=>(if bD d=true then .ok d else .bad)|some (n::ns)=>.ok (.int (f ns n))|none=>.bad)
 |_=>.bad
theorem Ib{f:List Int->Int->Int}{ok:Int->Int->Prop}(sp:∀ns n m,m∈n::ns->(∀x∈n::ns,ok m x)->m=f ns n){o l:TE}{r q:L4->Res D}(A:PJ Y (KR Y .X) E ms o r)(hd:PJ Y (KR Y .X) E ms l q):
 PJ Y (KR Y .F) E ms (FU (λxs w H Q=>∃p ns d,xs=[.ref p]/\w=[d]/\SqL K H p (ns.map V.int)/\(ns=[]->Q d H)/\∀m∈ns,(∀x∈ns,ok m x)->Q (.int m) H) (bS o dE) (bS l dE)) (bn (oM f) r q):=by
 intro B U As Z H T Q R P;refine A.bnd R P λx v I U1 L O _ J e1 S M W=>hd.bnd J W λy u i e g N2 _ R2 t N G b=>?_;have M:Dn Y L x v:=M;cases x with
 |lst ds=>
   rw[Dn]at M;obtain⟨a,xs,rfl,s,C⟩:=M;replace b:Po Y (KR Y .F) E ms i e As Z g T (match cO ds with|some []=>(if bD y=true then .ok y else .bad)|some (n::ns)=>.ok (.int (f ns n))|none=>.bad) Q:=b;cases c:cO ds with
   |none=>rw[c]at b;exact b.elim
   |some ns=>
     have ex:=ij c C;subst ex;cases ns with
     |nil=>
       rw[c]at b;replace b:Po Y (KR Y .F) E ms i e As Z g T (if bD y=true then .ok y else .bad) Q:=b;by_cases z:bD y=true
       ·rw[RF z]at b;exact⟨a,[],u,rfl,rfl,SqL.of (t.h _ _ s),λ_=>b u i e g [] R2 (Gw.refl _ _ _) New.nil (gg z G),λm j=>(nomatch j)⟩
       ·rw[RE z]at b;exact b.elim
     |cons n ns=>
       rw[c]at b;refine⟨a,n::ns,u,rfl,rfl,SqL.of (t.h _ _ s),(λz=>by cases z),λm j k=>?_⟩;rw[sp ns n m j k];exact b _ i e g [] R2 (Gw.refl _ _ _) New.nil (show Dn Y _ (.int (f ns n)) _ by rw[Dn])
 |_=>exact b.elim
theorem KW{c b:TE}{f e:L4->Res D}(k:PJ Y (KR Y .X) E ms c f)(hd:PJ Y (KR Y .X) E ms b e):
 PJ Y (KR Y .F) E ms (FU (λxs g H Q=>∃p ns d,xs=[.ref p]/\g=[d]/\SqL K H p (ns.map V.int)/\(ns=[]->Q d H)/\∀m∈ns,(∀x∈ns,m<=x)->Q (.int m) H) (bS c dE) (bS b dE)) (bn (oM dL) f e):=Ib (ok:=λm x=>m<=x) (λns n m j a=>by
 obtain⟨i,s2,h⟩:=i4 ns n;have l2:=a _ (i.elim (λz=>by rw[z];exact RG) (on _));rcases RO.mp j with z|z
 ·rw[z]at l2 ⊢;omega
 ·have:=h m z;omega) k hd
theorem KY{c b:TE}{f e:L4->Res D}(k:PJ Y (KR Y .X) E ms c f)(hd:PJ Y (KR Y .X) E ms b e):
 PJ Y (KR Y .F) E ms (FU (λxs g H Q=>∃p ns d,xs=[.ref p]/\g=[d]/\SqL K H p (ns.map V.int)/\(ns=[]->Q d H)/\∀m∈ns,(∀x∈ns,x<=m)->Q (.int m) H) (bS c dE) (bS b dE)) (bn (oM gq) f e):=Ib (ok:=λm x=>x<=m) (λns n m j a=>by
 obtain⟨i,s2,h⟩:=ie ns n;have l2:=a _ (i.elim (λz=>by rw[z];exact RG) (on _));rcases RO.mp j with z|z
 ·rw[z]at l2 ⊢;omega
 ·have:=h m z;omega) k hd
def oz:D->Res D
 |.lst ds=>(match cO ds with|some ns=>(if ns.length<4000 then .ok (.int (dd ns).length) else .bad)|none=>.bad)
 |_=>.bad
theorem CK{c:TE}{d:L4->Res D}(g:PJ Y (KR Y .X) E ms c d):PJ Y (KR Y .F) E ms
 (FG (λxs H Q=>∃a S n,xs=[.ref a]/\H a=some (.set S n)/\Q (.int n) H) (bS (FG (λxs H Q=>∃p ns,xs=[.ref p]/\SqL K H p (ns.map V.int)/\ns.length<4000/\∀q,H q=none->Q (.ref q) (upd H q (.set (λk=>(dd ns).any (·==k)) (dd ns).length))) (bS c dE)) dE)) (un oz d):=by
 intro B U As Z H T Q R P;refine g.bnd R P λx v I U1 L O _ f l j M W=>?_;have M:Dn Y L x v:=M;cases x with
 |lst ds=>
   rw[Dn]at M;obtain⟨a,xs,rfl,i,h⟩:=M;replace W:Po Y (KR Y .F) E ms I U1 As Z L T (match cO ds with|some ns=>(if ns.length<4000 then .ok (.int (dd ns).length) else .bad)|none=>.bad) Q:=W;cases b:cO ds with
   |none=>rw[b]at W;exact W.elim
   |some ns=>
     have ex:=ij b h;subst ex;rw[b]at W;replace W:Po Y (KR Y .F) E ms I U1 As Z L T (if ns.length<4000 then .ok (.int (dd ns).length) else .bad) Q:=W;by_cases z:ns.length<4000
     ·rw[RF z]at W;exact⟨a,ns,rfl,SqL.of i,z,λq e=>⟨q,_,_,rfl,aY,W _ I U1 _ [] (f.new e) (Gw.newO f e) New.nil (show Dn Y _ (.int _) _ by rw[Dn])⟩⟩
     ·rw[RE z]at W;exact W.elim
 |_=>exact W.elim
def L7:D->Option (Int×Int×List Int)
 |.tup [.int a,.int b,.lst xs]=>(cO xs).map λns=>(a,b,ns)
 |_=>none
theorem Al{x:D}{a b:Int}{ns:List Int}(h:L7 x=some (a,b,ns)):∃xs,x=.tup [.int a,.int b,.lst xs]/\cO xs=some ns:=by
 unfold L7 at h;split at h
 ·obtain⟨ms,e,c⟩:=Sd.mp h;cases c;exact⟨_,rfl,e⟩
 ·cases h
theorem jW{x:D}{v:V}{a b:Int}{ns:List Int}(e:L7 x=some (a,b,ns))(c:Dn Y H x v):∃p l,v=.ref p/\SqT K H p [.int a,.int b,.ref l]/\SqL K H l (ns.map V.int):=by
 obtain⟨xs,rfl,o⟩:=Al e;rw[Dn]at c;obtain⟨p,ys,rfl,n,i⟩:=c;rw[Dns]at i;obtain⟨t,y,rfl,M,h⟩:=i;rw[Dns]at h;obtain⟨s,w,rfl,k,g⟩:=h;rw[Dns]at g;obtain⟨r,u,rfl,j,f⟩:=g;rw[Dns]at f;rw[Dn]at M;rw[Dn]at k;rw[Dn]at j;obtain⟨l,q,rfl,d,m⟩:=j;subst M k f;rw[ij o m]at d;exact⟨p,l,rfl,SqT.of n,SqL.of d⟩
def uv(x y:D):Res D:=match toPy x,toPy y with
 |some p,some (.list xs)=>if SeqAt.shaped p=true/\SeqAt.shaped (.list xs)=true/\(xs.all λz=>SeqAt.noMix z p)=true then .ok (.bl (!decide (countIn p xs≠0))) else .bad
 |_,_=>.bad
def Ck(K:F0):R2:=λx y H Q=>∃d xs,L2.Den K H d x/\L2.Den K H (.list xs) y/\SeqAt.shaped d=true/\SeqAt.shaped (.list xs)=true/\(∀z∈xs,SeqAt.noMix z d=true)/\Q (.bl (!decide (countIn d xs≠0))) H
theorem Bz:S2 Y (Ck Y.K) uv:=by
 intro H x y v u b a;unfold uv;cases d:toPy x with
 |none=>trivial
 |some p=>
   cases c:toPy y with
   |none=>trivial
   |some q=>
     cases q with
     |list xs=>
       dsimp only;by_cases z:SeqAt.shaped p=true/\SeqAt.shaped (.list xs)=true/\(xs.all λz=>SeqAt.noMix z p)=true
       ·rw[RF z];exact⟨.bl _,λ_=>by rw[Dn],λQ h=>⟨p,xs,den_of d b,den_of c a,z.1,z.2.1,λy a=>TH.mp z.2.2 y a,h⟩⟩
       ·rw[RE z];trivial
     |_=>trivial
theorem z7{X:Cx}(j:X.A.units+65<cLine):l6 X (compareOp .NotIn) (Ck X.K):=by
 intro a s Z H x y v u Q I f e h;obtain⟨d,xs,hd,k,c,b,nm,q⟩:=h;obtain⟨l,i⟩:=den_reads I d hd f;obtain⟨bs,g⟩:=den_reads I _ k e;exact PyProof.Rows.notIn_list_dataH g i b c j nm ⟨.bl _,H,I,rfl,q⟩
theorem Ar{A:Around}{k:Nat}(a:Room k A):A.units+65<cLine:=by have:=a.un;omega
end
end Mi
namespace Mi
open PySem L2
def i8:List Ap->List Md->Bool
 |[],[]=>true
 |p::ps,m::r=>sD [] true p m&&i8 ps r
 |_,_=>false
theorem eE:∀{ps:List Ap} {mc:List Md},i8 ps mc=true->ps.length=mc.length
 |[],[],_=>rfl
 |[],_::_,h=>by cases h
 |_::_,[],h=>by cases h
 | p::ps,m::r,h=>by
   have h:(sD [] true p m&&i8 ps r)=true:=h;rw[S7]at h;rw[RL,RL,eE h.2]
theorem eF{ms:List Md}:∀{ps:List Ap} {mc:List Md},i8 ps mc=true->∀(j:Nat) p,ps[j]?=some p->sD ms true p (mc.getD j .F)=true
 |[],_,_,_,_,e=>by cases e
 |_::_,[],h,_,_,_=>by cases h
 | p::ps,m::r,h,j,q,e=>by
   have h:(sD [] true p m&&i8 ps r)=true:=h;rw[S7]at h;cases j with
   |zero=>
     cases e
     have:=h.1
     cases p <;> cases m <;> first | exact this | cases this
   |succ j=>rw[TN];exact eF h.2 j q (by simpa using e)
def pc(b:List D->Out D)(a:L4->Res (List D)):L4->Res D:=λT=>(a T).bind (gb b)
def pm(c:Nat)(b:Str)(d:List D->Out D)(o:L4->Res D)(a:L4->Res (List D)):L4->Res D:=λT=>(o T).bind λo=>if cA c b o=true then (a T).bind λds=>gb d (o::ds) else .bad
def pk(c:Nat)(b:List D->Out D)(a:L4->Res (List D)):L4->Res D:=λT=>(a T).bind (fV c b)
def mc(ps:List Ap)(b:List D->Out D)(a:L4->Res (List D)):L4->Out D:=λT=>((a T).up T).bind (fg ps b)
def mm(c:Nat)(b:Str)(ps:List Ap)(d:List D->Out D)(o:L4->Res D)(a:L4->Res (List D)):L4->Out D:=λT=>((o T).up T).bind λo T=>if cA c b o=true then ((a T).up T).bind λds T=>fg ps d (o::ds) T else .bad
section
variable{Y:Cm}{Kr:KT D V}{pr:Nat->Bool}{ms:List Md}{K:F0}
theorem fi{B U H:Hp}{N:List Addr}:KR Y .F .non .non B U H N:=show Dn Y B .non .non by rw[Dn]
end
theorem lZ{Y:Cm}{G:Hp}:∀ns:List Int,Dns Y G (ns.map D.int) (ns.map V.int)
 |[]=>by rw[SM,SM,Dns]
 | n::r=>by
   rw[RJ,RJ,Dns];exact⟨_,_,rfl,by rw[Dn],lZ r⟩
theorem LX{Y:Cm}{b:List D->Out D}(h:∀ns:List Int,ns.length<=63->∃T,b [.scr (ns.map D.int)]=.ok (.bl true) T){vs:List V}{H:Hp}{Q:VK}{a:Addr}{ns:List Int}(c:vs=[.ref a])(f:SqF Y.K H a (ns.map V.int))(j:ns.length<=63)(d:∀p∈Y.tb,∃l,H p.1=some (.tbl l)/\p.2∈l)(g:∀H',Q (.bl true) H'):
 dO Y [.R] (KR Y .F) b vs H Q E0:=by
 subst c;obtain⟨T,e⟩:=h ns j;refine⟨H,H,λ_=>[],[.scr (ns.map D.int)],⟨Same.refl _,Same.refl _,λ_=>Sy,λ_ _ _ _ z=>(nomatch z),λ_ _ z=>(nomatch z),λi=>?_,rfl,d⟩,rfl,?_⟩
 · rw[eJ,eJ];cases i with
   |zero=>exact⟨.ref a,rfl,by show Dn Y H (.scr _) _;rw[Dn];exact⟨a,_,rfl,f,lZ ns⟩,rfl⟩
   |succ i=>exact rfl
 ·rw[e];intro v S M J H' N o n m k;have k:Dn Y S (.bl true) v:=k;rw[Dn]at k;rw[k];exact g H'
theorem JH{K:F0}{H:Hp}{a:Addr}{xs:List V}{T:Tbs}(o:Fx T H)(h:SqL K H a xs):SqF K H a xs:=by
 rcases h with (h|h)|h
 · rcases o.2 a with z|⟨ob,ys,z⟩|z
   ·rw[z]at h;cases h
   ·rw[z]at h;cases h
   ·rw[z]at h;cases h
 ·exact .inl h
 ·exact .inr h
theorem NF{H:Hp}{T:Tbs}(o:Fx T H):∀p∈T,∃l,H p.1=some (.tbl l)/\p.2∈l:=λp hp=>⟨_,o.1 p hp,Tbs.mem.mpr hp⟩
def na(m:L4->Res D):L4->Res D:=λT=>(m T).bind λd=>if bD d=true then .ok d else .bad
end Mi
namespace Mi
open PySem L2 PyProof.Rows
theorem E1(ns:List Int):(dd ns).length<=ns.length:=by
 have:=(EZ ns []).1
 rw[List.length_nil,Nat.zero_add]at this;exact this
end Mi
namespace Mi
open PySem L2
section
variable{Y:Cm}{E:XK}{ms:List Md}
theorem nq{b:TE}{a:L4->Res D}(f:PJ Y (KR Y .F) E ms b a):PJ Y (KI Y .F .U) E ms (qR Y.K b) (kH a):=by
 intro B U As Z H T Q R P;refine ss f B U As Z H T Q R ?_;cases e:kH a T with
 |ok ds=>
   rw[e]at P;intro J I U1 L N d g n ⟨vs,h,hd⟩;exact P J I U1 L N d g n ⟨vs,λi s=>h i (d.bu.trans s),hd⟩
 |exc c=>rw[e]at P;exact P
 |bad=>rw[e]at P;exact P
end
end Mi
namespace L2
open PySem PySem.Spec PyProof.Rows
section
variable{X:Cx}(K:F0)
theorem fc(h:X.K=K):QI X (Ky K):=by subst h;exact GQ
theorem kT(h:X.K=K):QI X (Gk K):=by subst h;exact L8
theorem cL(h:X.K=K):gy X (.builtin "len") (λxs H Q=>∃p ys,xs=[.ref p]/\(SqL K H p ys\/SqT K H p ys)/\Q (.int ys.length) H):=by subst h;exact tO
theorem cK(h:X.K=K):gy X (.type "list") (λxs H Q=>∃p ys,xs=[.ref p]/\(SqL K H p ys\/SqT K H p ys)/\∀l,H l=none->Q (.ref l) (upd H l (.lst ys))):=by subst h;exact tN
theorem f9(h:X.K=K):gy X (.type "tuple") (λxs H Q=>∃p ys,xs=[.ref p]/\((SqL K H p ys/\∀l,H l=none->Q (.ref l) (upd H l (.tup ys)))\/(SqT K H p ys/\Q (.ref p) H))):=by subst h;exact ql
theorem xB(h:X.K=K)(a:X.calm=true):gy X (.type "set") (λxs H Q=>∃p ns,xs=[.ref p]/\SqL K H p (ns.map V.int)/\ns.length<4000/\∀q,H q=none->Q (.ref q) (upd H q (.set (λk=>(dd ns).any (·==k)) (dd ns).length))):=by subst h;exact AI a
theorem xD(h:X.K=K)(b:X.calm=true):l7 X (.builtin "min") ["default"] (λxs a H Q=>∃p ns d,xs=[.ref p]/\a=[d]/\SqL K H p (ns.map V.int)/\(ns=[]->Q d H)/\∀m∈ns,(∀x∈ns,m<=x)->Q (.int m) H):=by subst h;exact AM b
theorem xE(h:X.K=K)(b:X.calm=true):l7 X (.builtin "max") ["default"] (λxs a H Q=>∃p ns d,xs=[.ref p]/\a=[d]/\SqL K H p (ns.map V.int)/\(ns=[]->Q d H)/\∀m∈ns,(∀x∈ns,x<=m)->Q (.int m) H):=by subst h;exact AN b
theorem yp(h:X.K=K)(a:X.A.units+64<cLine):l6 X (compareOp .Eq) (Co K false):=by subst h;exact K6 a
theorem Gu(h:X.K=K)(a:X.A.units+64<cLine):l6 X (compareOp .NotEq) (Co K true):=by subst h;exact K5 a
theorem nQ(h:X.K=K)(a:X.A.units+65<cLine):l6 X (compareOp .NotIn) (Mi.Ck K):=by subst h;exact Mi.z7 a
theorem aW{e:Expr}{a:TE}{f:Str}{pos:Pos}(h:X.K=K)(b:PE X e a)(c:attributeBase e f X.env (eval e X.env)=eval e X.env):PE X (.Attribute e f pos) (zH K a f):=by subst h;exact KM b c
theorem dQ{b l:Expr}{a:TE}(h:X.K=K)(c:PE X l a):PI X b l (qR K a):=by subst h;exact Go c
end
end L2
namespace Mi
open PySem L2
def spT(K:F0)(T:Tbs):Sp:=λvs H Q _=>∃(a:Addr) (ns:List Int),vs=[.ref a]/\SqF K H a (ns.map V.int)/\ns.length<=63/\(∀p∈T,∃l,H p.1=some (.tbl l)/\p.2∈l)/\∀H',Q (.bl true) H'
section
variable{Y:Cm}{E:XK}{ms:List Md}
theorem fF(i:Nat)(a:ms.getD i .F= .F:=by rfl):PJ Y (KR Y .F) E ms (eT i) (vr i):=xF a
theorem fR(i:Nat)(a:ms.getD i .F= .R:=by rfl):PJ Y (KR Y .U) E ms (eT i) (vr i):=xR a
theorem fO(i:Nat){sh:Sh}(a:ms.getD i .F= .O sh:=by rfl):PJ Y (KR Y .X) E ms (eT i) (vr i):=xO a
theorem fC(i:Nat)(a:ms.getD i .F= .O (.ct .fz):=by rfl):PJ Y (KC Y .F) E ms (eT i) (vr i):=xC a
end
def wn:D->D->Res D
 |.lst xs,.int k=>if (0<=k/\k<=1000000)/\xs.length*k.toNat<=aj then .ok (.lst (List.replicate k.toNat xs).flatten) else .bad
 |_,_=>.bad
section
variable{Y:Cm}{E:XK}{ms:List Md}
theorem Dns.rep{B:Hp}{ds:List D}{xs:List V}(h:Dns Y B ds xs):∀k:Nat,Dns Y B (List.replicate k ds).flatten (List.replicate k xs).flatten
 |0=>by rw[List.replicate_zero,List.replicate_zero,List.flatten_nil,List.flatten_nil,Dns]
 |k+1=>by rw[Sw,Sw,SL,SL];exact Dns.append h (Dns.rep h k)
theorem Os{e tb:TE}{g f:L4->Res D}(n:PJ Y (KC Y .F) E ms e g)(m:PJ Y (KR Y .X) E ms tb f):PJ Y (KO Y (.ct .fz)) E ms (Bi Oj e tb) (bn wn g f):=by
 intro B U As Z H T Q R P;refine n.bnd R P λx v I U1 L O _ r A w M W=>m.bnd r W λy u s q l C _ R2 j t d c=>?_;have M:Cn Y I L x v:=M;have d:Dn Y l y u:=d;cases x with
 |lst ds=>
   have M:∃a xs,v=.ref a/\L a=some (.lst xs)/\Dns Y I ds xs:=M;obtain⟨a,xs,rfl,o,i⟩:=M;cases y with
   |int k=>
     rw[Dn]at d;subst d;replace c:Po Y (KO Y (.ct .fz)) E ms s q As Z l T (if (0<=k/\k<=1000000)/\ds.length*k.toNat<=aj then .ok (.lst (List.replicate k.toNat ds).flatten) else .bad) Q:=c;by_cases z:(0<=k/\k<=1000000)/\ds.length*k.toNat<=aj
     ·rw[RF z]at c;refine⟨a,k,xs,rfl,rfl,j.h _ _ o,by omega,by omega,?_,λp hp=>dX R2 c ((i.mono j.b).rep _) hp⟩;rw[<-i.len];exact Su z.2 (by decide)
     ·rw[RE z]at c;exact c.elim
   |_=>exact c.elim
 |_=>exact c.elim
end
end Mi
namespace L2
open PySem
theorem Pk{P:List Value->Prop}(h:P []):∀us:List Value,us.length=0->P us:=by
 intro us a;rw[SG.mp a];exact h
theorem qK{P:List Value->Prop}(h:∀c:Value,P [c]):∀us:List Value,us.length=1->P us:=by
 intro us b;cases us with
 |nil=>cases b
 |cons a us=>exact Pk (P:=λus=>P (a::us)) (h a) us (T3 b)
theorem d9{P:List Value->Prop}(h:∀d c:Value,P [d,c]):∀us:List Value,us.length=2->P us:=by
 intro us b;cases us with
 |nil=>cases b
 |cons a us=>exact qK (P:=λus=>P (a::us)) (h a) us (T3 b)
theorem i3{P:List Value->Prop}(h:∀e d c:Value,P [e,d,c]):∀us:List Value,us.length=3->P us:=by
 intro us b;cases us with
 |nil=>cases b
 |cons a us=>exact d9 (P:=λus=>P (a::us)) (h a) us (T3 b)
theorem yz{P:List Value->Prop}(h:∀f e d c:Value,P [f,e,d,c]):∀us:List Value,us.length=4->P us:=by
 intro us b;cases us with
 |nil=>cases b
 |cons a us=>exact i3 (P:=λus=>P (a::us)) (h a) us (T3 b)
theorem D7{P:List Value->Prop}(h:∀g f e d c:Value,P [g,f,e,d,c]):∀us:List Value,us.length=5->P us:=by
 intro us b;cases us with
 |nil=>cases b
 |cons a us=>exact yz (P:=λus=>P (a::us)) (h a) us (T3 b)
theorem Pj{P:List Value->Prop}(h:∀i g f e d c:Value,P [i,g,f,e,d,c]):∀us:List Value,us.length=6->P us:=by
 intro us b;cases us with
 |nil=>cases b
 |cons a us=>exact D7 (P:=λus=>P (a::us)) (h a) us (T3 b)
end L2
namespace L2
open PySem PySem.Spec PyProof.Rows
section
variable{P:Program}{w:World}{H H':Hp}{h h':Heap}{a:Addr}{o:HO}
theorem ObjOk.ex(x:ObjOk P w H h a o):∃u,h.get? a=some u:=by
 cases o with
 |lst xs=>obtain⟨_,_,_,_,e⟩:=x;exact⟨_,e⟩
 |tup xs=>obtain⟨_,_,_,_,e,_⟩:=x;exact⟨_,e⟩
 |dK b=>obtain⟨_,_,_,_,o,_,_,e,_⟩:=x;exact⟨_,e⟩
 |dT b=>obtain⟨_,_,_,_,o,_,_,e,_⟩:=x;exact⟨_,e⟩
 |set S n=>obtain⟨o,_,_,_,e,_⟩:=x;exact⟨_,e⟩
 |ins C dx fs=>obtain⟨_,_,_,e,_⟩:=x;exact⟨_,e⟩
 |own y=>obtain⟨_,e⟩:=x;exact⟨_,e⟩
 |xd fs=>obtain⟨_,⟨_,_,_,e,_⟩,_⟩:=x;exact⟨_,e⟩
 |rng lo hi=>obtain⟨_,_,_,e⟩:=x;exact⟨_,e⟩
 |frz ob u=>obtain⟨e,_⟩:=x;exact⟨_,e⟩
 |tbl l=>obtain⟨_,_,e,_⟩:=x;exact⟨_,e⟩
 |met f y=>exact⟨_,show h.get? a=some _ from x⟩
 |ext c=>obtain⟨_,⟨_,e⟩,_⟩:=x;exact⟨_,e⟩
theorem HOk.none(x:HOk P w H h)(e:h.get? a=Option.none):H a=Option.none:=by
 cases q:H a with
 |none=>rfl
 |some u=>obtain⟨v,r⟩:=(x a u q).ex;rw[e]at r;cases r
theorem HOk.hide(x:HOk P w H h){l:List Addr}(d:∀b∈l,H b=Option.none):HOk P w H (PySem.W.hideAll h l):=λa o e=>
 (x a o e).stay (λb u c q=>Tg l q λz=>by
   have n:=d b z;rcases c with rfl|c
   ·rw[n]at e;cases e
   ·rw[n]at c;cases c) (λ_ q=>q) λ_ _ q=>q
end
def eu(P:Program)(w:World):xK:=λouter H s E e s'=>∃(a C:Addr) (d:Value) (B:Heap) (H':Hp),e=.ref a/\s'.os=s.os/\AllBare s'.gens/\Un (jq outer) (jq outer) H H' s.heap B/\HOk P w H' B/\
 Heap.FlyingW B outer a (.ref C) d s'.heap/\(∀b∈jq outer,∀o,s.heap.get? b=some o->∃c,s'.heap.get? b=some {o with slots:=c})/\(∀b∈jq outer,H' b=none)/\E (.ref C) none H'
theorem Un.cut{fs:List Addr}{l:Addr}{j H H':Hp}{h0 h B:Heap}(a:Un fs [] j H h0 h)(b:Un (l::fs) (l::fs) H H' h B)(n:h0.get? l=none):Un fs fs j H' h0 B:=by
 have ne:∀c o,h0.get? c=some o->c∉fs->c∉l::fs:=λc o q e z=>by
  rcases RO.mp z with rfl|z
  ·rw[n]at q;cases q
  ·exact e z
 refine⟨λc o q f e _=>b.keep c o (a.keep c o q f e (by simp)) (a.free c o q f (by simp)) (ne c o q e) (ne c o q e),λc o q f e g=>absurd e g,λc o q f g=>?_,λc o q g=>?_,λc xs q=>b.tups c xs (a.tups c xs q),λc o u q=>b.frzs c o u (a.frzs c o u q),
  λc xs q=>⟨(b.tbls c xs (a.tbls c xs q).1).1,λd o i p=>let ⟨m,k⟩:=(a.tbls c xs q).2 d o i p;(b.tbls c xs (a.tbls c xs q).1).2 d o m k⟩⟩
 ·obtain⟨o',i⟩:=a.there c o q (by simp);exact b.free c o' i (a.free c o q f (by simp)) (ne c o q g)
 ·obtain⟨o',i⟩:=a.there c o q (by simp);exact b.there c o' i (ne c o q g)
theorem Un.hide{fs:List Addr}{P:Program}{w:World}{H:Hp}{h:Heap}(hok:HOk P w H h)(n:∀b∈fs,H b=none):Un fs fs H H h (PySem.W.hideAll h fs):=
 ⟨λc o q f e _=>Tg fs q e,λc o q f e a=>absurd e a,λc o q f a=>f,λc o q a=>⟨o,Tg fs q a⟩,λ_ _ q=>q,λ_ _ _ q=>q,
  λc xs q=>⟨q,λd o g i=>⟨g,Tg fs i λz=>by rw[n d z]at g;cases g⟩⟩⟩
theorem Un.fly{fs:List Addr}{H H':Hp}{h B h':Heap}(u:Un fs fs H H' h B)(st:B.StaysIn h')(a:∀b∈fs,∀o,h.get? b=some o->∃a,h'.get? b=some {o with slots:=a})(fr:∀b∈fs,H' b=none):Un fs [] H H' h h':=
 ⟨λc o q f g _=>st _ _ (u.keep c o q f g g),λc o q f g _=>a c g o q,λc o q f _=>by
  by_cases z:c∈fs
  ·exact fr c z
  ·exact u.free c o q f z,λc o q _=>by
  by_cases z:c∈fs
  ·obtain⟨x,e⟩:=a c z o q;exact⟨_,e⟩
  ·obtain⟨o',e⟩:=u.there c o q z;exact⟨_,st _ _ e⟩,u.tups,u.frzs,λc xs q=>⟨(u.tbls c xs q).1,λd o l k=>let ⟨j,i⟩:=(u.tbls c xs q).2 d o l k;⟨j,st _ _ i⟩⟩⟩
structure Own (X:Cx) (E:XK):Prop where
 xe:X.xe=λe s'=>wpAny (model X.prog X.w) X.A («leaving» X.env e) (λ_ s''=>eu X.prog X.w X.outer X.H₀ X.s₀ E e s'') (λe' s''=>eu X.prog X.w X.outer X.H₀ X.s₀ E e' s'')  s'
 ex:X.ex=[]
 stk:X.stack=X.env::X.outer
 fr:X.env.frame=some X.env.locals
theorem g8{P:Program}{w:World}{K:F0}{mg:Str->Option Value}{base:Heap}{N:List Str}{qual:Str}{scope:Scope}{f:Addr}{a:Value}{A:Around}{outer:List Env}{s:Shared}{H:Hp}{E:XK}:
 Own (oU (eu P w) P w K mg base N qual scope f a A outer s H E) E:=⟨rfl,rfl,rfl,rfl⟩
theorem oJ{env:Env}{l:List Env}{L:Addr}(h:env.frame=some L):jq (env::l)=L::jq l:=by
 unfold jq;rw[List.filterMap_cons,h]
theorem nF{h h':Heap}{base:Heap}{l:List Env}{b:Addr}{o:Obj}(u:h.UpToSlots h')(g:h.FunFrames base l)(f:b∈jq l)(e:h.get? b=some o):∃c,h'.get? b=some {o with slots:=c}:=by
 obtain⟨_,o',a,d⟩:=g.mem f;rw[e]at a;cases a;exact u b o e d
section
variable{X:Cx}{E:XK}{pins:L0}{Z:St}{H:Hp}{s:Shared}
theorem Inv.above(I:Inv X pins Z H s):X.s₀.heap.get? X.env.locals=none:=Heap.get?_none_of_le I.ok.above
theorem Own.passes(O:Own X E):iA (eu X.prog X.w) X E:=by
 intro pins Z H s e s' I h;obtain⟨j,C,n,B,H',rfl,os,bare,un,hok,c,d,fr,q⟩:=h;rw[O.xe];rw[O.stk]at un c d fr;rw[oJ O.fr]at un d fr;have r:=c.2.2.1;refine wpAny_leaves_onW (by rw[<-O.stk];exact I.ok.frames) O.fr c λh' f up=>?_;have g:Un (jq X.outer) [] X.H₀ H X.s₀.heap s.heap:=by have:=I.base;rw[O.ex]at this;exact this
 refine⟨j,C,n,B,H',rfl,os.trans I.os,bare,g.cut un I.above,hok,f,λb a o e=>?_,λb a=>fr b (on _ a),q⟩;obtain⟨p,m⟩:=g.slot b o e (I.ok.frf b a) a (by simp);obtain⟨l2,l⟩:=d b (on _ a) _ m;obtain⟨i,k⟩:=nF up c.2.2.1.2.2 a l;exact⟨i,k⟩
theorem Own.raised(O:Own X E){h':Heap}{d C:Addr}{vs:List Value}(I:Inv X pins Z H s)(m:Heap.MadeExcOf s.heap h' d (.ref C) vs)(q:E (.ref C) none H):X.xe (.ref d) {s with heap:=h'}:=by
 rw[O.xe];have f:Un (jq X.outer) [] X.H₀ H X.s₀.heap s.heap:=by have:=I.base;rw[O.ex]at this;exact this
 have fs:=I.stack;rw[O.stk]at fs;have c:∀b∈jq (X.env::X.outer),H b=none:=by have:=I.stkFree;rw[O.stk]at this;exact this
 have k:s.heap.FunFrames (PySem.W.hideAll s.heap (jq (X.env::X.outer))) (X.env::X.outer):=PySem.W.funFrames_hide fs λenv i b a=>Ul.mpr ⟨env,i,a⟩;refine wpAny_leaves_madeW (h:=s.heap) (base:=PySem.W.hideAll s.heap (jq (X.env::X.outer))) (by rw[<-O.stk];exact I.ok.frames) O.fr (λb o e=>PySem.W.of_hideAll _ e) k m λx t j u v up=>?_
 have un:Un (X.env.locals::jq X.outer) (X.env.locals::jq X.outer) H H s.heap (PySem.W.hideAll s.heap (jq (X.env::X.outer))):=by
  have:=Un.hide I.hok c
  rw[oJ O.fr]at this ⊢;exact this
 refine⟨d,C,.ref t,_,H,rfl,I.os,I.bare,f.cut un I.above,I.hok.hide c,j,λb a o e=>?_,λb a=>c b (by rw[oJ O.fr];exact on _ a),q⟩;obtain⟨w,r⟩:=f.slot b o e (I.ok.frf b a) a (by simp);have p:=m.keeps _ _ r;have l:h'.FunFrames X.base X.outer:=I.funs.of_keeps λb o e _=>⟨o,m.keeps _ _ e,rfl⟩;obtain⟨g,n⟩:=nF up l a p;exact⟨g,n⟩
theorem Own.own(O:Own X E):PassesOwn (model X.prog X.w) X.A X.env X.xe:=by
 rw[O.xe];exact PassesOwn.leaving
end
def iZ(K:F0)(C:Addr):List Value:=match K.lookup C with
 |some ⟨_,_,.cls a,_⟩=>a.mro
 |_=>[]
abbrev vBm:List Value:=[.type "ValueError",.type "Exception",.type "BaseException",.type "object"]
def jZ(K:F0)(C:Addr):Bool:=PySem.W.excIn K C vBm "ValueError.__new__"
theorem sE{K:F0}{h:Heap}{C:Addr}(X:K.In h)(q:jZ K C=true):∃(bm:List Value) (N:Addr) (nm c:Str) (bs:List Value) (hdct:Bool) (sn:List Str) (sub:List Value) (ab:Bool) (col:Option Bool) (dd:Option Addr) (k0 k1 k2 k3 k5:Option Value) (mN:Str->Option Value),
 h.get? C=some (excClassObj nm c C N bs bm hdct sn sub ab col dd k0 k1 k2 k3 k5 "ValueError.__new__")/\h.Ns N mN/\mN "__init__" = none/\OwnTail h vBm bm/\iZ K C=.ref C::bm:=by
 unfold jZ PySem.W.excIn at q;split at q
 · rename_i dd r g j;split at q
   · rename_i k bm k0 k1 k2 k3 n k5 f i;simp only[Bool.and_eq_true,beq_iff_eq,Bool.not_eq_true']at q;obtain⟨⟨⟨⟨⟨rfl,rfl⟩,a⟩,o⟩,hok⟩,b⟩:=q;have e:iZ K k=.ref k::bm:=by unfold iZ;rw[j];exact f
     obtain⟨nm,bs,m,ns,c,hd,sn,sub,ab,col,p⟩:=r;dsimp only at f a hok b;subst f a
     have d:g=#[k0,k1,k2,k3,some (.builtin "ValueError.__new__"),k5]:=by
      obtain⟨l⟩:=g;simp only at i;rw[i]
     subst d;exact⟨bm,ns,nm,c,bs,hd,sn,sub,ab,col,dd,k0,k1,k2,k3,k5,_,X _ _ j,.of_isNs (PySem.W.isNs_of_in X hok),PySem.W.nsMap_none_of_in X hok b,PySem.W.tail_of_in X o,e⟩
   ·cases q
 ·cases q
section
variable{X:Cx}{E:XK}{x:Str}{C:Addr}{np cpos pos:Pos}{e₀:Expr}{t:TA}
def Bg(E:XK)(C:Addr)(t:TA):TS:=λ_ Z H=>t Z H λvs H'=>vs.length<=1000/\E (.ref C) none H'
theorem fQ(O:Own X E)(r:X.calm=true)(p:Gl X x)(l:X.mg x=some (.ref C))(o:jZ X.K C=true)(u:PA X [e₀] t)(hd:(x==("__debug__" : Str))=false:=by decide)
 (f:starEach [e₀] X.env=(false,eval e₀ X.env)::starEach [] X.env:=by rfl) (c:(backTo cpos (starEach [] X.env)).any (·.1)=false:=by rfl):
 PS X (.Raise (some (.Call (.Name x np) [e₀] [] cpos)) none pos) (Bg E C t):=by
 intro a s Z H D I h;obtain⟨bm,N,nm,j,bs,hdct,sn,sub,ab,col,dd,k0,k1,k2,k3,k5,mN,w,v,d,T,_⟩:=sE I.ok.mod.kin o
 refine wpAny_Raise_call_subT (C:=C) (nm:=nm) (q:=j) (N:=N) (bs:=bs) (bm:=bm) (hdct:=hdct) (sn:=sn) (sub:=sub) (ab:=ab) (col:=col) (dd:=dd) (k0:=k0) (k1:=k1) (k2:=k2) (k3:=k3) (k5:=k5)
  PySem.F.excBase_ValueError (mN:=mN) (T.hasType PySem.F.excBase_ValueError.hasBase) (I.ok.hd r) (by rw[f];show(false||(backTo cpos (starEach [] X.env)).any (·.1))=false;rw[c];rfl) d (jm I p l ⟨rfl,?_⟩ hd)
 have g:=u cpos a s Z H _ I h;rw[f]at g ⊢;refine TD (bV g λus s2 ⟨vs,y,b,i,n,k⟩=>⟨rfl,?_,b.bk _ _ w,v.keeps b.bk,T.keeps b.bk,λh' e m=>O.raised b m k⟩);rw[<-i.length];exact SF (zP n)
end
def PSf(X:Cx)(a:L0)(Z:St)(st:List Stmt)(t:TS):Prop:=∀(s:Shared) (H:Hp) (D:Ends),Inv X a Z H s->t D Z H->wpAny (model X.prog X.w) X.A (execs st X.env) (SP X a D) X.xe s
def PEf(X:Cx)(a:L0)(Z:St)(e:Expr)(t:TE):Prop:=∀(s:Shared) (H:Hp) (Q:VK),Inv X a Z H s->t Z H Q->wpAny (model X.prog X.w) X.A (eval e X.env) (EP X a Z Q) X.xe s
def Pf(CX:xK)(X:Cx)(a:L0)(Z:St)(E:XK):Prop:=∀(H:Hp) (s:Shared) (e:Value) (s':Shared),Inv X a Z H s->CX X.stack H s E e s'->X.xe e s'
def TB(X:Cx)(st:List Stmt)(tb:XK->TS):Prop:=∀(q:L1) (a:L0) (Z:St) (E:XK),Pf (eu X.prog X.w) (X.wish q) a Z E->PSf (X.wish q) a Z st (tb E)
def QV(X:Cx)(e:Expr)(te:XK->TE):Prop:=∀(q:L1) (a:L0) (Z:St) (E:XK),Pf (eu X.prog X.w) (X.wish q) a Z E->PEf (X.wish q) a Z e (te E)
section
variable{X:Cx}{q:L1}
theorem PA.wish{es:List Expr}{t:TA}(h:PA X.nox es t):PA (X.wish q) es t:=λpos a s Z H Q I b=>
 S3 (h pos a s Z H Q (I.unwish.wish _) b) (λ_ _ ⟨v,H',c,r,z⟩=>⟨v,H',c.unwish.wish _,r,z⟩) λ_ _ z=>False.elim z
theorem PE.wish{e:Expr}{t:TE}(h:PE X.nox e t):PE (X.wish q) e t:=λa s Z H Q I b=>
 S3 (h a s Z H Q (I.unwish.wish _) b) (λ_ _ ⟨v,H',c,r,z⟩=>⟨v,H',c.unwish.wish _,r,z⟩) λ_ _ z=>False.elim z
theorem PT.wish{e:Expr}{t:TT}(h:PT X.nox e t):PT (X.wish q) e t:=λa s Z H Q I b=>
 S3 (h a s Z H Q (I.unwish.wish _) b) (λ_ _ ⟨H',c,z⟩=>⟨H',c.unwish.wish _,z⟩) λ_ _ z=>False.elim z
end
section
variable{X:Cx}{CX:xK}{k:Nat}{f C:Addr}{fd:FuncData}{ps:List Str}{sp:Sp}{dvs:List V}{ds:List Value}{E:XK}{x m:Str}{p pos apos:Pos}{e o:Expr}{es:List Expr}{ta:TE}{t:TA}
theorem xQ{a:L0}{Z:St}{H:Hp}{s:Shared}{Q:VK}{us:List Value}{vs:List V}(F:FnOk X.prog X.w X.K X.mg X.base CX k f fd ps sp)(g:Room k X.A)(j:Binds X.K fd ps ds)(hd:Vals dvs ds)(d:Pf CX X a Z E)
 (I:Inv X a Z H s) (r:Vals vs us) (h:sp (vs++dvs) H Q E):wpAny (model X.prog X.w) X.A (call (.ref f) us) (EP X a Z Q) X.xe s:=by
 have c:Vals (vs++dvs) (us++ds):=r.append hd;have i:(us++ds).length=ps.length:=by rw[<-c.length];exact F.len _ _ _ _ h
 refine wpAny_call (TY (F.run X.A X.stack s H ⟨us,[]⟩ (us++ds) (vs++dvs) Q E g I.env0 (j s us I.kIn i) c h) λr s' b=>?_);cases r with
 |error e=>exact d H s e s' I b
 |ok l=>
   cases l with
   |ret u=>exact I.after b
   |next=>exact False.elim b
   |brk=>exact False.elim b
   |cont=>exact False.elim b
theorem xN(F:FnOk X.prog X.w X.K X.mg X.base (eu X.prog X.w) k f fd ps sp)(i:Room k X.A)(m:Gl X x)(j:X.mg x=some (.ref f))(l:PySem.W.keepIn X.K (.ref f)=true)(o:Binds X.K fd ps ds)(hd:Vals dvs ds)
 (u:PA X.nox (e::es) t) (c:(x==("__debug__" : Str))=false:=by decide) (n:starEach (e::es) X.env=(false,eval e X.env)::starEach es X.env:=by rfl) (b:(backTo pos (starEach es X.env)).any (·.1)=false:=by rfl):
 QV X (.Call (.Name x p) (e::es) [] pos) (λE=>l8 sp dvs E t):=by
 intro q a Z E g s H Q I h;refine S8 (jm (X:=X.wish q) I m j ?_ c);refine Tk (h₀:=X.base) I.ok.mod.kin l (bV (PA.wish (q:=q) u pos a s Z H _ I h) λus v ⟨vs,L,d,r,q⟩=>⟨d.kIn,?_⟩) n b;exact xQ F i o hd g d r q
theorem xM{pl:Sem Bool}(G:PE X.nox o ta)(c:Cls X.K C)(i:Meth X.K C m f)(F:FnOk X.prog X.w X.K X.mg X.base (eu X.prog X.w) k f fd ps sp)(D:Room k X.A)(J:Binds X.K fd ps ds)(hd:Vals dvs ds)(M:PA X.nox (e::es) t)
 (d:starEach (e::es) X.env=(false,eval e X.env)::starEach es X.env:=by rfl) (g:(backTo pos (starEach es X.env)).any (·.1)=false:=by rfl)
 (B:eval (.Call (.Attribute o m apos) (e::es) [] pos) X.env=(do
   let ov <-eval o X.env
   standAt apos.atName
   let (f,first) <-holding [ov] (getMethod ov m pl)
   callWith pos f first (backTo pos (starEach (e::es) X.env)) (backToKw pos (keywordEach [] X.env))):=by rfl):
 QV X (.Call (.Attribute o m apos) (e::es) [] pos) (λE=>kB C m sp dvs E ta t):=by
 intro q b Z E z s H Q I h;refine T4 (pl:=pl) (bV (PE.wish (q:=q) G b s Z H _ I h) λu p ⟨x,L,n,v,a,dx,fs,ex,N,l,q⟩=>?_) B;subst ex;obtain rfl:u=Value.ref a:=v;refine jX n N c i l ?_;refine Tk (first:=[.ref a]) (h₀:=X.base) I.ok.mod.kin i.kp (bV (PA.wish M pos b p Z L _ n q) λus s2 ⟨vs,O,j,r,y⟩=>⟨j.kIn,?_⟩) d g;exact xQ (us:=.ref a::us) (vs:=.ref a::vs) F D J hd z j (.cons rfl r) y
theorem rp{te:XK->TE}(f:QV X e te)(d:swapsWith e none pos.line X.env=pure false:=by rfl):TB X [.Expr e pos] (λE=>nC (te E)):=by
 intro q a Z E c s H D I h;refine TF ?_;exact wpAny_Expr_any (bV (f q a Z E c s H _ I h) λv i ⟨x,L,g,j,b⟩=>S4 ⟨Z,L,g,b⟩) I.quiet d
theorem HA{c:Expr}{a b:List Stmt}{g:TT}{t u:XK->TS}(m:PT X.nox c g)(o:TB X a t)(n:TB X b u):TB X [.If c a b pos] (λE=>FT g (t E) (u E)):=by
 intro q e Z E k s H D I h;refine TF ?_;refine wpAny_If (bV (PT.wish (q:=q) m e s Z H _ I h) λd i ⟨L,l,j⟩=>?_);cases d with
 |true=>
   refine bV (o q e Z E k i L D l j) λf s2 z=>?_;cases f with
   |next=>exact S4 z
   |_=>exact z
 |false=>
   refine bV (n q e Z E k i L D l j) λf s2 z=>?_;cases f with
   |next=>exact S4 z
   |_=>exact z
end
abbrev Cx.hand(X:Cx)(a:Addr)(b:Obj):Cx:={X with A:=X.A.mark (some (.ref a)),calm:=false,pn:=(a,b)::X.pn,xe:=λ_ _=>False}
section
variable{X:Cx}{pins:L0}{Z:St}{H:Hp}{s:Shared}{ea:Addr}{oe:Obj}
theorem Cx.Ok.hand(ok:X.Ok):(X.hand ea oe).Ok:=⟨ok.mod,ok.kind,ok.glob,ok.blt,ok.above,ok.inj,ok.has,ok.cab,λz=>(nomatch z),ok.frames,ok.stk,ok.exf,ok.bs,ok.bsz,ok.noex,ok.exfs,ok.funs,ok.frf⟩
theorem Inv.hand(I:Inv X pins Z H s){vs:Array Value}(c:s.heap.get? ea=some oe)(e:H ea=none)(hd:oe.data=.fields vs):Inv (X.hand ea oe) pins Z H s:=by
 refine⟨I.ok.hand,I.os,I.bare,I.base,I.loc,I.cell,I.free,I.freeC,λp hp=>?_,I.hok,I.len⟩;rcases RO.mp (show p∈(ea,oe)::(X.pn++pins) from hp) with rfl|hp
 · refine⟨c,e,λz=>?_,λz=>?_,λv z=>by rw[hd]at z;cases z⟩
   ·obtain⟨m,⟨o,es,ep,a,b,_⟩,_⟩:=I.loc;replace z:ea=X.env.locals:=z;rw[z,a]at c;cases c;rw[hd]at b;cases b
   ·obtain⟨_,o,a,d⟩:=I.funs.mem z;replace a:s.heap.get? ea=some o:=a;rw[c]at a;cases a;exact d _ hd
 ·exact I.pin p hp
theorem Inv.unhand(I:Inv (X.hand ea oe) pins Z H s)(ok:X.Ok):Inv X pins Z H s:=
 ⟨ok,I.os,I.bare,I.base,I.loc,I.cell,I.free,I.freeC,λp hp=>I.pin p (on _ hp),I.hok,I.len⟩
theorem Inv.exc(I:Inv (X.hand ea oe) pins Z H s):s.heap.get? ea=some oe:=(I.pin (ea,oe) RG).1
theorem Inv.fly{s':Shared}{B:Heap}{H':Hp}(I:Inv X pins Z H s)(un:Un (jq X.stack) (jq X.stack) H H' s.heap B)(hok:HOk X.prog X.w H' B)(st:B.StaysIn s'.heap)
 (a:∀b∈jq X.stack,∀o,s.heap.get? b=some o->∃a,s'.heap.get? b=some {o with slots:=a}) (fr:∀b∈jq X.stack,H' b=none) (os:s'.os=s.os) (bare:AllBare s'.gens):Inv X pins Z H' s':=
 I.call' os (un.fly st a fr) (hok.kept st) bare λb z=>absurd z (by simp)
theorem nu{M:Model}{A:Around}{E:L1}{n:Str}{j:Nat}{pos:Pos}{Q:Unit->Shared->Prop}(I:Inv X pins Z H s)(Y:X.N.Nodup)(K:X.N[j]?=some n)(W:X.env.kindOf n=some .local)
 (h:∀s',Inv X pins (Z.set j none) H s'->Q () s'):wpAny M A (do bindName X.env n .none;unbindBehindTheSuite X.env n pos) Q E s:=by
 obtain⟨m,U,V⟩:=id I.loc;have C:(X.env.scope.kind == .class||(X.env.scope.kind == .module&&X.env.locals != X.env.globals))=false:=by rw[I.ok.kind];rfl
 have B:j<Z.length:=by rw[I.len];exact(R5.mp K).1
 have cne:=I.cne;refine wpAny_nameGoes_keeps W U C λh' v F g=>?_
 have a:HOk X.prog X.w H h':=λb ob e=>by
  refine(I.hok b ob e).stay (λc J D q=>(g.2 c ?_).trans q) (λ_ q=>q) λ_ _ q=>q;rintro rfl;have f:=I.free;rcases D with rfl|D
  ·rw[f]at e;cases e
  ·rw[f]at D;cases D
 refine h _ ⟨I.ok,I.os,I.bare,⟨λb o e n G x=>?_,λb o e n G x=>?_,I.base.free,λb o e x=>?_,I.base.tups,I.base.frzs,λb l q=>⟨(I.base.tbls b l q).1,λc o r u=>let ⟨L,f2⟩:=(I.base.tbls b l q).2 c o r u;⟨L,(g.2 c (bf L I.free)).trans f2⟩⟩⟩,⟨_,F,λi y O r u e3=>?_⟩,λy c e=>?_,I.free,I.freeC,λp hp=>?_,a,by simpa using I.len⟩
 ·exact(g.2 b (Sc (RY (RS e) I.ok.above))).trans (I.base.keep b o e n G x)
 ·obtain⟨R,r⟩:=I.base.slot b o e n G x;exact⟨R,(g.2 b (Sc (RY (RS e) I.ok.above))).trans r⟩
 ·obtain⟨o',r⟩:=I.base.there b o e x;exact⟨o',(g.2 b (Sc (RY (RS e) I.ok.above))).trans r⟩
 · by_cases t:i=j
   ·subst t;rw[Ti B]at u;cases u
   · rw[T8 (Th t)]at u;obtain⟨P,S,q⟩:=V i y O r u e3;refine⟨P,S,?_⟩;rcases q with ⟨k,e⟩|⟨k,c,e,z⟩
     · refine .inl ⟨k,?_⟩
       have:y≠n:=λe=>t (nZ Y r (e▸K))
       simp[this,e]
     ·exact .inr ⟨k,c,e,z.sameBut g (cne y c e)⟩
 ·obtain⟨J,z⟩:=I.cell y c e;exact⟨J,z.sameBut g (cne y c e)⟩
 ·obtain⟨e,n,ne,T,d⟩:=I.pin p hp;exact⟨(g.2 p.1 ne).trans e,n,ne,T,d⟩
end
theorem oN{M:Model}{A:Around}{E:L1}{K:F0}{C G:Addr}{h:Heap}{g:Array GenState}{d:Drawn}{t:Nat}{os:OsState}{e:Addr}{k:Obj}{Q:Bool->Shared->Prop}
 (X:K.In h) (kC:jZ K C=true) (v:jZ K G=true) (x:h.get? e=some k) (a:k.cls=.ref C) (l:(iZ K C).contains (.ref G)=true)
 (w:Q true ⟨h,g,d,t,os⟩):wpAny M A (excMatches (.ref e) (.ref G)) Q E ⟨h,g,d,t,os⟩:=by
 obtain⟨bm,N,nm,D,bs,hdct,sn,sub,ab,col,dd,k0,k1,k2,k3,k5,mN,n,_,_,R,u⟩:=sE X kC;obtain⟨i,S,r,q,z,b,p,j,B,o,y,P,O,L,J,I,s,m,_,_,TG,H⟩:=sE X v;rw[u]at l;have c:(Value.ref G::i).contains (.type "BaseException")=true:=by rw[List.contains_cons,TG.hasType PySem.F.excBase_ValueError.hasBase,Bool.or_true]
 have f:=tc_notTuple;unfold excMatches
 repeat (first | (with_reducible refine Uw x ?_;rw[a]) | with_reducible refine Uw m ?_ | with_reducible refine Uw n ?_ | (with_reducible refine wpAny_isSubtype_exc m ?_;rw[c]) | (with_reducible refine wpAny_isSubtype_exc n ?_;rw[l]) | wp_step)
 exact w
section
variable{X:Cx}{st:List Stmt}{tb:XK->TS}{x n:Str}{G:Addr}{j:Nat}{np hp pos:Pos}{b₀:Stmt}{suite:List Stmt}{th:Addr->Addr->TS}{ok:Addr->Prop}
def tH(K:F0)(G:Addr)(ok:Addr->Prop)(g:Addr->Addr->Hp->Prop):XK:=λb _ H'=>∃C,b=.ref C/\jZ K C=true/\(iZ K C).contains (.ref G)=true/\ok C/\∀a,H' a=none->g a C H'
def Be(K:F0)(G:Addr)(ok:Addr->Prop)(j:Nat)(tb:XK->TS)(th:Addr->Addr->TS):TS:=λD Z H=>
 tb (tH K G ok λb C H'=>th b C {nx:=λa L=>D.nx (a.set j none) L,rt:=D.rt,bk:=λa L=>D.bk (a.set j none) L,ct:=λa L=>D.ct (a.set j none) L} (Z.set j (some (.ref b))) H') D Z H
theorem Cz(g:X.stack=X.env::X.outer)(hfr:X.env.frame=some X.env.locals)(Q:TB X st tb)(hg:Gl X x)(hm:X.mg x=some (.ref G))(hG:jZ X.K G=true)(R:X.N.Nodup)(O:X.N[j]?=some n)
 (V:X.env.kindOf n=some .local) (hx:Nz X.env.scope n) (hs:∀c oe C,oe.cls=.ref C->ok C->Fw (X.hand c oe) (b₀::suite) (th c C)) (hd:(x==("__debug__" : Str))=false:=by decide)
 (hf:X.fn n=true\/X.env.scope.names.lookup n=some .local:=by first | exact .inl rfl | exact .inr rfl | assumption):
 PS X (.Try st [.ExceptHandler (some (.Name x np)) (some n) (b₀::suite) hp] [] [] pos) (Be X.K G ok j tb th):=by
 intro a s Z H D I h;refine wpAny_Try_except ?_;refine S3 (Q (λe E=>wpAny (model X.prog X.w) X.A (noteFrame e X.env) (λ_ y=>wpAny (model X.prog X.w) X.A (setFlight e none) (λ_ t=>wpAny (model X.prog X.w) X.A (handleBy e X.env [.ExceptHandler (some (.Name x np)) (some n) (b₀::suite) hp]) (SP X a D) X.xe t) X.xe y) X.xe E) a Z _ ?_ s H D (I.wish _) h) (λd U z=>?_) (λe U z=>z)
 rotate_left
 · cases d with
   |next=>exact S4 z.unwish
   |ret v=>exact z.unwish
   |brk=>exact z.unwish
   |cont=>exact z.unwish
 · intro L U e s' W hcx;obtain⟨c,C,a0,B,H',rfl,os,bare,un,hok,d,sl,fr,C',hCv,kC,M,kok,hh⟩:=hcx;cases hCv;replace W:=W.unwish;replace un:Un (jq X.stack) (jq X.stack) L H' U.heap B:=un;replace d:Heap.FlyingW B X.stack c (.ref C) a0 s'.heap:=d;rw[g]at d;have ff:=d.2.2.1;have hH:H' c=none:=hok.none d.2.1;show wpAny _ _ (noteFrame (.ref c) X.env) _ _ _;refine wpAny_looks_onW (by rw[<-g];exact I.ok.frames) hfr d λh4 fl4 up4=>?_;refine wpAny_landsW fl4 λh5 l up5=>?_;have up:=up4.trans up5
   have F:∀{k:Heap},s'.heap.UpToSlots k->∀b∈jq X.stack,∀o,U.heap.get? b=some o->∃sl,k.get? b=some {o with slots:=sl}:=λ{k} u b Q o e=>by
    obtain⟨l1,e1⟩:=sl b Q o e;rw[g]at Q;obtain⟨l2,e2⟩:=nF u ff Q e1;exact⟨l2,e2⟩
   have I5:Inv X a Z H' { s' with heap:=h5 }:=W.fly (s':={ s' with heap:=h5 }) un hok l.1 (F up) fr os bare;obtain⟨o5,v5,P,hc5,hd5,_⟩:=l.first;have T:Inv (X.hand c o5) a Z H' { s' with heap:=h5 }:=I5.hand P hH hd5;refine wpAny_handleBy_cons (codeAny_handlers_test ?_) (by intro z;cases z);refine jm (X:=X.hand c o5) T hg hm ?_ hd;refine oN (K:=X.K) T.kIn kC hG P hc5 M ?_;show codeAny _ _ _ _ _;refine codeAny_handlers_suite_as ?_;refine lands_againW l λk S Y=>?_;have I6:Inv X a Z H' { s' with heap:=k }:=W.fly (s':={ s' with heap:=k }) un hok S.1 (F (up.trans Y)) fr os bare;obtain⟨o6,v6,he6,hc6,hd6,_⟩:=S.first;have I6h:Inv (X.hand c o6) a Z H' { s' with heap:=k }:=I6.hand he6 hH hd6;refine nD (X:=X.hand c o6) (i:=j) (v:=.ref c) I6h R O hx rfl (λs7 I7=>?_) hf;refine S3 (hs c o6 C hc6 kok a s7 _ H' _ I7 (hh c hH)) (λd s8 z=>?_) λ_ _ z=>z.elim;show wpAny _ _ _ _ _ _;cases d with
   |next=>obtain⟨f,p,J,q⟩:=z;exact nu (J.unhand I.ok) R O V λs9 m=>⟨_,p,m,q⟩
   |brk=>obtain⟨f,p,J,q⟩:=z;exact nu (J.unhand I.ok) R O V λs9 m=>⟨_,p,m,q⟩
   |cont=>obtain⟨f,p,J,q⟩:=z;exact nu (J.unhand I.ok) R O V λs9 m=>⟨_,p,m,q⟩
   |ret u=>obtain⟨v,f,p,J,r,q⟩:=z;exact nu (J.unhand I.ok) R O V λs9 m=>⟨v,_,p,m,r,q⟩
end
end L2
namespace PySem.W
open PySem PySem.Spec PySem.Calls PyProof.Rows
open Builtin Builtin.ObjectAttr Builtin.Getset_descriptor in
theorem GW{prog:Program}{w:World}{A:Around}{R:Result->Shared->Prop}{s:Shared}{x C:Addr}{a:Value}(e:Looks (model prog w) s.heap (typeOf (.ref x)) (.ref C))(d:Looks (model prog w) s.heap (isSubtype (.ref C) (.type "object")) true)
 (h:R (.ok (.ret (.ref C))) s):codeAny (model prog w) A (.call (.builtin "getset_descriptor.__get__") ⟨[.builtin "object.__class__",.ref x,a],[]⟩) R s:=by
 obtain⟨b,g,c,t,os⟩:=s;refine codeAny_call_builtin KF.slot_gs.plain KF.entry_gs (KF.slot_gs.check _ _ _ _ _ _ _ _ KF.type_class (KF.args_gs _ _ _) ?_);unfold Builtin.«getset_descriptor.__get__» descrGet;rw[dga_obj];refine wpAny_bind (wpAny_pure ?_);unfold descrGetter descrCheckInstance descrNameAndClass isInstance;simp only[KF.owner_class]
 repeat lk
 refine⟨Code.quiet_builtin _ (by decide +kernel),codeAny_builtin KF.entry_class ?_⟩;unfold Builtin.«object.__class__» shownTypeOf
 repeat lk
 exact h
open Builtin Builtin.ObjectAttr Builtin.Getset_descriptor in
theorem AA{prog:Program}{w:World}{A:Around}{E:L1}{s:Shared}{K:Frag}{x D:Addr}{m:Obj}{Q:Option Value->Shared->Prop}(X:K.In s.heap)(n:s.heap.get? x=some m)(r:m.cls=.ref D)
 (k:findIn K (.ref D) "__getattribute__" = some (some (.builtin "BaseException.__getattribute__"))) (j:findIn K (.ref D) "__getattr__" = some none) (v:findIn K (.ref D) "__class__" = some (some (.builtin "object.__class__")))
 (o:specialIn K (.builtin "object.__class__") "__get__" = some (some (.builtin "getset_descriptor.__get__"))) (i:takesIn K (.builtin "object.__class__")=some true) (p:mroIn K D (.type "object")=some true) (u:mroIn K D (.type "BaseException")=some true)
 (h:Q (some (.ref D)) {s with toks:=s.toks+1}):wpAny (model prog w) A (getAttr? (.ref x) "__class__") Q E s:=by
 obtain⟨c,g,d,t,os⟩:=s;have e:Looks (model prog w) c (typeOf (.ref x)) (.ref D):=r▸(Looks.ld n).andThen .now;have H:=looks_findIn (M:=model prog w) X k;have L2:=looks_findIn (M:=model prog w) X j;have G:=looks_findIn (M:=model prog w) X v;have C:=looks_mroIn (M:=model prog w) X u;unfold getAttr? getAttrBy? getAttrBy;refine wpAny_bind (wpAny_mkText (wpAny_bind (wpAny_attempt (wpAny_holding (wpAny_bind (e.at (wpAny_bind (H.at ?_))))))));have y:=PySem.F.excAttr_ValueError.ga.bind (.ref x);have f:(Value.builtin "BaseException.__getattribute__" == Value.builtin "object.__getattribute__")=false:=by decide +kernel
 show wpAny _ _ (if _ then _ else _) _ _ _;rw[if_neg (by rw[f];simp)];unfold getAttrByItsOwn hookBefore;rw[if_pos (show onTheHeap (Value.ref D)=true from rfl)];refine wpAny_bind (L2.at ?_);refine wpAny_bind (wpAny_attempt (wpAny_holding ?_));unfold callGetattribute;refine wpAny_bind (wpAny_of_eq y ?_);have q:builtinKind "BaseException.__getattribute__" = some .slot:=by decide +kernel
 have b:splitId "BaseException.__getattribute__" = some ("BaseException","__getattribute__"):=by decide +kernel
 have l:=PySem.F.args_bexc_ga (.ref x) (.str (Str.ofString "__class__") t);have z:Looks (model prog w) c (isInstance (.ref x) (.type "BaseException")) true:=e.andThen C;show wpAny _ _ (call (.builtin "BaseException.__getattribute__") [.ref x,.str (Str.ofString "__class__") t]) _ _ _;refine wpAny_call (codeAny_call_builtin PySem.F.excAttr_ValueError.ga.plain PySem.F.entry_bexc_ga ?_);simp only[checkBuiltinCall,q,b];refine wpAny_bind (z.at ?_);rw[if_neg (by decide)];refine wpAny_of_eq (a:=()) l ?_
 have B:Looks (model prog w) c (Builtin.ObjectAttr.find (.ref x) (.ref D) "__class__") (.bind (.builtin "getset_descriptor.__get__") (.builtin "object.__class__")):=
  G.andThen ((show Looks (model prog w) c (getOf (some (.builtin "object.__class__"))) (some (.builtin "getset_descriptor.__get__")) from looks_specialIn X o).andThen
   ((show Looks (model prog w) c (dataDescriptor? (some (.builtin "object.__class__")) (some (.builtin "getset_descriptor.__get__"))) (some (.builtin "getset_descriptor.__get__",.builtin "object.__class__")) from(looks_takesIn (M:=model prog w) X i).andThen .now).andThen (Looks.tag .now)))
 refine wpAny_bind (wpAny_pure ?_);dsimp only;refine wpAny_bind (wpAny_pure (wpAny_bind (e.at (wpAny_bind (B.at ?_)))));show wpAny _ _ (Builtin.ObjectAttr.bindTo _ _ _ _) _ _ _;show wpAny _ _ (holding [Value.builtin "object.__class__"] (call (Value.builtin "getset_descriptor.__get__") [Value.builtin "object.__class__",Value.ref x,Value.ref D]) >>= ret) _ _ _;refine wpAny_bind (wpAny_holding (wpAny_call (GW (s:=⟨c,g,d,t+1,os⟩) e (looks_mroIn (M:=model prog w) X p) ?_)));refine wpAny_pure ?_;exact handed_on rfl (wpAny_pure h)
def excAt(K:Frag)(D:Addr):Bool:=findIn K (.ref D) "__getattribute__" == some (some (.builtin "BaseException.__getattribute__"))&&(findIn K (.ref D) "__getattr__" == some none&&(findIn K (.ref D) "__class__" == some (some (.builtin "object.__class__")) &&
 (specialIn K (.builtin "object.__class__") "__get__" == some (some (.builtin "getset_descriptor.__get__"))&&(takesIn K (.builtin "object.__class__")==some true&&(mroIn K D (.type "object")==some true&&(mroIn K D (.type "BaseException")==some true&&(clsIn K D).isSome))))))
theorem kitx_exc{K:Frag}{x D:Addr}{i:Obj}(j:i.cls=.ref D)(e:excAt K D=true):KitX K (.ref x) (.ref D) (λh=>h.get? x=some i):=by
 unfold excAt at e;simp only[Bool.and_eq_true,beq_iff_eq]at e;obtain⟨y,w,v,u,t,s,r,p⟩:=e;obtain⟨B,d⟩:=Option.isSome_iff_exists.mp p
 have o:∃a b c,K.lookup D=some ⟨a,b,.cls B,c⟩:=by
  unfold clsIn at d;split at d
  ·rename_i E d' A m f;cases d;exact⟨_,_,_,f⟩
  ·cases d
 obtain⟨a,b,c,f⟩:=o;refine⟨λM h _ I=>j▸(Looks.ld I).andThen .now,λM h X _=>?_,λh l dd its n C X g=>?_,λX I k=>AA X I j y w v u t s r k⟩
 ·intro H F G s' k q;unfold isType loadHead;exact wpAny_bind (wpAny_loadPart (k _ _ (X _ _ f)) (wpAny_pure q))
 ·refine Bool.eq_false_iff.mpr λq=>?_;have e:D=l:=Value.ref.inj (Tj.mp q);subst e;have z:=(X _ _ f).symm.trans g;cases z
end PySem.W
namespace L2
open PySem PySem.Spec PyProof.Rows
section
variable{X:Cx}{ea C:Addr}{oe:Obj}{g:V}{c:Value}
def rIs(ea:Addr)(g:V)(b:Bool):List V->Hp->VK->Prop:=λxs H Q=>xs=[.ref ea,g]/\Q (.bl b) H
theorem p7{b:Bool}(l:oe.cls=.ref C)(j:∀u,RelV g u->u=c)(k:PySem.W.excAt X.K C=true)(e:PySem.W.kitOne X.K (.ref C) c=some b):gy (X.hand ea oe) (.builtin "isinstance") (rIs ea g b):=by
 intro a s Z H xs us Q I r h;obtain⟨rfl,q⟩:=h;obtain⟨u,m,rfl,i,f⟩:=NC r;obtain rfl:u=Value.ref ea:=i;obtain rfl:=j _ f;exact PySem.W.kia_one (PySem.W.kitx_exc l k) I.kIn I.exc e (λz=>nomatch z) λd=>⟨.bl b,H,I.tok d,rfl,q⟩
end
section
variable{P:Program}{w:World}{K:F0}{mg:Str->Option Value}{base:Heap}
theorem Fun.okX{x qual:Str}{st:Stmt}{f:Addr}{fd:FuncData}{N ps:List Str}{k:Nat}{sp:Sp}(F:Fun K x qual st f fd)(S:FnScope N ps (au st))(len:∀vs H Q E,sp vs H Q E->vs.length=ps.length)
 (b:∀(a:Value) (A:Around) (outer:List Env) (s:Shared) (H:Hp) (vs:List V) (Q:VK) (E:XK),Room k (A.deeper (envOfC qual (au st) s.heap.objs.size f a))->sp vs H Q E->
   ∃t,Fw (oU (eu P w) P w K mg base N qual (au st) f a A outer s H E) (d4 st) t/\t {nx:=λ_ H'=>Q .non H',rt:=Q} (gf N vs) H):FnOk P w K mg base (eu P w) (k+1) f fd ps sp:=by
 obtain⟨oc,i,kV,h,pm,an,a,ct,e,rfl,lk,d⟩:=F.ex;exact fn_of lk d S len λA outer s H vs Q E g c=>b a A outer s H vs Q E g c
theorem aD{N:List Str}{qual:Str}{scope:Scope}{f:Addr}{a:Value}{A:Around}{outer:List Env}{s:Shared}{H:Hp}{E:XK}:iA (eu P w) (oU (eu P w) P w K mg base N qual scope f a A outer s H E) E:=g8.passes
theorem jQ{N:List Str}{qual:Str}{scope:Scope}{f:Addr}{a:Value}{A:Around}{outer:List Env}{s:Shared}{H:Hp}{E:XK}:PassesOwn (model P w) (oU (eu P w) P w K mg base N qual scope f a A outer s H E).A (oU (eu P w) P w K mg base N qual scope f a A outer s H E).env (oU (eu P w) P w K mg base N qual scope f a A outer s H E).xe:=g8.own
theorem no1{P:Program}{w:World}{outer:List Env}{H:Hp}{s s':Shared}{e:Value}(h:eu P w outer H s E0 e s'):False:=by
 obtain⟨_,_,_,_,_,_,_,_,_,_,_,_,_,q⟩:=h;exact q
theorem Op{X:Cx}:iA (eu P w) X E0:=λ_ _ _ _ _ _ _ h=>(no1 h).elim
theorem FnOk.calm{k:Nat}{f:Addr}{fd:FuncData}{ps:List Str}{sp:Sp}(F:FnOk P w K mg base (eu P w) k f fd ps sp):FnOk P w K mg base RD k f fd ps (λvs H Q _=>sp vs H Q E0):=
 ⟨λvs H Q E h=>F.len vs H Q E0 h,λA outer s H args us vs Q E c i d a b=>TY (F.run A outer s H args us vs Q E0 c i d a b) λr s' h=>by
  cases r with
  |error e=>exact no1 h
  |ok g=>cases g<;>exact h⟩
end
end L2
namespace Mi
open PySem L2
def fk(c:Nat):L4->SO:=λT=>.exc c T
def ft(T:L4):Option Nat->Bool
 |none=>true
 | some j=>match T[j]? with
   |some none=>true
   |_=>false
theorem lV{T:L4}{j:Nat}(h:ft T (some j)=true):j<T.length/\rg T j=none:=by
 unfold ft at h;dsimp only at h;cases e:T[j]? with
 |none=>rw[e]at h;cases h
 |some x=>
   cases x with
   |none=>exact⟨(List.getElem?_eq_some_iff.mp e).1,by unfold rg;rw[e];rfl⟩
   |some y=>rw[e]at h;cases h
def Ri(j:Option Nat):SO->SO
 |.nx T=>if ft T j=true then .nx T else .bad
 |_=>.bad
def A5(j:Option Nat)(a:Nat->Bool)(d:L4->SO)(b:Nat->L4->SO):L4->SO:=λT=>match d T with
 |.exc c G=>if a c=true/\ft G j=true then Ri j (b c G) else .bad
 |.nx G=>.nx G
 |_=>.bad
section
variable{Y:Cm}{Kr:KT D V}{E:XK}{pr:Nat->Bool}{ms:List Md}{K:F0}
theorem g6{c:Nat}{v:V}:SJ Y E Kr pr ms (Bg E (Y c) (bS (tC v) dE)) (fk c):=λB U As Z H T D R P=>⟨(by decide:1<=1000),P Z B U As H R (Ex.refl _ _) (Kp.refl _ _) none⟩
def Tf(Y:Cm)(E:XK)(ms:List Md)(B U:Hp)(Z:St)(r:SO)(D:Ends):Prop:=match r with
 |.nx G=>∀S M J H',Rel Y ms S M J Z H' G->Ex B U S M->D.nx Z H'
 |.exc c G=>∀S M J H',Rel Y ms S M J Z H' G->Ex B U S M->∀a,E (.ref (Y c)) a H'
 |_=>False
def Nj(Y:Cm)(ms:List Md)(tb:XK->TS)(m:L4->SO):Prop:=∀E B U As Z H T D,Rel Y ms B U As Z H T->Tf Y E ms B U Z (m T) D->tb E D Z H
theorem xi{f:KT D V}{te:XK->TE}{m:L4->Out D}(h:∀E,MJ Y f E ms (te E) m):Nj Y ms (λE=>nC (te E)) (aT m):=by
 intro E B U As Z H T D R P;refine h E B U As Z H T _ R ?_;unfold aT at P;cases e:m T with
 |ok d G=>rw[e]at P;exact λv S M J H' N b a g k=>P S M J H' b a
 |exc c G=>rw[e]at P;exact P
 |bad=>rw[e]at P;exact P
theorem Tf.at{B U I U1:Hp}{Z:St}{r:SO}{D:Ends}(P:Tf Y E ms B U Z r D)(e:Ex B U I U1):Tf Y E ms I U1 Z r D:=by
 cases r with
 |nx G=>exact λS M J H' b a=>P S M J H' b (e.trans a)
 |exc c G=>exact λS M J H' b a=>P S M J H' b (e.trans a)
 |_=>exact P
theorem PF{c:TT}{t u:XK->TS}{mc:L4->Out Bool}{m n:L4->SO}(g:∀E,MJ Y KB E ms c mc)(h:Nj Y ms t m)(k:Nj Y ms u n):Nj Y ms (λE=>FT c (t E) (u E)) (gc mc m n):=by
 intro E B U As Z H T D R P;refine g E B U As Z H T _ R ?_;unfold gc at P;cases e:mc T with
 |ok b G=>
   rw[e]at P;intro v S M J H' N d a i f;cases f;cases b with
   |true=>exact h E S M J Z H' G D d (Tf.at P a)
   |false=>exact k E S M J Z H' G D d (Tf.at P a)
 |exc c G=>rw[e]at P;exact P
 |bad=>rw[e]at P;exact P
def MU(l:List Nat):Nat->Bool:=λc=>l.contains c
theorem Rel.slot{B U H:Hp}{As:Nat->List Addr}{Z:St}{T:L4}{j:Nat}{x:Option V}(R:Rel Y ms B U As Z H T)(h:rg T j=none):Rel Y ms B U As (Z.set j x) H T:=by
 refine⟨R.bu,R.uh,R.nd,R.dj,R.un,λi=>?_,by rw[SH];exact R.len,R.tb⟩;have l:=R.lo i;by_cases z:i=j
 ·subst z;rw[h]at l ⊢;exact l
 · have:rg (Z.set j x) i=rg Z i:=by unfold rg;rw[List.getElem?_set_ne (Ne.symm z)]
   rw[this];exact l
theorem Kp.slot{Z a:St}{j:Nat}{x:Option V}(k:Kp pr Z a)(hp:pr j=false):Kp pr Z (a.set j x):=λi hi=>by
 have:i≠j:=λz=>by rw[z,hp]at hi;cases hi
 have e:rg (a.set j x) i=rg a i:=by unfold rg;rw[List.getElem?_set_ne (Ne.symm this)]
 rw[e];exact k i hi
def En(K:F0)(C:Addr)(c:Value):Bool:=(PySem.W.kitOne K (.ref C) c).getD false
def Nx(K:F0)(C:Addr)(a:List Value):List Bool:=a.map (En K C)
def Kv:List Bool->TA
 |[]=>dE
 |b::l=>bS (tC (.bl b)) (Kv l)
def okL(K:F0)(a:List Value)(C:Addr):Prop:=PySem.W.excAt K C=true/\∀c∈a,(PySem.W.kitOne K (.ref C) c).isSome=true
theorem okL.kit{a:List Value}{C:Addr}{c:Value}(h:okL K a C)(n:Nat)(e:a[n]?=some c):PySem.W.kitOne K (.ref C) c=some (En K C c):=by
 have:=h.2 c (Tz e)
 unfold En;cases q:PySem.W.kitOne K (.ref C) c with
 |none=>rw[q]at this;cases this
 |some b=>rfl
theorem i5{C:Addr}:(∀c∈([]:List Value),(PySem.W.kitOne K (.ref C) c).isSome=true)/\Nx K C []=[]:=⟨λ_ h=>(nomatch h),rfl⟩
theorem bA{C:Addr}{c:Value}{b:Bool}{a:List Value}{l:List Bool}(e:PySem.W.kitOne K (.ref C) c=some b)(h:(∀c∈a,(PySem.W.kitOne K (.ref C) c).isSome=true)/\Nx K C a=l):(∀x∈c::a,(PySem.W.kitOne K (.ref C) x).isSome=true)/\Nx K C (c::a)=b::l:=
 ⟨λx d=>by
  rcases RO.mp d with rfl|d
  ·rw[e];rfl
  ·exact h.1 x d,by
  unfold Nx at h ⊢;rw[List.map_cons,h.2];unfold En
  rw[e];rfl⟩
def isE(K:F0)(a C:Addr)(j:Nat)(g:V)(v:Value):TE:=FG (rIs a g (En K C v)) (bS (eT j) (bS (tC g) dE))
def Ku(K:F0)(a C:Addr)(j:Nat):List (V×Value)->TA
 |[]=>dE
 |p::l=>bS (isE K a C j p.1 p.2) (Ku K a C j l)
theorem xS{a C:Addr}{j:Nat}{Z:St}(b:Z[j]?=some (some (.ref a))):∀{L:List (V×Value)} {H:Hp} {Q:List V->Hp->Prop},Kv (Nx K C (L.map (·.2))) Z H Q->Ku K a C j L Z H Q
 |[],_,_,h=>h
 |p::l,H,Q,h=>⟨.ref a,b,rfl,xS (L:=l) b (Q:=λvs c=>Q (_::vs) c) h⟩
theorem yG{C:Addr}{i j:Nat}{L:List (V×Value)}{bl:List Bool}(e:Nx K C (L.map (·.2))=bl):∀(a:Addr) (D:Ends) (Z:St) (H:Hp),Z[j]?=some (some (.ref a))->rs (FS (Kv bl)) (eh i) D Z H->rs (FS (Ku K a C j L)) (eh i) D Z H:=λa D Z H b h=>by
 subst e;exact xS b h
def HJ(Y:Cm)(K:F0)(Kr:KT D V)(E:XK)(pr:Nat->Bool)(ms:List Md)(g j:Nat)(ok:Addr->Prop)(d:Addr->Addr->TS)(e:Nat->L4->SO)(l:List Nat):Prop:=∀c∈l,(jZ K (Y c)=true/\(iZ K (Y c)).contains (.ref (Y g))=true/\ok (Y c))/\
 ∃a:TS,SJ Y E Kr pr ms a (e c)/\∀b D Z H,Z[j]?=some (some (.ref b))->a D Z H->d b (Y c) D Z H
theorem Pv{g j:Nat}{ok:Addr->Prop}{a:Addr->Addr->TS}{b:Nat->L4->SO}:HJ Y K Kr E pr ms g j ok a b []:=λ_ h=>(nomatch h)
theorem sw{g j c:Nat}{ok:Addr->Prop}{a:Addr->Addr->TS}{d:Nat->L4->SO}{l:List Nat}(b:TS)(o:jZ K (Y c)=true)(n:(iZ K (Y c)).contains (.ref (Y g))=true)(m:ok (Y c))(k:SJ Y E Kr pr ms b (d c))
 (i:∀f D Z H,Z[j]?=some (some (.ref f))->b D Z H->a f (Y c) D Z H) (h:HJ Y K Kr E pr ms g j ok a d l):HJ Y K Kr E pr ms g j ok a d (c::l):=λx e=>by
 rcases RO.mp e with rfl|e
 ·exact⟨⟨o,n,m⟩,b,k,i⟩
 ·exact h x e
theorem Gc{g j:Nat}{l:List Nat}{ok:Addr->Prop}{tb:XK->TS}{n:Addr->Addr->TS}{h:L4->SO}{f:Nat->L4->SO}(u:Nj Y ms tb h)(hp:pr j=false)(t:HJ Y K Kr E pr ms g j ok n f l):
 SJ Y E Kr pr ms (Be K (Y g) ok j tb n) (A5 (some j) (MU l) h f):=by
 intro B U As Z H T D R P;refine u _ B U As Z H T D R ?_;unfold A5 at P;cases e:h T with
 |nx G=>rw[e]at P;exact λS M J H' d k=>P Z S M J H' d k (Kp.refl _ _)
 |exc c G=>
   rw[e]at P;dsimp only at P;intro S M J H' d k N;split at P
   · rename_i z;obtain⟨⟨k1,k2,k3⟩,F,v,p⟩:=t c (List.contains_iff_mem.mp z.1);obtain⟨b,s⟩:=lV z.2;refine⟨Y c,rfl,k1,k2,k3,λw r=>?_⟩;have i:j<Z.length:=by rw[<-d.len];exact b
     refine p _ _ _ _ (by rw[Ti i]) (v S M J (Z.set j (some (.ref w))) H' G _ (d.slot s) ?_);cases q:f c G with
     |nx a=>
       rw[q]at P;replace P:So Y E Kr pr ms B U Z (if ft a (some j)=true then .nx a else .bad) D:=P;split at P
       ·rename_i y;intro o I U1 m L C A kp;exact P _ I U1 m L (C.slot (x:=none) (lV y).2) (k.trans A) ((((Kp.refl pr Z).slot hp).trans kp).slot hp)
       ·exact P.elim
     |_=>rw[q]at P;exact P.elim
   ·exact P.elim
 |_=>rw[e]at P;exact P
theorem bg{more:List Md}{t:TS}{body:L4->SO}{N:List Str}{vs:List V}{Q:VK}{H:Hp}{l:List D->Out D}(q:SJ Y E Kr (tX ms ms.length) (ms++more) t body)(s:N.length=ms.length+more.length)(k:l=run N.length body)(p:∀B U H,Kr .non .non B U H [])
 (h:dO Y ms Kr l vs H Q E):t {nx:=λ_ H'=>Q .non H',rt:=Q} (L2.gf N vs) H:=by
 obtain⟨B,U,As,ds,R,i,P⟩:=h;subst k;have hd:ds.length=vs.length:=by have:=R.len;rw[RH,RH]at this;exact this
 unfold L2.gf;refine q B U As _ H (ds.map some++List.replicate (N.length-vs.length) none) _ (R.enter i) ?_;unfold run at P;rw[hd]at P;cases e:body (ds.map some++List.replicate (N.length-vs.length) none) with
 |nx G=>
   rw[e]at P;intro b S M J H' g f k';obtain⟨a,R2,j⟩:=g.leave i k';exact P .non S M a H' [] R2 f NewM.nil (p _ _ _)
 |rt d G=>
   rw[e]at P;intro v b S M J H' r g f k' n o;obtain⟨a,R2,j⟩:=g.leave i k';exact P v S M a H' r R2 f (j _ n) o
 |exc c G=>
   rw[e]at P;intro b S M J H' g f k' m;obtain⟨a,R2,j⟩:=g.leave i k';exact P S M a H' R2 f m
 |bk G=>rw[e]at P;exact P.elim
 |ct G=>rw[e]at P;exact P.elim
 |bad=>rw[e]at P;exact P.elim
theorem bT{more:List Md}{t:TS}{body:L4->SO}{N:List Str}{vs:List V}{Q:VK}{H:Hp}{l:List D->Out D}(p:SJ Y E Kr (tX ms ms.length) (ms++more) t body)(r:N.length=ms.length+more.length)(g:l=iN N.length body)
 (h:dO Y ms Kr l vs H Q E):t {nx:=λ_ H'=>Q .non H',rt:=Q} (L2.gf N vs) H:=by
 obtain⟨B,U,As,ds,R,f,P⟩:=h;subst g;have hd:ds.length=vs.length:=by have:=R.len;rw[RH,RH]at this;exact this
 unfold L2.gf;refine p B U As _ H (ds.map some++List.replicate (N.length-vs.length) none) _ (R.enter f) ?_;unfold iN at P;rw[hd]at P;cases e:body (ds.map some++List.replicate (N.length-vs.length) none) with
 |nx G=>rw[e]at P;exact P.elim
 |rt d G=>
   rw[e]at P;intro v b S M J H' q j i k' n o;obtain⟨a,R2,k⟩:=j.leave f k';exact P v S M a H' q R2 i (k _ n) o
 |exc c G=>
   rw[e]at P;intro b S M J H' j i k' m;obtain⟨a,R2,k⟩:=j.leave f k';exact P S M a H' R2 i m
 |bk G=>rw[e]at P;exact P.elim
 |ct G=>rw[e]at P;exact P.elim
 |bad=>rw[e]at P;exact P.elim
theorem dt{a:List Md}{c:List D->Out D}{ps:List Ap}{t:TA}{m:L4->Res (List D)}(h:AJ Y E ms ps t m)(b:i8 ps a=true):PJ Y (KR Y .F) E ms (l8 (dO Y a (KR Y .F) c) [] E t) (pc c m):=
 CP h (eE b) (eF b) λ_ _ _ _ _ _ _ h=>h
theorem gk{s:Sh}{a:List Md}{c:List D->Out D}{ps:List Ap}{t:TA}{m:L4->Res (List D)}(h:AJ Y E ms ps t m)(b:i8 ps a=true):PJ Y (KO Y s) E ms (l8 (dO Y a (KO Y s) c) [] E t) (pc c m):=
 CP h (eE b) (eF b) λ_ _ _ _ _ _ _ h=>h
theorem bQ{c:Nat}{d:Str}{a:List Md}{g:List D->Out D}{p:Ap}{ps:List Ap}{b:TE}{e:L4->Res D}{t:TA}{m:L4->Res (List D)}(i:A1J Y E ms p b e)(h:AJ Y E ms ps t m)(f:i8 (p::ps) a=true):
 PJ Y (KR Y .F) E ms (kB (Y c) d (dO Y a (KR Y .F) g) [] E b t) (pm c d g e m):=wu i h (eE f) (eF f) λ_ _ _ _ _ _ _ h=>h
theorem db{s:Sh}{c:Nat}{d:Str}{a:List Md}{g:List D->Out D}{p:Ap}{ps:List Ap}{b:TE}{e:L4->Res D}{t:TA}{m:L4->Res (List D)}(i:A1J Y E ms p b e)(h:AJ Y E ms ps t m)(f:i8 (p::ps) a=true):
 PJ Y (KO Y s) E ms (kB (Y c) d (dO Y a (KO Y s) g) [] E b t) (pm c d g e m):=wu i h (eE f) (eF f) λ_ _ _ _ _ _ _ h=>h
theorem wq{c:Nat}{sh:List (Str×Sh)}{a:List Md}{d:List D->Out D}{ps:List Ap}{t:TA}{m:L4->Res (List D)}(h:AJ Y E ms ps t m)(b:i8 ps a=true):
 PJ Y (KO Y (.ob sh)) E ms (Bj (Y c) (dO Y (.O (.ob sh)::a) (KR Y .F) d) [] E t) (pk c d m):=
 KZ h (by rw[RL,eE b]) rfl λj p e=>by rw[TN];exact eF b j p e
theorem Dw{a:List Md}{b:List D->Out D}{ps:List Ap}{t:TA}{m:L4->Res (List D)}(h:AJ Y E ms ps t m)(c:fitM ms ps a)(hd:(fW ps).Nodup)(d:∀i∈tP ps,i∉fW ps):
 MJ Y (KR Y .F) E ms (l8 (dO Y a (KR Y .F) b) [] E t) (mc ps b m):=D3 h c hd d λ_ _ _ _ _ _ _ h=>h
theorem GE{s:Sh}{a:List Md}{b:List D->Out D}{ps:List Ap}{t:TA}{m:L4->Res (List D)}(h:AJ Y E ms ps t m)(c:fitM ms ps a)(hd:(fW ps).Nodup)(d:∀i∈tP ps,i∉fW ps):
 MJ Y (KO Y s) E ms (l8 (dO Y a (KO Y s) b) [] E t) (mc ps b m):=D3 h c hd d λ_ _ _ _ _ _ _ h=>h
theorem eD{c:Nat}{d:Str}{a:List Md}{f:List D->Out D}{p:Ap}{ps:List Ap}{b:TE}{e:L4->Res D}{t:TA}{m:L4->Res (List D)}(k:A1J Y E ms p b e)(h:AJ Y E ms ps t m)(g:fitM ms (p::ps) a)(hd:(fW (p::ps)).Nodup)
 (j:∀i∈tP (p::ps),i∉fW (p::ps)):MJ Y (KR Y .F) E ms (kB (Y c) d (dO Y a (KR Y .F) f) [] E b t) (mm c d (p::ps) f e m):=LS k h g hd j λ_ _ _ _ _ _ _ h=>h
end
abbrev DI(X:Type):=List (List Int×X)
section
variable{X:Type}
def bR(f:X->D)(F:DI X):D:=.dT (F.map λp=>p.1.map Sum.inl) (F.map λp=>f p.2)
def DI.get(F:DI X)(k:List Int):Option X:=(F.find? λp=>decide (p.1=k)).map (·.2)
def DI.put(F:DI X)(k:List Int)(v:X):DI X:=if (F.get k).isSome=true then F.map λp=>if p.1=k then (p.1,v) else p else F++[(k,v)]
theorem jo{j k:List Int}:j.map (Sum.inl:Int->bJ)=k.map Sum.inl↔j=k:=by
 constructor
 · intro h
   induction j generalizing k with
   |nil=>cases k with|nil=>rfl|cons _ _=>cases h
   |cons x j b=>
     cases k with
     |nil=>cases h
     |cons y k=>
       rw[RJ,RJ]at h;injection h with a c
       injection a with a
       rw[a,b c]
 ·intro h;rw[h]
theorem i6:∀k:List Int,fq (k.map D.int)=some (k.map Sum.inl)
 |[]=>rfl
 |x::k=>by rw[RJ,fq,i6 k];rfl
theorem uI{f:X->D}{k:List Int}:∀F:DI X,cP (F.map λp=>p.1.map (Sum.inl:Int->bJ)) (F.map λp=>f p.2) (k.map Sum.inl)=(DI.get F k).map f
 |[]=>rfl
 | p::F=>by
   rw[List.map_cons,List.map_cons,cP,uI F];unfold DI.get;rw[List.find?_cons];by_cases h:p.1=k
   ·rw[RF (jo.mpr h),SX h];rfl
   ·rw[RE (λz=>h (jo.mp z)),SC h]
theorem gR{f:X->D}{F:DI X}{k:List Int}:kW (bR f F) (.tup (k.map D.int))=some ((F.get k).map f):=by
 show(fq (k.map D.int)).map (λk=>cP (F.map λp=>p.1.map (Sum.inl:Int->bJ)) (F.map λp=>f p.2) k)=_;rw[i6,Uf,uI]
theorem yE{k:List Int}:∀F:DI X,dD (F.map λp=>p.1.map (Sum.inl:Int->bJ)) (k.map Sum.inl)=(DI.get F k).isSome
 |[]=>rfl
 | p::F=>by
   have a:=yE (k:=k) F;unfold dD DI.get at *;rw[List.map_cons,List.any_cons,List.find?_cons,a];by_cases h:p.1=k
   ·rw[SX (jo.mpr h),SX h];rfl
   ·rw[SC (λz=>h (jo.mp z)),SC h];rfl
theorem uj{f:X->D}{k:List Int}{v:X}:∀F:DI X,lQ (F.map λp=>p.1.map (Sum.inl:Int->bJ)) (F.map λp=>f p.2) (k.map Sum.inl) (f v)=(F.map λp=>if p.1=k then (p.1,v) else p).map λp=>f p.2
 |[]=>rfl
 | p::F=>by
   rw[RJ,RJ,lQ,uj F,RJ,RJ];by_cases h:p.1=k
   ·rw[RF (jo.mpr h),RF h]
   ·rw[RE (λz=>h (jo.mp z)),RE h]
theorem ER{f:X->D}{F:DI X}{k:List Int}{v:X}(h:F.length<aj):uZ (bR f F) (.tup (k.map D.int)) (f v)=some (bR f (F.put k v)):=by
 show((fq (k.map D.int)).bind λk=>if (F.map λp=>p.1.map (Sum.inl:Int->bJ)).length<aj then some (if dD (F.map λp=>p.1.map (Sum.inl:Int->bJ)) k=true then D.dT (F.map λp=>p.1.map (Sum.inl:Int->bJ)) (lQ (F.map λp=>p.1.map (Sum.inl:Int->bJ)) (F.map λp=>f p.2) k (f v)) else D.dT ((F.map λp=>p.1.map (Sum.inl:Int->bJ))++[k]) ((F.map λp=>f p.2)++[f v])) else none)=some (D.dT ((F.put k v).map λp=>p.1.map Sum.inl) ((F.put k v).map λp=>f p.2));rw[i6,Option.bind_some,if_pos (by rw[List.length_map];exact h),yE];unfold DI.put;by_cases q:(DI.get F k).isSome=true
 ·rw[RF q,RF q,uj,Se,Se];refine congrArg (λz=>some (D.dT z _)) ?_;refine SK λp _=>?_;show _=((if p.1=k then (p.1,v) else p).1).map Sum.inl;split<;>rfl
 ·rw[RE q,RE q,Sm,Sm];rfl
theorem nv{F:DI X}{k j:List Int}{v:X}:(F.put k v).get j=if j=k then some v else F.get j:=by
 unfold DI.put;by_cases q:(DI.get F k).isSome=true
 · rw[RF q]
   have e:∀G:DI X,DI.get (G.map λp=>if p.1=k then (p.1,v) else p) j=if j=k then (DI.get G k).map λ_=>v else DI.get G j:=by
    intro G
    induction G with
    |nil=>unfold DI.get;split<;>rfl
    |cons p G f=>
      unfold DI.get at f ⊢;rw[List.map_cons,List.find?_cons,List.find?_cons,List.find?_cons];by_cases b:p.1=k
      · rw[RF b];by_cases a:j=k
        ·subst a;simp only[b,decide_true,RF,Uf]
        ·have c:¬ p.1=j:=λz=>a (z.symm.trans b);simp only[c,decide_false];rw[f,RE a,RE a]
      · rw[RE b];by_cases c:p.1=j
        ·have a:¬ j=k:=λz=>b (c.trans z);simp only[c,decide_true,RE a]
        ·simp only[c,b,decide_false];exact f
   rw[e];by_cases h:j=k
   ·rw[RF h,RF h];obtain⟨x,i⟩:=Tb.mp q;rw[i];rfl
   ·rw[RE h,RE h]
 · rw[RE q]
   have d:DI.get F k=none:=by
    cases z:DI.get F k with
    |none=>rfl
    |some x=>rw[z]at q;exact absurd rfl q
   unfold DI.get at d ⊢;rw[List.find?_append];by_cases h:j=k
   · subst h
     have g:F.find? (λp=>decide (p.1=j))=none:=by
      cases z:F.find? (λp=>decide (p.1=j)) with
      |none=>rfl
      |some x=>rw[z]at d;cases d
     rw[g,RF rfl];simp
   · rw[RE h]
     have:¬ k=j:=λz=>h z.symm
     simp[this]
end
open PySem.Spec (countIn same sameAll)
theorem lN{W:Type}{f:W->D}{g:W->PyData}(h:∀a,toPy (f a)=some (g a)):∀l:List W,toPys (l.map f)=some (l.map g)
 |[]=>rfl
 |a::l=>by rw[RJ,toPys,h a,lN h l];rfl
theorem lO{W:Type}{f:W->D}{g:W->PyData}(h:∀a,toPy (f a)=some (g a))(l:List W):toPy (.lst (l.map f))=some (.list (l.map g)):=by
 rw[toPy,lN h];rfl
theorem wc{W:Type}{g:W->PyData}(h:∀a,(g a).canLay0=true)(f:∀a,(g a).depth<=60)(l:List W):SeqAt.shaped (.list (l.map g))=true:=by
 have c:∀l:List W,PyData.canLayAll0 (l.map g)=true:=by
  intro l
  induction l with
  |nil=>simp[PyData.canLayAll0]
  |cons a l b=>simp[PyData.canLayAll0,h a,b]
 have d:∀l:List W,PyData.depthAll (l.map g)<=60:=by
  intro l
  induction l with
  |nil=>simp[PyData.depthAll]
  |cons a l b=>
    rw[RJ,PyData.depthAll]
    have:=f a
    omega
 have e:PyData.depth (.list (l.map g))<=64:=by rw[PyData.depth];have:=d l;omega
 unfold SeqAt.shaped;rw[Bool.and_eq_true];exact⟨by rw[PyData.canLay0];exact c l,decide_eq_true e⟩
theorem mQ{W:Type}[DecidableEq W]{g:W->PyData}(h:∀a b,same (g a) (g b)=decide (a=b))(a:W):∀l:List W,(0<=countIn (g a) (l.map g))/\(countIn (g a) (l.map g)≠0↔a∈l)
 |[]=>by simp[countIn]
 | b::l=>by
   obtain⟨d,c⟩:=mQ h a l;rw[RJ,countIn,h b a,RO];by_cases e:b=a
   ·rw[RF (by simpa using e)];exact⟨by omega,λ_=>.inl e.symm,λ_=>by omega⟩
   · rw[RE (by simpa using e)];refine⟨by omega,λz=>.inr (c.mp (by omega)),λz=>?_⟩;rcases z with z|z
     ·exact absurd z.symm e
     ·have:=c.mpr z;omega
section
variable{W:Type}[DecidableEq W]{f:W->D}{g:W->PyData}
theorem GR(h0:∀a,toPy (f a)=some (g a))(i:∀a,(g a).canLay0=true)(h:∀a,(g a).depth<=60)(k:∀a b,same (g a) (g b)=decide (a=b))(j:∀a b,SeqAt.noMix (g a) (g b)=true)(a:W)(l:List W):
 inD (f a) (.lst (l.map f))=.ok (.bl (decide (a∈l)))/\uv (f a) (.lst (l.map f))=.ok (.bl (!decide (a∈l))):=by
 have e:SeqAt.shaped (g a)=true:=by
  unfold SeqAt.shaped;rw[i a,Bool.true_and];exact decide_eq_true (by have:=h a;omega)
 have s2:=wc i h l
 have d:((l.map g).all λz=>SeqAt.noMix z (g a))=true:=by
  rw[Vx,TH];exact λb _=>j b a
 have c:decide (countIn (g a) (l.map g)≠0)=decide (a∈l):=by
  have:=(mQ k a l).2
  by_cases z:a∈l
  ·rw[SX z,SX (this.mpr z)]
  ·rw[SC z,SC (λw=>z (this.mp w))]
 constructor
 ·unfold inD;rw[h0 a,lO h0 l];show(if _ then _ else _)=_;rw[if_pos ⟨e,s2,d⟩,c]
 ·unfold uv;rw[h0 a,lO h0 l];show(if _ then _ else _)=_;rw[if_pos ⟨e,s2,d⟩,c]
end
end Mi
namespace Cl
open PySem L2 Mi
inductive OutC (Z W:Type) where
 |ok (a:W) (s:Z)|exc (c:Nat) (s:Z)|bad
inductive FlC (Z X:Type) where
 |nx (s:Z)|rt (b:X) (s:Z)|bk (s:Z)|ct (s:Z)|exc (c:Nat) (s:Z)|bad
def SimR{W O:Type}(e:W->O)(r:Res O)(q:Res W):Prop:=match q with
 |.ok a=>r=.ok (e a)
 |.exc x=>r=.exc x
 |.bad=>True
section
variable{Z W X O M:Type}{rep:Z->L4}
def SimO(rep:Z->L4)(e:W->O)(r:Out O)(q:OutC Z W):Prop:=match q with
 |.ok a s=>r=.ok (e a) (rep s)
 |.exc x s=>r=.exc x (rep s)
 |.bad=>True
def SimS(rep:Z->L4)(e:X->D)(r:SO)(q:FlC Z X):Prop:=match q with
 |.nx s=>r=.nx (rep s)
 |.rt b s=>r=.rt (e b) (rep s)
 |.bk s=>r=.bk (rep s)
 |.ct s=>r=.ct (rep s)
 |.exc x s=>r=.exc x (rep s)
 |.bad=>True
def EJ(rep:Z->L4)(e:W->O)(m:L4->Res O)(c:Z->Res W):Prop:=∀s,SimR e (m (rep s)) (c s)
def NJ(rep:Z->L4)(e:W->O)(m:L4->Out O)(c:Z->OutC Z W):Prop:=∀s,SimO rep e (m (rep s)) (c s)
def TJ(rep:Z->L4)(e:X->D)(m:L4->SO)(c:Z->FlC Z X):Prop:=∀s,SimS rep e (m (rep s)) (c s)
theorem SimR.bnd{e:W->O}{b:X->M}{r:Res O}{q:Res W}{k:O->Res M}{l:W->Res X}(h:SimR e r q)(c:∀a,SimR b (k (e a)) (l a)):SimR b (r.bind k) (q.bind l):=by
 cases q with
 |ok a=>rw[show r=_ from h];exact c a
 |exc x=>rw[show r=_ from h];exact rfl
 |bad=>trivial
@[elab_as_elim] theorem SimR.el{e:W->O}{r:Res O}{q:Res W}{P:Res O->Res W->Prop}(h:SimR e r q)(ok:∀a,P (.ok (e a)) (.ok a))(exc:∀x,P (.exc x) (.exc x))(bad:∀r,P r .bad):P r q:=by
 cases q with
 |ok a=>rw[show r=_ from h];exact ok a
 |exc x=>rw[show r=_ from h];exact exc x
 |bad=>exact bad r
theorem SimR.calm{e:W->O}{r:Res O}{q:Res W}(h:SimR e r q):SimR e r.calm q.calm:=by
 cases q with
 |ok a=>rw[show r=_ from h];exact rfl
 |exc x=>trivial
 |bad=>trivial
@[simp] def vC(g:Z->Option W):Z->Res W:=λs=>match g s with|some a=>.ok a|none=>.bad
@[simp] def pC(g:Z->W):Z->Res W:=λs=>.ok (g s)
@[simp] def kC(a:W):Z->Res W:=λ_=>.ok a
@[simp] def b8(f:W->Res X)(c:Z->Res W):Z->Res X:=λs=>(c s).bind f
@[simp] def bc(f:W->X->Res O)(a:Z->Res W)(b:Z->Res X):Z->Res O:=λs=>(a s).bind λx=>(b s).bind λy=>f x y
theorem Mf{e:W->D}{i:Nat}{g:Z->Option W}(h:∀s,rg (rep s) i=(g s).map e):EJ rep e (vr i) (vC g):=λs=>by
 unfold vC vr;rw[h s];cases g s with
 |none=>trivial
 |some a=>exact rfl
theorem Ml{e:W->D}{i:Nat}{g:Z->W}(h:∀s,rg (rep s) i=some (e (g s))):EJ rep e (vr i) (pC g):=λs=>by
 unfold vr pC;rw[h s];exact rfl
theorem sF{e:W->D}{d:D}{a:W}(h:e a=d):EJ rep e (aM d) (kC a):=λs=>by subst h;exact rfl
theorem bo{e:W->D}{b:X->D}{F:D->Res D}{f:W->Res X}{m:L4->Res D}{c:Z->Res W}(h:∀a,SimR b (F (e a)) (f a))(d:EJ rep e m c):EJ rep b (un F m) (b8 f c):=λs=>(d s).bnd h
theorem ao{e:W->D}{g:X->D}{d:O->D}{F:D->D->Res D}{f:W->X->Res O}{m n:L4->Res D}{c:Z->Res W}{i:Z->Res X}(h:∀a b,SimR d (F (e a) (g b)) (f a b))(k:EJ rep e m c)(j:EJ rep g n i):EJ rep d (bn F m n) (bc f c i):=λs=>(k s).bnd λa=>(j s).bnd λb=>h a b
theorem dN{e:W->D}{d:X->D}{m:L4->Res D}{c:Z->Res W}{f:W->Res X}(h:∀a,SimR d (.ok (e a)) (f a))(b:EJ rep e m c):EJ rep d m (b8 f c):=λs=>by
 have b:=b s;unfold b8;cases q:c s with
 |ok a=>rw[q]at b;rw[show m (rep s)=_ from b];exact h a
 |exc x=>rw[q]at b;exact b
 |bad=>trivial
def eN:Unit->D:=λ_=>.non
def eL(e:W->D):List W->D:=λxs=>.lst (xs.map e)
def eS:List Int->D:=λxs=>.scr (xs.map D.int)
def lY(e:W->D):List W->D:=λxs=>.tup (xs.map e)
def mH(e:W->D)(a:X->D):W×X->D:=λp=>.tup [e p.1,a p.2]
def eT3(e:W->D)(b:X->D)(a:O->D):W×X×O->D:=λp=>.tup [e p.1,b p.2.1,a p.2.2]
def eO(e:W->D):Option W->D:=λo=>match o with|none=>.non|some a=>e a
abbrev eK:Int×Int×List Int->D:=eT3 D.int D.int (eL D.int)
@[simp] def K2(o:Option W):Res W:=match o with|some a=>.ok a|none=>.bad
@[simp] def HH(a:W):Res (Option W):=.ok (some a)
@[simp] def yD(a:W):Res W:=.ok a
theorem zt{e:W->D}(o:Option W):SimR e (.ok (eO e o)) (K2 o):=by cases o<;>trivial
theorem M0{e:W->D}(a:W):SimR (eO e) (.ok (e a)) (HH a):=rfl
theorem Ji{e:W->D}{F:(L4->Res D)->L4->Res D}{m:L4->Res D}{c:Z->Res W}(hF:∀T a,m T=.ok (e a)->F m T=.ok (e a))(b:∀T x,m T=.exc x->F m T=.exc x)(h:EJ rep e m c):EJ rep e (F m) c:=λs=>by
 have h:=h s;cases q:c s with
 |ok a=>rw[q]at h;exact hF _ _ h
 |exc x=>rw[q]at h;exact b _ _ h
 |bad=>trivial
theorem cY{e:W->D}{m:L4->Res D}{c:Z->Res W}(b:∀a,bD (e a)=true)(h:EJ rep e m c):EJ rep e (na m) c:=
 Ji (F:=na) (λT a q=>by unfold na;rw[q];show(if _ then _ else _)=_;rw[if_pos (b a)]) (λT x q=>by unfold na;rw[q];rfl) h
theorem oO{e:W->D}{m:L4->Res D}{c:Z->Res W}(b:∀a,kJ (e a)=true)(h:EJ rep e m c):EJ rep e (mY m) c:=
 Ji (F:=mY) (λT a q=>by unfold mY;rw[q];show(if _ then _ else _)=_;rw[if_pos (b a)]) (λT x q=>by unfold mY;rw[q];rfl) h
theorem vV{e:W->D}(h:∀a,bD (e a)=true)(xs:List W):(xs.map e).all bD=true:=by
 rw[Vx,TH];exact λa _=>h a
theorem rE{e:W->D}(h:∀a,bD (e a)=true)(xs:List W):kJ (eL e xs)=true:=vV h xs
theorem Ga{e:W->D}(h:∀a,bD (e a)=true)(xs:List W):kJ (lY e xs)=true:=vV h xs
theorem JM{e:W->D}(h:∀a,kJ (e a)=true)(o:Option W):kJ (eO e o)=true:=by
 cases o with
 |none=>rfl
 |some a=>exact h a
theorem Es{e:W->D}(h:∀a,bD (e a)=true)(o:Option W):bD (eO e o)=true:=by
 cases o with
 |none=>rfl
 |some a=>exact h a
@[simp] def jy(a b:Int):Res Int:=.ok (a+b)
@[simp] def qg(a b:Int):Res Int:=.ok (a-b)
@[simp] def Aa(a b:Int):Res Int:=if (-(2 ^ 64)<a/\a<2 ^ 64)\/(-(2 ^ 64)<b/\b<2 ^ 64) then .ok (a*b) else .bad
@[simp] def iH(a b:Int):Res Int:=if 0<b/\b<1073741824 then .ok (a / b) else .bad
@[simp] def dC(a b:Int):Res Int:=if 0<b then .ok (a%b) else .bad
@[simp] def KD(a b:Int):Res Int:=if 0<=b/\b<=1000000/\a.natAbs<2 ^ 64 then .ok (a ^ b.toNat) else .bad
@[simp] def NN(a b:Int):Res Int:=if 0<=b then .ok (a / 2 ^ b.toNat) else .bad
@[simp] def Nr(a b:Int):Res Bool:=.ok (decide (a<b))
@[simp] def Nv(a b:Int):Res Bool:=.ok (decide (b<a))
@[simp] def geC(a b:Int):Res Bool:=.ok (decide (b<=a))
@[simp] def Ly(a:Int):Res Int:=.ok (-a)
@[simp] def jF[DecidableEq W](neg:Bool)(a b:W):Res Bool:=.ok (neg.xor (decide (a=b)))
theorem gp(a b:Int):SimR D.int (jh (.int a) (.int b)) (jy a b):=rfl
theorem kQ(a b:Int):SimR D.int (mR (.int a) (.int b)) (qg a b):=rfl
theorem SimR.ite{e:W->O}{p:Prop}[Decidable p]{r a:Res O}{q b:Res W}(h:SimR e r q)(h':SimR e a b):SimR e (if p then r else a) (if p then q else b):=by
 by_cases z:p
 ·rw[RF z,RF z];exact h
 ·rw[RE z,RE z];exact h'
theorem uq(a b:Int):SimR D.int (r8 (.int a) (.int b)) (Aa a b):=by rw[Dd];exact SimR.ite rfl trivial
theorem fU(a b:Int):SimR D.int (fZ (.int a) (.int b)) (iH a b):=by rw[Az];exact SimR.ite rfl trivial
theorem b7(a b:Int):SimR D.int (cR (.int a) (.int b)) (dC a b):=by rw[Dt];exact SimR.ite rfl trivial
theorem Ir(a b:Int):SimR D.int (zX (.int a) (.int b)) (KD a b):=by rw[CA];exact SimR.ite rfl trivial
theorem OG(a b:Int):SimR D.int (Bu (.int a) (.int b)) (NN a b):=by rw[Bt];exact SimR.ite rfl trivial
theorem C1(a b:Int):SimR D.bl (FJ (.int a) (.int b)) (Nr a b):=rfl
theorem Lm(a b:Int):SimR D.bl (Je (.int a) (.int b)) (Nv a b):=rfl
theorem Q9(a b:Int):SimR D.bl (QU (.int a) (.int b)) (geC a b):=rfl
theorem Iu(a:Int):SimR D.int (GB (.int a)) (Ly a):=rfl
theorem cD(neg:Bool)(a b:Int):SimR D.bl (ku neg (.int a) (.int b)) (jF neg a b):=rfl
@[simp] def L9(neg:Bool)(f:W->Bool)(a:W):Res Bool:=.ok (neg.xor (f a))
theorem EM{e:W->D}{m:L4->Res D}{c:Z->Res W}{neg:Bool}{f:W->Bool}(h:∀a,oA (e a)=f a)(b:EJ rep e m c):EJ rep D.bl (bn (Ao neg) m (aM .non)) (b8 (L9 neg f) c):=λs=>(b s).bnd λa=>by
 show Ao neg (e a) .non=.ok (.bl (neg.xor (f a)));rw[<-h a];rfl
@[simp] def Lp(o:Option W):Bool:=o.isNone
theorem I9{e:W->D}(h:∀a,oA (e a)=false)(o:Option W):oA (eO e o)=Lp o:=by
 cases o with
 |none=>rfl
 |some a=>exact h a
theorem a9{m:L4->Res D}{c:Z->Res Bool}(h:EJ rep D.bl m c):EJ rep (id:Bool->Bool) (d8 m) c:=λs=>by
 have h:=h s;cases q:c s with
 |ok a=>rw[q]at h;have h:m (rep s)=.ok (.bl a):=h;show d8 m (rep s)=.ok a;unfold d8;rw[h];rfl
 |exc x=>rw[q]at h;have h:m (rep s)=.exc x:=h;show d8 m (rep s)=.exc x;unfold d8;rw[h];rfl
 |bad=>trivial
@[simp] def Hl(a b:Z->Res Bool):Z->Res Bool:=λs=>(a s).bind λc=>if c=true then b s else .ok false
@[simp] def orC(a b:Z->Res Bool):Z->Res Bool:=λs=>(a s).bind λc=>if c=true then .ok true else b s
theorem yK{a b:L4->Res Bool}{c d:Z->Res Bool}(f:EJ rep (id:Bool->Bool) a c)(e:EJ rep (id:Bool->Bool) b d):EJ rep (id:Bool->Bool) (Hk a b) (Hl c d):=λs=>(f s).bnd λt=>SimR.ite (e s) rfl
theorem Mm{a b:L4->Res Bool}{c d:Z->Res Bool}(f:EJ rep (id:Bool->Bool) a c)(e:EJ rep (id:Bool->Bool) b d):EJ rep (id:Bool->Bool) (Ie a b) (orC c d):=λs=>(f s).bnd λt=>SimR.ite rfl (e s)
structure Dat (e:W->D) [DecidableEq W] where
 py:W->PyData
 dep:Nat
 h0:∀a,toPy (e a)=some (py a)
 lay:∀a,(py a).canLay0=true
 depth:∀a,(py a).depth<=dep
 eqv:∀a b,PyData.eqv (py a) (py b)=decide (a=b)
 nomix:∀a b,SeqAt.noMix (py a) (py b)=true
theorem Dat.same{e:W->D}[DecidableEq W](A:Dat e)(a b:W):PySem.Spec.same (A.py a) (A.py b)=decide (a=b):=by rw[<-A.eqv,SeqAt.same_eq_eqv _ _ (A.nomix a b)]
theorem Dat.shp{e:W->D}[DecidableEq W](A:Dat e)(hd:A.dep<=64)(a:W):SeqAt.shaped (A.py a)=true:=by
 unfold SeqAt.shaped;rw[A.lay a,Bool.true_and];exact decide_eq_true (Nat.le_trans (A.depth a) hd)
theorem C5{e:W->D}[DecidableEq W](A:Dat e)(hd:A.dep<=64)(neg:Bool)(a b:W):SimR D.bl (Jh neg (e a) (e b)) (jF neg a b):=by
 show Jh neg (e a) (e b)=.ok (.bl (neg.xor (decide (a=b))));unfold Jh;rw[A.h0,A.h0];show(if _ then _ else _)=_;rw[if_pos ⟨A.shp hd a,A.shp hd b⟩,A.eqv]
@[simp] def Rf[DecidableEq W](neg:Bool)(a:W)(l:List W):Res Bool:=.ok (neg.xor (decide (a∈l)))
theorem C0{e:W->D}[DecidableEq W](A:Dat e)(hd:A.dep<=60)(a:W)(l:List W):SimR D.bl (uv (e a) (eL e l)) (Rf true a l):=by
 have:=(GR A.h0 A.lay (λa=>Su (A.depth a) hd) A.same A.nomix a l).2
 show uv (e a) (.lst (l.map e))=.ok (.bl (true.xor (decide (a∈l))));rw[this,Bool.true_xor]
def oT:Dat D.int:=⟨PyData.int,1,λ_=>rfl,λa=>by simp[PyData.canLay0],λa=>by simp[PyData.depth],λa b=>by simp only[PyData.eqv];exact UT _ _,λa b=>by simp[SeqAt.noMix]⟩
def PV:Dat D.bl:=⟨PyData.bool,1,λ_=>rfl,λa=>by simp[PyData.canLay0],λa=>by simp[PyData.depth],λa b=>by simp only[PyData.eqv];exact UT _ _,λa b=>by simp[SeqAt.noMix]⟩
theorem j4{g:W->PyData}[DecidableEq W](h:∀a b,PyData.eqv (g a) (g b)=decide (a=b)):∀t u:List W,PyData.eqvAll (t.map g) (u.map g)=decide (t=u)
 |[],[]=>by simp[PyData.eqvAll]
 |[],_::_=>by simp[PyData.eqvAll]
 |_::_,[]=>by simp[PyData.eqvAll]
 | r::t,q::u=>by
   rw[RJ,RJ,PyData.eqvAll,h,j4 h t u];by_cases d:r=q<;>by_cases c:t=u<;>simp[d,c]
end
section
variable{Z W X O M:Type}{rep:Z->L4}
theorem hE{g:W->PyData}(h:∀a b,SeqAt.noMix (g a) (g b)=true):∀t u:List W,SeqAt.noMixAll (t.map g) (u.map g)=true
 |[],[]=>by simp[SeqAt.noMixAll]
 |[],_::_=>by simp[SeqAt.noMixAll]
 |_::_,[]=>by simp[SeqAt.noMixAll]
 |r::t,q::u=>by rw[RJ,RJ,SeqAt.noMixAll,h,hE h t u];rfl
theorem jU{g:W->PyData}(h:∀a,(g a).canLay0=true):∀l:List W,PyData.canLayAll0 (l.map g)=true
 |[]=>by simp[PyData.canLayAll0]
 |a::l=>by simp[PyData.canLayAll0,h a,jU h l]
theorem il{g:W->PyData}{n:Nat}(h:∀a,(g a).depth<=n):∀l:List W,PyData.depthAll (l.map g)<=n
 |[]=>by simp[PyData.depthAll]
 |a::l=>by rw[RJ,PyData.depthAll];have:=h a;have:=il h l;omega
def oR{e:W->D}[DecidableEq W](A:Dat e):Dat (eL e):=⟨λl=>.list (l.map A.py),A.dep+1,λl=>lO A.h0 l,λl=>by rw[PyData.canLay0];exact jU A.lay l,λl=>by rw[PyData.depth];have:=il A.depth l;omega,λa b=>by rw[PyData.eqv];exact j4 A.eqv a b,λa b=>by rw[SeqAt.noMix];exact hE A.nomix a b⟩
def E2{e:W->D}{c:X->D}[DecidableEq W][DecidableEq X](A:Dat e)(B:Dat c):Dat (mH e c):=⟨λp=>.tuple [A.py p.1,B.py p.2],A.dep+B.dep+1,λp=>by
 show(toPys [e p.1,c p.2]).map PyData.tuple=_;rw[toPys,toPys,toPys,A.h0,B.h0];rfl,λp=>by rw[PyData.canLay0];simp[PyData.canLayAll0,A.lay,B.lay],λp=>by
 rw[PyData.depth];simp only[PyData.depthAll];have:=A.depth p.1;have:=B.depth p.2;omega,λa b=>by
 rw[PyData.eqv];simp only[PyData.eqvAll,A.eqv,B.eqv];obtain⟨j,i⟩:=a;obtain⟨h,g⟩:=b
 by_cases f:j=h<;>by_cases d:i=g<;>simp[f,d],λa b=>by rw[SeqAt.noMix];simp[SeqAt.noMixAll,A.nomix,B.nomix]⟩
theorem kX{d:PyData}(h:d≠ .none):PyData.eqv .none d=false/\PyData.eqv d .none=false/\SeqAt.noMix .none d=true/\SeqAt.noMix d .none=true:=by
 cases d with
 |none=>exact absurd rfl h
 |_=>simp[PyData.eqv,SeqAt.noMix]
def PU{e:W->D}[DecidableEq W](A:Dat e)(F:∀a,A.py a≠ .none):Dat (eO e):=⟨λo=>match o with|none=>.none|some a=>A.py a,A.dep+1,λo=>by
 cases o with
 |none=>rfl
 |some a=>exact A.h0 a,λo=>by
 cases o with
 |none=>simp[PyData.canLay0]
 |some a=>exact A.lay a,λo=>by
 cases o with
 |none=>simp[PyData.depth]
 |some a=>exact Nat.le_succ_of_le (A.depth a),λa b=>by
 cases a with
 |none=>
   cases b with
   |none=>simp[PyData.eqv]
   |some b=>exact(kX (F b)).1.trans (by simp)
 |some a=>
   cases b with
   |none=>exact(kX (F a)).2.1.trans (by simp)
   |some b=>exact(A.eqv a b).trans (by simp),λa b=>by
 cases a with
 |none=>
   cases b with
   |none=>simp[SeqAt.noMix]
   |some b=>exact(kX (F b)).2.2.1
 |some a=>
   cases b with
   |none=>exact(kX (F a)).2.2.2
   |some b=>exact A.nomix a b⟩
theorem E3{e:W->D}[DecidableEq W](A:Dat e)(a:List W):(oR A).py a≠ .none:=λh=>PyData.noConfusion (show PyData.list (a.map A.py)=.none from h)
@[simp] def Iv(_:Unit):Res (Option W):=.ok none
theorem Hi{e:W->D}(u:Unit):SimR (eO e) (.ok (eN u)) (Iv u):=rfl
@[simp] def dy:Z->Res (List W):=λ_=>.ok []
@[simp] def aR(a:Z->Res W)(r:Z->Res (List W)):Z->Res (List W):=λs=>(a s).bind λx=>(r s).bind λxs=>.ok (x::xs)
theorem bE{e:W->D}:EJ rep (List.map e) a6 (dy:Z->Res (List W)):=λs=>rfl
theorem aw{e:W->D}{m:L4->Res D}{n:L4->Res (List D)}{c:Z->Res W}{d:Z->Res (List W)}(g:EJ rep e m c)(f:EJ rep (List.map e) n d):EJ rep (List.map e) (ax m n) (aR c d):=λs=>(g s).bnd λa=>(f s).bnd λb=>rfl
@[simp] def jx(c:Z->Res (List W)):Z->Res (List W):=λs=>(c s).bind λxs=>if xs.length<=aj then .ok xs else .bad
theorem bF{e:W->D}{m:L4->Res (List D)}{c:Z->Res (List W)}(h:EJ rep (List.map e) m c):EJ rep (eL e) (gH m) (jx c):=λs=>(h s).bnd λxs=>by rw[RH];exact SimR.ite rfl trivial
@[simp] def mT(a:Z->Res W)(b:Z->Res X):Z->Res (W×X):=λs=>(a s).bind λx=>(b s).bind λy=>.ok (x,y)
@[simp] def si(xs:List W):Res Int:=.ok xs.length
theorem nT{e:W->D}(xs:List W):SimR D.int (sg (eL e xs)) (si xs):=by show Res.ok (D.int _)=Res.ok (D.int _);rw[RH]
theorem Ll(xs:List Int):SimR D.int (sg (eS xs)) (si xs):=by show Res.ok (D.int _)=Res.ok (D.int _);rw[RH]
theorem Hf{e:W->O}(xs:List W)(i:Int):iK (xs.map e) i=(iK xs i).map e:=by
 unfold iK;rw[List.length_map];cases kU xs.length i with
 |none=>rfl
 |some j=>simp only[Option.bind_some,Sl]
@[simp] def xa(xs:List W)(i:Int):Res W:=match iK xs i with|some a=>.ok a|none=>.bad
theorem xG{e:W->D}(xs:List W)(i:Int):SimR e (Hg (xs.map e) i) (xa xs i):=by
 unfold Hg xa;rw[Hf];cases iK xs i<;>trivial
theorem nV{e:W->D}(xs:List W)(i:Int):SimR e (Er (eL e xs) (.int i)) (xa xs i):=xG xs i
theorem OJ(xs:List Int)(i:Int):SimR D.int (Er (eS xs) (.int i)) (xa xs i):=xG xs i
theorem C4{e:W->D}(xs:List W)(i:Int):SimR e (I8 (lY e xs) (.int i)) (xa xs i):=xG xs i
@[simp] def Mc(p:W×X):Res W:=.ok p.1
@[simp] def JK(p:W×X):Res X:=.ok p.2
theorem Jj{e:W->D}{b:X->D}{F:D->D->Res D}{f:W->Res X}{k:D}{m:L4->Res D}{c:Z->Res W}(h:∀a,SimR b (F (e a) k) (f a))(d:EJ rep e m c):EJ rep b (bn F m (aM k)) (b8 f c):=λs=>(d s).bnd λa=>h a
theorem Q8{e:W->D}{a:X->D}(p:W×X):SimR e (I8 (mH e a p) (.int 0)) (Mc p):=rfl
theorem Q7{e:W->D}{a:X->D}(p:W×X):SimR a (I8 (mH e a p) (.int 1)) (JK p):=rfl
@[simp] def tM(xs ys:List W):Res (List W):=if xs.length+ys.length<=aj then .ok (xs++ys) else .bad
theorem C7{e:W->D}(xs ys:List W):SimR (eL e) (AH (eL e xs) (eL e ys)) (tM xs ys):=by
 show SimR (eL e) (if (xs.map e).length+(ys.map e).length<=aj then .ok (.lst (xs.map e++ys.map e)) else .bad) (tM xs ys);rw[RH,RH];exact SimR.ite (by show Res.ok (D.lst _)=Res.ok (D.lst _);rw[Sm]) trivial
theorem rZ{e:W->D}(xs:List W):SimR (eL e) (gD (eL e xs)) (yD xs):=rfl
theorem yu{e:W->D}(xs:List W):SimR (eL e) (gD (lY e xs)) (yD xs):=rfl
theorem CZ{e:W->D}(xs:List W):SimR (lY e) (A0 (eL e xs)) (yD xs):=rfl
noncomputable def Gh(xs:List W)(k:Int):Res (List W):=@ite _ ((0<=k/\k<=1000000)/\xs.length*k.toNat<=aj) (Classical.propDecidable _) (.ok (List.replicate k.toNat xs).flatten) .bad
theorem B0{xs:List W}{k:Int}(h0:0<=k)(b:k<=1000000)(a:xs.length*k.toNat<=aj):Gh xs k=.ok (List.replicate k.toNat xs).flatten:=by unfold Gh;rw[if_pos ⟨⟨h0,b⟩,a⟩]
theorem yx{e:W->O}(xs:List W):∀k:Nat,(List.replicate k (xs.map e)).flatten=((List.replicate k xs).flatten).map e
 |0=>rfl
 |k+1=>by rw[Sw,Sw,SL,SL,Sm,yx xs k]
theorem OH{e:W->D}(xs:List W)(k:Int):SimR (eL e) (wn (eL e xs) (.int k)) (Gh xs k):=by
 show SimR _ (if (0<=k/\k<=1000000)/\(xs.map e).length*k.toNat<=aj then Res.ok (D.lst (List.replicate k.toNat (xs.map e)).flatten) else Res.bad) _;rw[RH,yx];by_cases h:(0<=k/\k<=1000000)/\xs.length*k.toNat<=aj
 ·rw[RF h,B0 h.1.1 h.1.2 h.2];rfl
 ·unfold Gh;rw[if_neg h,if_neg h];trivial
@[simp] def fT(p:W×W):Res (List W):=.ok [p.1,p.2]
theorem dk{e:W->D}(p:W×W):SimR (lY e) (.ok (mH e e p)) (fT p):=rfl
@[simp] def EU(neg:Bool)(k:List Int)(F:DI X):Res Bool:=.ok (neg.xor (F.get k).isSome)
@[simp] def Nw(F:DI X)(k:List Int):Res X:=match F.get k with|some b=>.ok b|none=>.bad
@[simp] def Rl(F:DI X)(k:List Int)(x:X):Res X:=.ok ((F.get k).getD x)
@[simp] def PR(F:DI X)(k:List Int):Res (Option X):=.ok (F.get k)
theorem C6{e:X->D}(neg:Bool)(k:List Int)(F:DI X):SimR D.bl (u0 neg (lY D.int k) (bR e F)) (EU neg k F):=by
 show u0 neg (.tup (k.map D.int)) (bR e F)=.ok (.bl (neg.xor (F.get k).isSome));unfold u0;rw[gR];simp
theorem wA{e:X->D}(F:DI X)(k:List Int):SimR e (mI (bR e F) (lY D.int k)) (Nw F k):=by
 show SimR e (mI (bR e F) (.tup (k.map D.int))) _;unfold mI Nw;rw[gR];cases F.get k<;>trivial
@[simp] def Jg(b:Z->Res (DI X))(a:Z->Res (List Int))(cx:Z->Res X):Z->Res X:=λs=>(b s).bind λF=>(a s).bind λk=>(cx s).bind λx=>Rl F k x
theorem GY{e:X->D}{b mk a:L4->Res D}{d:Z->Res (DI X)}{c:Z->Res (List Int)}{cx:Z->Res X}(h:EJ rep (bR e) b d)(g:EJ rep (lY D.int) mk c)(f:EJ rep e a cx):
 EJ rep e (EF b mk a) (Jg d c cx):=λs=>(h s).bnd λF=>by
 show SimR e (if true=true then _ else _) _;rw[if_pos rfl];refine(g s).bnd λk=>(f s).bnd λx=>?_;show gE (bR e F) (.tup (k.map D.int)) (e x)=.ok (e ((F.get k).getD x));unfold gE;rw[gR];cases F.get k<;>rfl
theorem GZ{e:X->D}{a mk:L4->Res D}{c:Z->Res (DI X)}{b:Z->Res (List Int)}(f:EJ rep (bR e) a c)(d:EJ rep (lY D.int) mk b):EJ rep (eO e) (qU a mk) (bc PR c b):=λs=>(f s).bnd λF=>by
 show SimR (eO e) (if true=true then _ else _) _;rw[if_pos rfl];refine(d s).bnd λk=>?_;show gE (bR e F) (.tup (k.map D.int)) .non=.ok (eO e (F.get k));unfold gE;rw[gR];cases F.get k<;>rfl
@[simp] def Eo(F:DI X):Res (List (List Int)):=.ok (F.map (·.1))
theorem C3{e:X->D}(F:DI X):SimR (eL (lY D.int)) (yA (bR e F)) (Eo F):=by
 show Res.ok (D.lst ((F.map λp=>p.1.map (Sum.inl:Int->bJ)).map λk=>.tup (k.map kD)))=Res.ok (D.lst ((F.map (·.1)).map (lY D.int)));rw[Se,Se];refine congrArg (λz=>Res.ok (D.lst z)) (SK λp _=>?_);show D.tup ((p.1.map (Sum.inl:Int->bJ)).map kD)=D.tup (p.1.map D.int);rw[Se];rfl
@[simp] def D8(xs:List Int)(d:Int):Res Int:=.ok (match xs with | []=>d|x::r=>dL r x)
@[simp] def IY(xs:List Int)(d:Int):Res Int:=.ok (match xs with | []=>d|x::r=>gq r x)
theorem fY:∀l:List Int,cO (l.map D.int)=some l
 |[]=>rfl
 |x::l=>by rw[RJ,cO,fY l];rfl
theorem Gz(xs:List Int)(d:Int):SimR D.int (oM dL (eL D.int xs) (.int d)) (D8 xs d):=by
 show oM dL (.lst (xs.map D.int)) (.int d)=_;unfold oM;dsimp only;rw[fY];cases xs<;>rfl
theorem Lk(xs:List Int)(d:Int):SimR D.int (oM gq (eL D.int xs) (.int d)) (IY xs d):=by
 show oM gq (.lst (xs.map D.int)) (.int d)=_;unfold oM;dsimp only;rw[fY];cases xs<;>rfl
@[simp] def sf(xs:List Int):Res Int:=if xs.length<4000 then .ok (dd xs).length else .bad
theorem C2(xs:List Int):SimR D.int (oz (eL D.int xs)) (sf xs):=by
 show SimR D.int (oz (.lst (xs.map D.int))) _;unfold oz sf;dsimp only;rw[fY];exact SimR.ite rfl trivial
end
section
variable{Z σ' W X O M:Type}{rep:Z->L4}{Y:σ'->L4}
def Oh(rep:Z->L4)(e:W->D)(ix:List Nat):W×Z->L4:=λp=>some (e p.1)::d6 (rep p.2) ix
def iu(b:W->Res Bool)(te:W->Res X):List W->Res (List X)
 |[]=>.ok []
 |a::r=>(b a).calm.bind λc=>if c=true then (te a).calm.bind λx=>(iu b te r).bind λxs=>.ok (x::xs) else iu b te r
def gW(src:Z->Res (List W))(b:W×Z->Res Bool)(te:W×Z->Res X):Z->Res (List X):=λs=>(src s).bind λxs=>if xs.length<aj then iu (λa=>b (a,s)) (λa=>te (a,s)) xs else .bad
theorem kY{e:W->D}{h:X->D}{ix:List Nat}{src:L4->Res (List D)}{f:L4->Res Bool}{te:L4->Res D}{b:Z->Res (List W)}{c:W×Z->Res Bool}{d:W×Z->Res X}
 (k:EJ rep (List.map e) src b) (j:EJ (Oh rep e ix) (id:Bool->Bool) f c) (m:EJ (Oh rep e ix) h te d):EJ rep (eL h) (ko src ix f te) (gW b c d):=λs=>(k s).bnd λxs=>by
 rw[RH];refine SimR.ite ?_ trivial
 have g:∀l:List W,SimR (List.map h) (bL f te (d6 (rep s) ix) (l.map e)) (iu (λa=>c (a,s)) (λa=>d (a,s)) l):=by
  intro l
  induction l with
  |nil=>rfl
  |cons a l i=>
    rw[List.map_cons];unfold bL iu;refine SimR.bnd (j (a,s)).calm λt=>SimR.ite (SimR.bnd (m (a,s)).calm λx=>SimR.bnd i λxs=>?_) i;rfl
 have:=g xs
 exact SimR.el this (λ_=>rfl) (λ_=>rfl) λ_=>trivial
theorem xj:EJ rep (id:Bool->Bool) (λ_=>.ok true) (λ_=>.ok true):=λs=>rfl
theorem gv{e:W->D}{m:L4->Res D}{c:Z->Res (List W)}(h:EJ rep (eL e) m c):EJ rep (List.map e) (kH m) c:=λs=>by
 have h:=h s;unfold kH;exact SimR.el h (λ_=>rfl) (λ_=>rfl) λ_=>trivial
def cM(lo hi:Int):List Int:=(List.range (hi-lo).toNat).map λi:Nat=>lo+i
noncomputable def iO(lo hi:Int):Res (List Int):=@ite _ (-(2 ^ 62)<=lo/\lo<2 ^ 62/\-(2 ^ 62)<=hi/\hi<2 ^ 62) (Classical.propDecidable _) (.ok (cM lo hi)) .bad
theorem Gg(lo hi:Int):(cM lo hi).map D.int=rng lo hi:=by unfold cM rng;rw[List.map_map];rfl
theorem eI{lo hi:Int}(d:-(2 ^ 62)<=lo)(c:lo<2 ^ 62)(b:-(2 ^ 62)<=hi)(a:hi<2 ^ 62):iO lo hi=.ok (cM lo hi):=by unfold iO;rw[if_pos ⟨d,c,b,a⟩]
theorem xl{a b:L4->Res D}{d c:Z->Res Int}(f:EJ rep D.int a d)(e:EJ rep D.int b c):EJ rep (List.map D.int) (zJ a b) (bc iO d c):=λs=>(f s).bnd λi=>(e s).bnd λj=>by
 show SimR _ (if -(2 ^ 62)<=i/\i<2 ^ 62/\-(2 ^ 62)<=j/\j<2 ^ 62 then _ else _) _;by_cases h:-(2 ^ 62)<=i/\i<2 ^ 62/\-(2 ^ 62)<=j/\j<2 ^ 62
 ·rw[RF h,eI h.1 h.2.1 h.2.2.1 h.2.2.2];exact congrArg Res.ok (Gg i j).symm
 ·unfold iO;rw[if_neg h,if_neg h];trivial
theorem gw{b:L4->Res D}{c:Z->Res Int}(d:EJ rep D.int b c):EJ rep (List.map D.int) (fA b) (b8 (iO 0) c):=λs=>xl (sF (a:=(0:Int)) rfl) d s
def OutC.res:OutC Z W->Res W
 |.ok a _=>.ok a
 |.exc x _=>.exc x
 |.bad=>.bad
@[simp] theorem Q5(a:W)(s:Z):(OutC.ok a s).res=.ok a:=rfl
@[simp] theorem QM(x:Nat)(s:Z):(OutC.exc x s:OutC Z W).res=.exc x:=rfl
@[simp] theorem QN:(OutC.bad:OutC Z W).res=.bad:=rfl
@[simp] def bndO(r:Res W)(s:Z)(k:W->OutC Z X):OutC Z X:=match r with
 |.ok a=>k a
 |.exc x=>.exc x s
 |.bad=>.bad
theorem SimO.res{e:W->D}{b:List D->Out D}{ds:List D}{q:OutC Z W}(h:SimO rep e (b ds) q):SimR e (gb b ds) q.res:=by
 unfold gb;cases q with
 |ok a s=>rw[show b ds=_ from h];rfl
 |exc x s=>rw[show b ds=_ from h];rfl
 |bad=>trivial
theorem SimO.bndO{e:W->O}{b:X->M}{s:Z}{r:Res O}{q:Res W}{k:O->L4->Out M}{l:W->OutC Z X}(h:SimR e r q)(c:∀a,SimO rep b (k (e a) (rep s)) (l a)):SimO rep b ((r.up (rep s)).bind k) (Cl.bndO q s l):=by
 cases q with
 |ok a=>rw[show r=_ from h];exact c a
 |exc x=>rw[show r=_ from h];exact rfl
 |bad=>trivial
@[simp] def NB(w:σ'->Z->Z)(s:Z):OutC σ' W->OutC Z W
 |.ok a s'=>.ok a (w s' s)
 |.exc x s'=>.exc x (w s' s)
 |.bad=>.bad
theorem SimO.wb{b:List Ap}{c:List D->Out D}{ds:List D}{e:W->D}{q:OutC σ' W}{w:σ'->Z->Z}(d:∀s' s,d7 b 0 (Y s') (rep s)=rep (w s' s))(h:SimO Y e (c ds) q)(s:Z):SimO rep e (fg b c ds (rep s)) (NB w s q):=by
 unfold fg;cases q with
 |ok a s'=>rw[show c ds=_ from h];show Out.ok _ _=Out.ok _ _;rw[d]
 |exc x s'=>rw[show c ds=_ from h];show Out.exc _ _=Out.exc _ _;rw[d]
 |bad=>trivial
theorem qe{e:W->D}{a:O->M}{m:L4->Res D}{r:L4->Res (List D)}{k:List D->Res M}{c:Z->Res W}{l:W->Res O}{s:Z}(h:EJ rep e m c)(g:∀x,SimR a ((r (rep s)).bind λds=>k (e x::ds)) (l x)):SimR a ((ax m r (rep s)).bind k) ((c s).bind l):=by
 have h:=h s;unfold ax;refine SimR.el h (λx=>?_) (λ_=>rfl) λ_=>trivial;have g:=g x;simp only[Res.bind];cases z:r (rep s)<;>rw[z]at g<;>exact g
theorem qA{e:W->D}{a:O->M}{m:L4->Res D}{r:L4->Res (List D)}{k:List D->L4->Out M}{c:Z->Res W}{l:W->OutC Z O}{s:Z}(h:EJ rep e m c)(g:∀x,SimO rep a (((r (rep s)).up (rep s)).bind λds T=>k (e x::ds) T) (l x)):SimO rep a (((ax m r (rep s)).up (rep s)).bind k) (bndO (c s) s l):=by
 have h:=h s;unfold ax;refine SimR.el h (λx=>?_) (λ_=>rfl) λ_=>trivial;have g:=g x;simp only[Res.bind];cases z:r (rep s)<;>rw[z]at g<;>exact g
theorem ce{e:W->D}{f:X->D}{m n:L4->Res D}{c:Z->Res W}{d:Z->Res X}(h:EJ rep e m c)(g:EJ rep f n d):EJ rep (mH e f) (qf (ax m (ax n a6))) (mT c d):=λs=>qe h λa=>qe g λb=>by simp only[a6,Res.bind];rw[RF (by show 2<=aj;decide)];rfl
theorem CD{e:W->D}{f:O->D}{c:Nat}{b:Str}{d:List D->Out D}{m:L4->Res D}{r:L4->Res (List D)}{q:Z->Res W}{l:W->Res O}{s:Z}(i:∀a,cA c b (e a)=true)(h:EJ rep e m q)(g:∀x,SimR f ((r (rep s)).bind λds=>gb d (e x::ds)) (l x)):SimR f (pm c b d m r (rep s)) ((q s).bind l):=(h s).bnd λx=>by rw[RF (i x)];exact g x
theorem IZ{e:W->D}{i:O->D}{c:Nat}{d:Str}{b:List Ap}{f:List D->Out D}{m:L4->Res D}{r:L4->Res (List D)}{q:Z->Res W}{l:W->OutC Z O}{s:Z}(j:∀a,cA c d (e a)=true)(h:EJ rep e m q)(g:∀x,SimO rep i (((r (rep s)).up (rep s)).bind λds T=>fg b f (e x::ds) T) (l x)):SimO rep i (mm c d b f m r (rep s)) (bndO (q s) s l):=SimO.bndO (h s) λx=>by rw[RF (j x)];exact g x
variable{α0 α1 α2 α3 α4 α5:Type}{e0:α0->D}{e1:α1->D}{e2:α2->D}{e3:α3->D}{e4:α4->D}{e5:α5->D}{m0 m1 m2 m3 m4 m5:L4->Res D}{c0:Z->Res α0}{c1:Z->Res α1}{c2:Z->Res α2}{c3:Z->Res α3}{c4:Z->Res α4}{c5:Z->Res α5}{eR:O->D}{fm:List D->Out D}{w:σ'->Z->Z}{plan:List Ap}{c:Nat}{mn:Str}
@[simp] def rV(f:α0->OutC σ' O)(c0:Z->Res α0):Z->Res O:=λs=>(c0 s).bind λa=>(f a).res
@[simp] def Gn(f:α0->Res O)(c0:Z->Res α0):Z->Res O:=λs=>(c0 s).bind λa=>f a
theorem EL{f:α0->OutC σ' O}(b:∀a,SimO Y eR (fm [e0 a]) (f a))(h0:EJ rep e0 m0 c0):EJ rep eR (pc fm (ax m0 a6)) (rV f c0):=λs=>qe h0 λa=>(b a).res
theorem xn{f:α0->Res O}(b:∀a,SimR eR (fV c fm [e0 a]) (f a))(h0:EJ rep e0 m0 c0):EJ rep eR (pk c fm (ax m0 a6)) (Gn f c0):=λs=>qe h0 λa=>b a
theorem xm{f:α0->OutC σ' O}(d:∀a,cA c mn (e0 a)=true)(e:∀b,SimO Y eR (fm [e0 b]) (f b))(h0:EJ rep e0 m0 c0):EJ rep eR (pm c mn fm m0 a6) (rV f c0):=λs=>CD d h0 λb=>(e b).res
@[simp] def cf(f:α0->α1->OutC σ' O)(c0:Z->Res α0)(c1:Z->Res α1):Z->Res O:=λs=>(c0 s).bind λb=>(c1 s).bind λa=>(f b a).res
theorem cG{f:α0->α1->OutC σ' O}(c:∀b a,SimO Y eR (fm [e0 b,e1 a]) (f b a))(h0:EJ rep e0 m0 c0)(d:EJ rep e1 m1 c1):EJ rep eR (pc fm (ax m0 (ax m1 a6))) (cf f c0 c1):=λs=>qe h0 λb=>qe d λa=>(c b a).res
theorem bY{f:α0->α1->OutC σ' O}(e:∀a,cA c mn (e0 a)=true)(g:∀d b,SimO Y eR (fm [e0 d,e1 b]) (f d b))(h0:EJ rep e0 m0 c0)(h:EJ rep e1 m1 c1):EJ rep eR (pm c mn fm m0 (ax m1 a6)) (cf f c0 c1):=λs=>CD e h0 λd=>qe h λb=>(g d b).res
@[simp] def jw(f:α0->α1->α2->OutC σ' O)(c0:Z->Res α0)(c1:Z->Res α1)(c2:Z->Res α2):Z->Res O:=λs=>(c0 s).bind λc=>(c1 s).bind λb=>(c2 s).bind λa=>(f c b a).res
@[simp] def qj(f:α0->α1->α2->OutC σ' O)(w:σ'->Z->Z)(c0:Z->Res α0)(c1:Z->Res α1)(c2:Z->Res α2):Z->OutC Z O:=λs=>bndO (c0 s) s λc=>bndO (c1 s) s λb=>bndO (c2 s) s λa=>NB w s (f c b a)
theorem Mj{f:α0->α1->α2->OutC σ' O}(d:∀c b a,SimO Y eR (fm [e0 c,e1 b,e2 a]) (f c b a))(h0:EJ rep e0 m0 c0)(g:EJ rep e1 m1 c1)(e:EJ rep e2 m2 c2):EJ rep eR (pc fm (ax m0 (ax m1 (ax m2 a6)))) (jw f c0 c1 c2):=λs=>qe h0 λc=>qe g λb=>qe e λa=>(d c b a).res
theorem fw{f:α0->α1->α2->OutC σ' O}(g:∀a,cA c mn (e0 a)=true)(h:∀e d b,SimO Y eR (fm [e0 e,e1 d,e2 b]) (f e d b))(h0:EJ rep e0 m0 c0)(j:EJ rep e1 m1 c1)(i:EJ rep e2 m2 c2):EJ rep eR (pm c mn fm m0 (ax m1 (ax m2 a6))) (jw f c0 c1 c2):=λs=>CD g h0 λe=>qe j λd=>qe i λb=>(h e d b).res
theorem hV{f:α0->α1->α2->OutC σ' O}(h:∀a,cA c mn (e0 a)=true)(g:∀s' s,d7 plan 0 (Y s') (rep s)=rep (w s' s))(i:∀e d b,SimO Y eR (fm [e0 e,e1 d,e2 b]) (f e d b))(h0:EJ rep e0 m0 c0)(k:EJ rep e1 m1 c1)(j:EJ rep e2 m2 c2):NJ rep eR (mm c mn plan fm m0 (ax m1 (ax m2 a6))) (qj f w c0 c1 c2):=λs=>IZ h h0 λe=>qA k λd=>qA j λb=>SimO.wb g (i e d b) s
@[simp] def On(f:α0->α1->α2->α3->OutC σ' O)(c0:Z->Res α0)(c1:Z->Res α1)(c2:Z->Res α2)(c3:Z->Res α3):Z->Res O:=λs=>(c0 s).bind λd=>(c1 s).bind λc=>(c2 s).bind λb=>(c3 s).bind λa=>(f d c b a).res
@[simp] def Ac(f:α0->α1->α2->α3->OutC σ' O)(w:σ'->Z->Z)(c0:Z->Res α0)(c1:Z->Res α1)(c2:Z->Res α2)(c3:Z->Res α3):Z->OutC Z O:=λs=>bndO (c0 s) s λd=>bndO (c1 s) s λc=>bndO (c2 s) s λb=>bndO (c3 s) s λa=>NB w s (f d c b a)
theorem Mh{f:α0->α1->α2->α3->OutC σ' O}(e:∀d c b a,SimO Y eR (fm [e0 d,e1 c,e2 b,e3 a]) (f d c b a))(h0:EJ rep e0 m0 c0)(i:EJ rep e1 m1 c1)(h:EJ rep e2 m2 c2)(g:EJ rep e3 m3 c3):EJ rep eR (pc fm (ax m0 (ax m1 (ax m2 (ax m3 a6))))) (On f c0 c1 c2 c3):=λs=>qe h0 λd=>qe i λc=>qe h λb=>qe g λa=>(e d c b a).res
theorem Lv{f:α0->α1->α2->α3->OutC σ' O}(e:∀s' s,d7 plan 0 (Y s') (rep s)=rep (w s' s))(g:∀d c b a,SimO Y eR (fm [e0 d,e1 c,e2 b,e3 a]) (f d c b a))(h0:EJ rep e0 m0 c0)(j:EJ rep e1 m1 c1)(i:EJ rep e2 m2 c2)(h:EJ rep e3 m3 c3):NJ rep eR (mc plan fm (ax m0 (ax m1 (ax m2 (ax m3 a6))))) (Ac f w c0 c1 c2 c3):=λs=>qA h0 λd=>qA j λc=>qA i λb=>qA h λa=>SimO.wb e (g d c b a) s
theorem wE{f:α0->α1->α2->α3->OutC σ' O}(i:∀a,cA c mn (e0 a)=true)(h:∀s' s,d7 plan 0 (Y s') (rep s)=rep (w s' s))(j:∀g e d b,SimO Y eR (fm [e0 g,e1 e,e2 d,e3 b]) (f g e d b))(h0:EJ rep e0 m0 c0)(m:EJ rep e1 m1 c1)(l:EJ rep e2 m2 c2)(k:EJ rep e3 m3 c3):NJ rep eR (mm c mn plan fm m0 (ax m1 (ax m2 (ax m3 a6)))) (Ac f w c0 c1 c2 c3):=λs=>IZ i h0 λg=>qA m λe=>qA l λd=>qA k λb=>SimO.wb h (j g e d b) s
@[simp] def Om(f:α0->α1->α2->α3->α4->OutC σ' O)(c0:Z->Res α0)(c1:Z->Res α1)(c2:Z->Res α2)(c3:Z->Res α3)(c4:Z->Res α4):Z->Res O:=λs=>(c0 s).bind λe=>(c1 s).bind λd=>(c2 s).bind λc=>(c3 s).bind λb=>(c4 s).bind λa=>(f e d c b a).res
@[simp] def Pg(f:α0->α1->α2->α3->α4->OutC σ' O)(w:σ'->Z->Z)(c0:Z->Res α0)(c1:Z->Res α1)(c2:Z->Res α2)(c3:Z->Res α3)(c4:Z->Res α4):Z->OutC Z O:=λs=>bndO (c0 s) s λe=>bndO (c1 s) s λd=>bndO (c2 s) s λc=>bndO (c3 s) s λb=>bndO (c4 s) s λa=>NB w s (f e d c b a)
theorem Mg{f:α0->α1->α2->α3->α4->OutC σ' O}(g:∀e d c b a,SimO Y eR (fm [e0 e,e1 d,e2 c,e3 b,e4 a]) (f e d c b a))(h0:EJ rep e0 m0 c0)(k:EJ rep e1 m1 c1)(j:EJ rep e2 m2 c2)(i:EJ rep e3 m3 c3)(h:EJ rep e4 m4 c4):EJ rep eR (pc fm (ax m0 (ax m1 (ax m2 (ax m3 (ax m4 a6)))))) (Om f c0 c1 c2 c3 c4):=λs=>qe h0 λe=>qe k λd=>qe j λc=>qe i λb=>qe h λa=>(g e d c b a).res
theorem Lu{f:α0->α1->α2->α3->α4->OutC σ' O}(g:∀s' s,d7 plan 0 (Y s') (rep s)=rep (w s' s))(h:∀e d c b a,SimO Y eR (fm [e0 e,e1 d,e2 c,e3 b,e4 a]) (f e d c b a))(h0:EJ rep e0 m0 c0)(l:EJ rep e1 m1 c1)(k:EJ rep e2 m2 c2)(j:EJ rep e3 m3 c3)(i:EJ rep e4 m4 c4):NJ rep eR (mc plan fm (ax m0 (ax m1 (ax m2 (ax m3 (ax m4 a6)))))) (Pg f w c0 c1 c2 c3 c4):=λs=>qA h0 λe=>qA l λd=>qA k λc=>qA j λb=>qA i λa=>SimO.wb g (h e d c b a) s
end
section
variable{Z σ' W X O M:Type}{rep:Z->L4}{eR:X->D}
@[simp] def bj(c:Z->Res W):Z->OutC Z W:=λs=>match c s with
 |.ok a=>.ok a s
 |.exc x=>.exc x s
 |.bad=>.bad
theorem am{e:W->O}{m:L4->Res O}{c:Z->Res W}(h:EJ rep e m c):NJ rep e (aP m) (bj c):=λs=>by
 have h:=h s;unfold bj aP;refine SimR.el h (λa=>?_) (λ_=>rfl) λ_=>trivial;rfl
@[simp] def Fq(o:OutC Z W)(k:W->Z->OutC Z X):OutC Z X:=match o with
 |.ok a s=>k a s
 |.exc x s=>.exc x s
 |.bad=>.bad
theorem SimO.bd{e:W->O}{b:X->M}{r:Out O}{q:OutC Z W}{k:O->L4->Out M}{l:W->Z->OutC Z X}(h:SimO rep e r q)(c:∀a s,SimO rep b (k (e a) (rep s)) (l a s)):SimO rep b (r.bind k) (Fq q l):=by
 cases q with
 |ok a s=>rw[show r=_ from h];exact c a s
 |exc x s=>rw[show r=_ from h];exact rfl
 |bad=>trivial
theorem uu{e:W->D}{i:X->D}{m:L4->Out D}{c:Z->OutC Z W}{f:W->Res X}(h:∀a,SimR i (.ok (e a)) (f a))(d:NJ rep e m c):NJ rep i m (λs=>Fq (c s) λa s=>bndO (f a) s λb=>.ok b s):=λs=>by
 have d:=d s;dsimp only;cases q:c s with
 |ok a g=>
   rw[q]at d;rw[show m (rep s)=_ from d]
   have:=h a
   show SimO rep i (.ok (e a) (rep g)) (bndO (f a) g λb=>.ok b g);cases j:f a with
   |ok b=>rw[j]at this;have this:Res.ok (e a)=.ok (i b):=this;injection this with this;rw[this];rfl
   |exc x=>rw[j]at this;cases this
   |bad=>trivial
 |exc x g=>rw[q]at d;exact d
 |bad=>trivial
theorem Lq{m:L4->Out D}{c:Z->OutC Z Bool}(h:NJ rep D.bl m c):NJ rep (id:Bool->Bool) (A4 m) c:=λs=>by
 have h:=h s;unfold A4;cases q:c s with
 |ok a b=>rw[q]at h;rw[show m (rep s)=_ from h];rfl
 |exc x b=>rw[q]at h;rw[show m (rep s)=_ from h];rfl
 |bad=>trivial
@[simp] def Qy(f:W->X->Res O)(a:Z->OutC Z W)(b:Z->OutC Z X):Z->OutC Z O:=λs=>Fq (a s) λx s=>Fq (b s) λy s=>bndO (f x y) s λz=>.ok z s
theorem OL{e:W->D}{g:X->D}{d:O->D}{F:D->D->Res D}{f:W->X->Res O}{m n:L4->Out D}{c:Z->OutC Z W}{i:Z->OutC Z X}(h:∀a b,SimR d (F (e a) (g b)) (f a b))(k:NJ rep e m c)(j:NJ rep g n i):NJ rep d (Rn F m n) (Qy f c i):=λs=>(k s).bd λa s=>(j s).bd λb s=>by
 have:=h a b
 refine SimR.el this (λz=>?_) (λ_=>rfl) λ_=>trivial;rfl
@[simp] def AT(g:Z->Option W)(b:Z->Z):Z->OutC Z W:=λs=>match g s with|some a=>.ok a (b s)|none=>.bad
theorem jD{e:W->D}{i:Nat}{g:Z->Option W}{b:Z->Z}(h:∀s,rg (rep s) i=(g s).map e)(c:∀s,(rep s).set i none=rep (b s)):NJ rep e (yw i) (AT g b):=λs=>by
 unfold yw AT;rw[h s];cases g s with
 |none=>trivial
 |some a=>show Out.ok _ _=Out.ok _ _;rw[c]
@[simp] def Pn(g:Z->Option (List W))(p:Z->List W->Z)(f:List W->M->Option (O×List W))(c:Z->Res M):Z->OutC Z O:=λs=>match g s with
 |none=>.bad
 | some xs=>bndO (c s) s λx=>match f xs x with
   |some (r,ys)=>.ok r (p s ys)
   |none=>.bad
def tR(xs:List W)(x:W):Option (Unit×List W):=if xs.length<aj then some ((),xs++[x]) else none
def CC(xs:List W)(i:Int):Option (W×List W):=if 0<=i/\i<xs.length/\xs.length<=aj then xs[i.toNat]?.map λd=>(d,xs.eraseIdx i.toNat) else none
def Nl{δ':Type}(e:W->D)(b:M->D)(a:O->D)(F:List D->D->Option (D×List D))(f:List W->M->Option (O×List W)):Prop:=∀xs x,match f xs x with
 |some (r,ys)=>F (xs.map e) (b x)=some (a r,ys.map e)
 |none=>True
theorem qW{e:W->O}:∀(xs:List W) (i:Nat),(xs.map e).eraseIdx i=(xs.eraseIdx i).map e
 |[],i=>by simp
 |x::xs,0=>by simp
 |x::xs,i+1=>by rw[RJ,S0,S0,RJ,qW xs i]
theorem EI{e:W->D}:Nl (δ':=Unit) e e eN jg tR:=λxs x=>by
 unfold tR jg;rw[List.length_map];by_cases h:xs.length<aj
 ·rw[RF h,RF h];show some (D.non,xs.map e++[e x])=some (eN (),(xs++[x]).map e);rw[Sm];rfl
 ·rw[RE h];trivial
theorem PD{e:W->D}:Nl (δ':=Unit) e D.int e CB CC:=λxs i=>by
 unfold CC CB;dsimp only;rw[List.length_map];by_cases h:0<=i/\i<xs.length/\xs.length<=aj
 · rw[RF h,RF h,Sl];cases xs[i.toNat]? with
   |none=>trivial
   |some a=>
     show some (e a,(xs.map e).eraseIdx i.toNat)=some (e a,(xs.eraseIdx i.toNat).map e);rw[qW]
 ·rw[RE h];trivial
theorem Da{e:W->D}{b:M->D}{a:O->D}{get:L4->Option D}{set:L4->D->L4}{g:Z->Option (List W)}{p:Z->List W->Z}{F:List D->D->Option (D×List D)}{f:List W->M->Option (O×List W)}{m:L4->Res D}{c:Z->Res M}
 (j:∀s,get (rep s)=(g s).map (eL e)) (i:∀s xs,set (rep s) (eL e xs)=rep (p s xs)) (hF:Nl (δ':=Unit) e b a F f) (d:EJ rep b m c):NJ rep a (mU get set F m) (Pn g p f c):=λs=>by
 have d:=d s;unfold mU Pn;rw[j];cases g s with
 |none=>trivial
 |some xs=>
   show SimO rep a (GN set F (rep s) (xs.map e) (m (rep s))) (bndO (c s) s _);refine SimR.el d (λx=>?_) (λ_=>rfl) λ_=>trivial
   have:=hF xs x
   show SimO rep a (w6 set (rep s) (F (xs.map e) (b x))) (match f xs x with|some (r,ys)=>OutC.ok r (p s ys)|none=>.bad);cases h:f xs x with
   |none=>trivial
   |some r=>
     rw[h]at this;obtain⟨r,ys⟩:=r;have this:F (xs.map e) (b x)=some (a r,ys.map e):=this;rw[this];show Out.ok _ _=Out.ok _ _;rw[<-i];rfl
@[simp] def M5(g:Z->Option (List W))(p:Z->List W->Z)(c:Z->OutC Z W):Z->OutC Z Unit:=λs=>match g s with
 |none=>.bad
 | some _=>Fq (c s) λx s=>match g s with
   |none=>.bad
   |some xs=>(match tR xs x with|some (r,ys)=>.ok r (p s ys)|none=>.bad)
theorem Lw{e:W->D}{i:Nat}{g:Z->Option (List W)}{p:Z->List W->Z}{m:L4->Out D}{c:Z->OutC Z W}(b:∀s,rg (rep s) i=(g s).map (eL e))(h:∀s xs,(rep s).set i (some (eL e xs))=rep (p s xs))(a:NJ rep e m c):NJ rep eN (Fs i m) (M5 g p c):=λs=>by
 have a:=a s;unfold Fs M5;rw[b];cases g s with
 |none=>trivial
 |some d=>
   show SimO rep eN ((m (rep s)).bind (vU i)) (Fq (c s) _);refine a.bd λx s=>?_;unfold vU;rw[b];cases g s with
   |none=>trivial
   |some xs=>
     have:=EI (e:=e) xs x
     show SimO rep eN (w6 (jA i) (rep s) (jg (xs.map e) (e x))) (match tR xs x with|some (r,ys)=>OutC.ok r (p s ys)|none=>.bad);cases f:tR xs x with
     |none=>trivial
     |some r=>
       rw[f]at this;obtain⟨r,ys⟩:=r;have this:jg (xs.map e) (e x)=some (eN r,ys.map e):=this;rw[this];show Out.ok _ _=Out.ok _ _;rw[<-h];rfl
end
section
variable{Z σ' W X O M:Type}{rep:Z->L4}{eR:X->D}
@[simp] def MZ(o:OutC Z W)(k:W->Z->FlC Z X):FlC Z X:=match o with
 |.ok a s=>k a s
 |.exc x s=>.exc x s
 |.bad=>.bad
theorem SimS.bd{e:W->O}{r:Out O}{q:OutC Z W}{k:O->L4->SO}{l:W->Z->FlC Z X}(h:SimO rep e r q)(b:∀a s,SimS rep eR (k (e a) (rep s)) (l a s)):SimS rep eR (gJ r k) (MZ q l):=by
 cases q with
 |ok a s=>rw[show r=_ from h];exact b a s
 |exc x s=>rw[show r=_ from h];exact rfl
 |bad=>trivial
theorem SimS.ite{p:Prop}[Decidable p]{r a:SO}{q b:FlC Z X}(h:SimS rep eR r q)(h':SimS rep eR a b):SimS rep eR (if p then r else a) (if p then q else b):=by
 by_cases z:p
 ·rw[RF z,RF z];exact h
 ·rw[RE z,RE z];exact h'
@[simp] def aI(a b:Z->FlC Z X):Z->FlC Z X:=λs=>match a s with
 |.nx s'=>b s'
 |o=>o
theorem ak{a b:L4->SO}{c d:Z->FlC Z X}(e:TJ rep eR a c)(f:TJ rep eR b d):TJ rep eR (ay a b) (aI c d):=λs=>by
 have e:=e s;unfold ay aI;cases q:c s with
 |nx s'=>rw[q]at e;rw[show a (rep s)=_ from e];exact f s'
 |rt b s'=>rw[q]at e;rw[show a (rep s)=_ from e];rfl
 |bk s'=>rw[q]at e;rw[show a (rep s)=_ from e];rfl
 |ct s'=>rw[q]at e;rw[show a (rep s)=_ from e];rfl
 |exc x s'=>rw[q]at e;rw[show a (rep s)=_ from e];rfl
 |bad=>trivial
@[simp] def bM:Z->FlC Z X:=λs=>.nx s
theorem aZ:TJ rep eR bH bM:=λs=>rfl
@[simp] def dq(c:Z->OutC Z X):Z->FlC Z X:=λs=>MZ (c s) λb s=>.rt b s
theorem bB{m:L4->Out D}{c:Z->OutC Z X}(h:NJ rep eR m c):TJ rep eR (dF m) (dq c):=λs=>SimS.bd (h s) λb s=>rfl
@[simp] def HW(b:X):Z->FlC Z X:=λs=>.rt b s
theorem FO{b:X}(h:eR b=.non):TJ rep eR Kw (HW b):=λs=>by show SO.rt .non _=SO.rt (eR b) _;rw[h]
@[simp] def bb(c:Z->OutC Z W):Z->FlC Z X:=λs=>MZ (c s) λ_ s=>.nx s
theorem az{e:W->D}{m:L4->Out D}{c:Z->OutC Z W}(h:NJ rep e m c):TJ rep eR (aT m) (bb c):=λs=>SimS.bd (h s) λb s=>rfl
@[simp] def bU(u:W->Z->Z)(c:Z->OutC Z W):Z->FlC Z X:=λs=>MZ (c s) λa s=>.nx (u a s)
theorem JA{e:W->D}{i:Nat}{m:L4->Out D}{c:Z->OutC Z W}{u:W->Z->Z}(b:∀a s,(rep s).set i (some (e a))=rep (u a s))(h:NJ rep e m c):TJ rep eR (bW i m) (bU u c):=λs=>SimS.bd (h s) λa s=>by show SO.nx _=SO.nx _;rw[b]
@[simp] def iG(t:Z->OutC Z Bool)(a b:Z->FlC Z X):Z->FlC Z X:=λs=>MZ (t s) λc s=>if c=true then a s else b s
theorem bK{t:L4->Out Bool}{a b:L4->SO}{ct:Z->OutC Z Bool}{c d:Z->FlC Z X}(e:NJ rep (id:Bool->Bool) t ct)(g:TJ rep eR a c)(f:TJ rep eR b d):TJ rep eR (gc t a b) (iG ct c d):=λs=>SimS.bd (e s) λt s=>SimS.ite (g s) (f s)
def oK(u:W->Z->Z)(body:Z->FlC Z X):List W->Z->FlC Z X
 |[],s=>.nx s
 | a::r,s=>match body (u a s) with
   |.nx s'=>oK u body r s'
   |.ct s'=>oK u body r s'
   |.bk s'=>.nx s'
   |o=>o
theorem rD{e:W->D}{f:D->L4->Option L4}{body:L4->SO}{u:W->Z->Z}{c:Z->FlC Z X}(g:∀a s,f (e a) (rep s)=some (rep (u a s)))(h:TJ rep eR body c):∀(xs:List W) (s:Z),SimS rep eR (sC f body (xs.map e) (rep s)) (oK u c xs s)
 |[],s=>rfl
 | a::r,s=>by
   have d:=h (u a s);rw[List.map_cons];unfold sC oK;rw[g];dsimp only;cases q:c (u a s) with
   |nx s'=>rw[q]at d;rw[show body (rep (u a s))=_ from d];exact rD g h r s'
   |ct s'=>rw[q]at d;rw[show body (rep (u a s))=_ from d];exact rD g h r s'
   |bk s'=>rw[q]at d;rw[show body (rep (u a s))=_ from d];rfl
   |rt b s'=>rw[q]at d;rw[show body (rep (u a s))=_ from d];rfl
   |exc x s'=>rw[q]at d;rw[show body (rep (u a s))=_ from d];rfl
   |bad=>trivial
@[simp] def fb(src:Z->Res (List W))(u:W->Z->Z)(body:Z->FlC Z X):Z->FlC Z X:=λs=>match src s with
 |.ok xs=>oK u body xs s
 |.exc x=>.exc x s
 |.bad=>.bad
theorem c9{e:W->D}{src:L4->Res (List D)}{b:Z->Res (List W)}{d:D->L4->Option L4}{body:L4->SO}{u:W->Z->Z}{c:Z->FlC Z X}(f:EJ rep (List.map e) src b)(g:∀a s,d (e a) (rep s)=some (rep (u a s)))(h:TJ rep eR body c):TJ rep eR (fB (aP src) d body) (fb b u c):=λs=>by
 have f:=f s;unfold fB aP fb;refine SimR.el f (λxs=>?_) (λ_=>rfl) λ_=>trivial;exact rD g h xs s
def Jx(t:Z->OutC Z Bool)(body:Z->FlC Z X):Nat->Z->FlC Z X
 |0,_=>.bad
 | n+1,s=>match t s with
   | .ok true a=>(match body a with
     |.nx s'=>Jx t body n s'
     |.ct s'=>Jx t body n s'
     |.bk s'=>.nx s'
     |o=>o)
   |.ok false a=>.nx a
   |.exc x a=>.exc x a
   |.bad=>.bad
theorem A7{t:L4->Out Bool}{body:L4->SO}{ct:Z->OutC Z Bool}{c:Z->FlC Z X}(f:NJ rep (id:Bool->Bool) t ct)(h:TJ rep eR body c):∀n,TJ rep eR (zD t body n) (Jx ct c n)
 |0=>λs=>trivial
 | n+1=>λs=>by
   have e:=f s;unfold zD Jx;cases q:ct s with
   |ok b d=>
     rw[q]at e;rw[show t (rep s)=_ from e];cases b with
     |false=>rfl
     |true=>
       have a:=h d;show SimS rep eR (match body (rep d) with | .nx G=>zD t body n G | .ct G=>zD t body n G | .bk G=>.nx G | o=>o) _;dsimp only;cases q:c d with
       |nx s'=>rw[q]at a;rw[show body (rep d)=_ from a];exact A7 f h n s'
       |ct s'=>rw[q]at a;rw[show body (rep d)=_ from a];exact A7 f h n s'
       |bk s'=>rw[q]at a;rw[show body (rep d)=_ from a];rfl
       |rt b s'=>rw[q]at a;rw[show body (rep d)=_ from a];rfl
       |exc x s'=>rw[q]at a;rw[show body (rep d)=_ from a];rfl
       |bad=>trivial
   |exc x d=>rw[q]at e;rw[show t (rep s)=_ from e];rfl
   |bad=>trivial
@[simp] def jG(g:Z->Option (DI W))(p:Z->DI W->Z)(b:Z->Res (List Int))(a:Z->OutC Z W):Z->FlC Z X:=λs=>MZ (a s) λx s=>match g s with
 |none=>.bad
 | some F=>(match b s with
   |.ok k=>if F.length<aj then .nx (p s (F.put k x)) else .bad
   |.exc y=>.exc y s
   |.bad=>.bad)
theorem fD{e:W->D}{get:L4->Option D}{set:L4->D->L4}{g:Z->Option (DI W)}{p:Z->DI W->Z}{mk:L4->Res D}{d:Z->Res (List Int)}{b:L4->Out D}{c:Z->OutC Z W}(j:∀s,get (rep s)=(g s).map (bR e))(i:∀s F,set (rep s) (bR e F)=rep (p s F))
 (a:EJ rep (lY D.int) mk d) (f:NJ rep e b c):TJ rep eR (ja get set mk b) (jG g p d c):=λs=>SimS.bd (f s) λx s=>by
 have a:=a s;rw[j];cases g s with
 |none=>trivial
 |some F=>
   show SimS rep eR (uY set (e x) (bR e F) (rep s) (mk (rep s))) _;dsimp only;refine SimR.el a (λk=>?_) (λ_=>rfl) λ_=>trivial;show SimS rep eR (uY set (e x) (bR e F) (rep s) (.ok (.tup (k.map D.int)))) (if F.length<aj then FlC.nx (p s (F.put k x)) else .bad);by_cases h:F.length<aj
   ·rw[if_pos h];unfold uY;dsimp only;rw[ER h];show SO.nx _=SO.nx _;rw[i]
   ·rw[RE h];trivial
@[simp] def cF(d:Option X):FlC Z X->OutC Z X
 |.nx s=>(match d with|some b=>.ok b s|none=>.bad)
 |.rt b s=>.ok b s
 |.exc x s=>.exc x s
 |_=>.bad
theorem f6{k:Nat}{ds:List D}{body:L4->SO}{c:Z->FlC Z X}{s:Z}{d:X}(hd:eR d=.non)(h:TJ rep eR body c)(a:ds.map some++List.replicate (k-ds.length) none=rep s):SimO rep eR (Mi.run k body ds) (cF (some d) (c s)):=by
 have h:=h s;unfold Mi.run;rw[a];cases q:c s with
 |nx s'=>rw[q]at h;rw[show body (rep s)=_ from h];show Out.ok .non _=Out.ok (eR d) _;rw[hd]
 |rt b s'=>rw[q]at h;rw[show body (rep s)=_ from h];rfl
 |exc x s'=>rw[q]at h;rw[show body (rep s)=_ from h];rfl
 |_=>trivial
theorem jY{k:Nat}{ds:List D}{body:L4->SO}{c:Z->FlC Z X}{s:Z}(h:TJ rep eR body c)(a:ds.map some++List.replicate (k-ds.length) none=rep s):SimO rep eR (Mi.run k body ds) (cF none (c s)):=by
 have h:=h s;unfold Mi.run;rw[a];cases q:c s with
 |rt b s'=>rw[q]at h;rw[show body (rep s)=_ from h];rfl
 |exc x s'=>rw[q]at h;rw[show body (rep s)=_ from h];rfl
 |_=>trivial
theorem dZ{k:Nat}{ds:List D}{body:L4->SO}{c:Z->FlC Z X}{s:Z}(h:TJ rep eR body c)(a:ds.map some++List.replicate (k-ds.length) none=rep s):SimO rep eR (iN k body ds) (cF none (c s)):=by
 have h:=h s;unfold iN;rw[a];cases q:c s with
 |rt b s'=>rw[q]at h;rw[show body (rep s)=_ from h];rfl
 |exc x s'=>rw[q]at h;rw[show body (rep s)=_ from h];rfl
 |_=>trivial
end
section
variable{Z W X:Type}{rep:Z->L4}{eR:X->D}
theorem xp{e:W->D}{i:Nat}{g:Z->W}(h:∀s,rg (rep s) i=some (e (g s)):=by exact λ_=>rfl):EJ rep e (vr i) (pC g):=Ml h
theorem xv{e:W->D}{i:Nat}{g:Z->Option W}(h:∀s,rg (rep s) i=(g s).map e:=by exact λ_=>rfl):EJ rep e (vr i) (vC g):=Mf h
theorem xk{e:W->D}{d:D}{a:W}(h:e a=d:=by rfl):EJ rep e (aM d) (kC a):=sF h
theorem xs{e:W->D}{i:Nat}{m:L4->Out D}{c:Z->OutC Z W}{u:W->Z->Z}(h:NJ rep e m c)(b:∀a s,(rep s).set i (some (e a))=rep (u a s):=by exact λ_ _=>rfl):TJ rep eR (bW i m) (bU u c):=JA b h
end
section
variable{Z σ' W X O M τ:Type}
theorem lX{u:W->Z->Z}{c:Z->FlC Z X}(R:τ->Z->Prop)(step:τ->W->τ):∀(l:List W) (b:τ) (s:Z),R b s->
 (∀b a s,a∈l->R b s->∃s',(c (u a s)=.nx s'\/c (u a s)=.ct s')/\R (step b a) s')->∃s',oK u c l s=.nx s'/\R (l.foldl step b) s'
 |[],b,s,h,_=>⟨s,rfl,h⟩
 | a::l,b,s,h,st=>by
   obtain⟨s2,d,g⟩:=st b a s List.mem_cons_self h;obtain⟨s',e,h'⟩:=lX R step l (step b a) s2 g λb c s f=>st b c s (List.mem_cons_of_mem _ f);refine⟨s',?_,h'⟩;unfold oK;rcases d with d|d<;>(rw[d];exact e)
theorem uT{u:W->Z->Z}{c:Z->FlC Z X}(R:Z->Prop)(l:List W)(s:Z)(h:R s)(st:∀a s,a∈l->R s->∃s',(c (u a s)=.nx s'\/c (u a s)=.ct s')/\R s'):∃s',oK u c l s=.nx s'/\R s':=by
 obtain⟨s',e,h'⟩:=lX (τ:=Unit) (λ_ s=>R s) (λ_ _=>()) l () s h λ_ a s d b=>st a s d b;exact⟨s',e,h'⟩
theorem dH{u:W->Z->Z}{c:Z->FlC Z X}(R:List W->Z->Prop)(l:List W)(s:Z)(h:R [] s)(st:∀p a r s,l=p++a::r->R p s->∃s',(c (u a s)=.nx s'\/c (u a s)=.ct s')/\R (p++[a]) s'):∃s',oK u c l s=.nx s'/\R l s':=by
 have d:∀(r p:List W) (s:Z),l=p++r->R p s->∃s',oK u c r s=.nx s'/\R l s':=by
  intro r
  induction r with
  |nil=>intro p s e h;rw[Sk]at e;exact⟨s,rfl,by rw[e];exact h⟩
  |cons a r f=>
    intro p s e h;obtain⟨s2,b,g⟩:=st p a r s e h;obtain⟨s',i,h'⟩:=f (p++[a]) s2 (by rw[e];simp) g;refine⟨s',?_,h'⟩;unfold oK;rcases b with b|b<;>(rw[b];exact i)
 exact d l [] s rfl h
theorem xL{t:Z->OutC Z Bool}{c:Z->FlC Z X}(R:Nat->Z->Prop)(S:Z->Prop)(st:∀n s,R n s->(t s=.ok false s/\S s)\/(t s=.ok true s/\∃m s2,m<n/\(c s=.nx s2\/c s=.ct s2)/\R m s2)):
 ∀(fuel n:Nat) (s:Z),R n s->n<fuel->∃s',Jx t c fuel s=.nx s'/\S s'
 |0,n,s,h,d=>absurd d (Nat.not_lt_zero _)
 | fuel+1,n,s,h,d=>by
   unfold Jx;rcases st n s h with ⟨e,b⟩|⟨e,m,s2,i,a,f⟩
   ·rw[e];exact⟨s,rfl,b⟩
   ·rw[e];obtain⟨s',g,b⟩:=xL R S st fuel m s2 f (by omega);refine⟨s',?_,b⟩;dsimp only;rcases a with a|a<;>(rw[a];exact g)
theorem qZ{d:W->Res Bool}{te:W->Res X}(p:W->Bool)(g:W->X):∀l:List W,(∀a∈l,d a=.ok (p a))->(∀a∈l,p a=true->te a=.ok (g a))->iu d te l=.ok ((l.filter p).map g)
 |[],_,_=>rfl
 | a::l,h,f=>by
   have e:=qZ p g l (λb c=>h b (List.mem_cons_of_mem _ c)) λb c=>f b (List.mem_cons_of_mem _ c);unfold iu;rw[h a List.mem_cons_self];show(if p a=true then _ else _)=_;cases hp:p a with
   |true=>
     rw[RF rfl,f a RG hp,e,TK,RF hp];rfl
   |false=>rw[RE RQ,e,TK,RE (by rw[hp];exact RQ)]
theorem tG{src:Z->Res (List W)}{b:W×Z->Res Bool}{te:W×Z->Res X}{s:Z}{l:List W}(p:W->Bool)(g:W->X)(c:src s=.ok l)(d:l.length<aj)(f:∀a∈l,b (a,s)=.ok (p a))(e:∀a∈l,p a=true->te (a,s)=.ok (g a)):
 gW src b te s=.ok ((l.filter p).map g):=by
 unfold gW;rw[c];show(if l.length<aj then _ else _)=_;rw[if_pos d];exact qZ p g l f e
theorem pU{src:Z->Res (List W)}{te:W×Z->Res X}{s:Z}{l:List W}(g:W->X)(b:src s=.ok l)(c:l.length<aj)(e:∀a∈l,te (a,s)=.ok (g a)):
 gW src (λ_=>.ok true) te s=.ok (l.map g):=by
 rw[tG (λ_=>true) g b c (λ_ _=>rfl) λa d _=>e a d,List.filter_eq_self.mpr λ_ _=>rfl]
theorem tQ(xs:List W){i:Int}(h:0<=i):iK xs i=xs[i.toNat]?:=by
 unfold iK kU;rw[if_pos h];by_cases z:i<xs.length
 ·rw[RF z];rfl
 ·rw[RE z,R6 (by omega)];rfl
theorem lK(xs:List W):iK xs (-1)=xs.getLast?:=by
 unfold iK kU;rw[if_neg (by omega),List.getLast?_eq_getElem?];cases xs with
 |nil=>rfl
 |cons x r=>
   rw[RF (by simp only[RL];omega)];show(x::r)[(-1+((x::r).length:Int)).toNat]?=_;rw[show(-1+((x::r).length:Int)).toNat=(x::r).length-1 by omega]
theorem b9(lo hi:Int):(cM lo hi).length=(hi-lo).toNat:=by unfold cM;simp
theorem eZ{lo hi x:Int}:x∈cM lo hi↔lo<=x/\x<hi:=by
 unfold cM;rw[List.mem_map];constructor
 · rintro⟨i,a,rfl⟩
   have:=Uj.mp a
   omega
 ·rintro⟨c,b⟩;exact⟨(x-lo).toNat,Uj.mpr (by omega),by omega⟩
theorem xT{lo hi x:Int}{p r:List Int}(h:cM lo hi=p++x::r):x=lo+p.length/\lo<=x/\x<hi:=by
 have b:x∈cM lo hi:=by rw[h];simp
 have a:=eZ.mp b;have e:(cM lo hi)[p.length]?=some x:=by rw[h,Tx (RU _),Nat.sub_self];rfl
 unfold cM at e;rw[List.getElem?_map]at e
 have c:p.length<(hi-lo).toNat:=by
  have:=b9 lo hi
  rw[h,RK,RL]at this;omega
 rw[Ui c]at e;injection e with e
 exact⟨e.symm,a⟩
theorem wB(lo hi:Int):(cM lo hi).Nodup:=by
 unfold cM;unfold List.Nodup;rw[List.pairwise_map];refine List.Pairwise.imp ?_ (List.nodup_range (n:=(hi-lo).toNat));intro a b h z;exact h (by omega)
theorem uR{F:DI X}{k:List Int}{v:X}(h:F.get k=some v):(k,v)∈F:=by
 unfold DI.get at h;obtain⟨p,hp,rfl⟩:=Option.map_eq_some_iff.mp h
 have:=List.find?_some hp
 have e:p.1=k:=by simpa using this
 subst e;exact List.mem_of_find?_eq_some hp
theorem fG{P:List Int->Prop}{F:DI X}{k:List Int}{v:X}(h:∀p∈F,P p.1)(b:P k):∀p∈F.put k v,P p.1:=by
 intro p hp;unfold DI.put at hp;split at hp
 ·obtain⟨q,a,rfl⟩:=Sn.mp hp;split<;>exact h q a
 · rcases RW.mp hp with z|z
   ·exact h p z
   ·rw[RV.mp z];exact b
theorem gj{F:DI X}{k:List Int}{v:X}:(F.put k v).length<=F.length+1:=by
 unfold DI.put;split
 ·rw[RH];omega
 ·rw[RK];simp
def DI.nd(F:DI X):Prop:=(F.map (·.1)).Nodup
theorem hZ{F:DI X}{k:List Int}{v:X}(h:DI.nd F):DI.nd (F.put k v):=by
 unfold DI.nd DI.put at *;by_cases q:(F.get k).isSome=true
 · rw[RF q,Se]
   have:(F.map ((·.1)∘λp=>if p.1=k then (p.1,v) else p))=F.map (·.1):=SK λp _=>by
    show(if p.1=k then (p.1,v) else p).1=p.1;split<;>rfl
   rw[this];exact h
 · rw[RE q,Sm];refine Sz.mpr ⟨h,by simp,λa d b c=>?_⟩;have e:b=k:=by simpa using c
   subst e;rintro rfl;obtain⟨p,hp,e⟩:=List.mem_map.mp d;apply q;unfold DI.get;rw[Option.isSome_map,List.find?_isSome];exact⟨p,hp,by simpa using e⟩
theorem xg{F:DI X}(h:DI.nd F){k:List Int}{v:X}(a:(k,v)∈F):F.get k=some v:=by
 unfold DI.nd at h
 induction F with
 |nil=>cases a
 |cons p F b=>
   rw[List.map_cons,List.nodup_cons]at h;unfold DI.get;rw[List.find?_cons];by_cases e:p.1=k
   · rw[SX e];rcases RO.mp a with z|z
     ·rw[<-z];rfl
     ·exact absurd (Sn.mpr ⟨(k,v),z,e.symm⟩) h.1
   · rw[SC e];rcases RO.mp a with z|z
     ·exact absurd (by rw[<-z]) e
     ·exact b h.2 z
end
section
variable{Z W X O M:Type}{rep:Z->L4}{eR:X->D}
def eB(c:Nat):Z->FlC Z X:=λs=>.exc c s
theorem gI{c:Nat}:TJ rep eR (fk c) (eB c):=λs=>rfl
def Rk(free:Z->Bool):FlC Z X->FlC Z X
 |.nx s=>if free s=true then .nx s else .bad
 |_=>.bad
def A6(free:Z->Bool)(a:Nat->Bool)(b:Z->FlC Z X)(ch:Nat->Z->FlC Z X):Z->FlC Z X:=λs=>match b s with
 |.exc c s'=>if a c=true/\free s'=true then Rk free (ch c s') else .bad
 |.nx s'=>.nx s'
 |_=>.bad
theorem Jz{j:Option Nat}{a:Nat->Bool}{d:L4->SO}{e:Nat->L4->SO}{f:Z->FlC Z X}{ch:Nat->Z->FlC Z X}(l:TJ rep eR d f)(k:∀c,TJ rep eR (e c) (ch c)):
 TJ rep eR (A5 j a d e) (A6 (λs=>ft (rep s) j) a f ch):=λs=>by
 have h:=l s;unfold A5 A6;cases q:f s with
 |nx s'=>rw[q]at h;rw[show d (rep s)=_ from h];exact rfl
 |exc c s'=>
   rw[q]at h;rw[show d (rep s)=_ from h];refine SimS.ite ?_ trivial;have g:=k c s';cases i:ch c s' with
   |nx m=>rw[i]at g;rw[show e c (rep s')=_ from g];exact SimS.ite rfl trivial
   |rt b s'=>trivial
   |bk s'=>trivial
   |ct s'=>trivial
   |exc x s'=>trivial
   |bad=>trivial
 |rt b s'=>trivial
 |bk s'=>trivial
 |ct s'=>trivial
 |bad=>trivial
end
end Cl
namespace Gd
open PySem L2
theorem qm:bootBuiltins "ValueError" = some (.type "ValueError"):=by decide +kernel
end Gd
namespace L2
open PySem PySem.Spec PyProof.Rows
theorem t9{X:Cx}(K:F0)(h:X.K=K):Rv X (Gj K):=by subst h;exact F8
end L2
namespace Mi
open PySem L2
def EO:D->D->Res D
 |.lst xs,.int k=>if 0<=k then .ok (.lst (xs.drop k.toNat)) else .bad
 |.scr xs,.int k=>if 0<=k then .ok (.lst (xs.drop k.toNat)) else .bad
 |_,_=>.bad
theorem u5{k:Int}(h:0<=k)(xs:List V):u7 xs (some k) none=xs.drop k.toNat:=by
 unfold u7;have e:HT.tW xs.length 0 (some k)=min k.toNat xs.length:=by show(if k<0 then _ else _)=_;rw[if_neg (by omega)]
 rw[e,HT.uf];by_cases z:k.toNat<=xs.length
 ·rw[Nat.min_eq_left z,UM (by rw[List.length_drop];omega)]
 ·rw[Nat.min_eq_right (by omega),Nat.sub_self,U6,List.drop_eq_nil_of_le (by omega)]
section
variable{Y:Cm}{E:XK}{ms:List Md}{Kr:KT D V}{pr:Nat->Bool}
theorem K1{j tb:TE}{m l:L4->Res D}(r:PJ Y (KC Y .F) E ms j m)(q:PJ Y (KR Y .X) E ms tb l):PJ Y (KO Y (.ct .fz)) E ms (Q2 (Gj Y.K) j (Bh tb) rq) (bn EO m l):=by
 intro B U As Z H T Q R P;refine r.bnd R P λx v I U1 L O _ s A w M W=>q.bnd s W λy u o n i C _ R2 d t e c=>?_;have M:Cn Y I L x v:=M;have e:Dn Y i y u:=e;cases y with
 |int k=>
   rw[Dn]at e;subst e;refine⟨k,rfl,?_⟩;cases x with
   |lst ds=>
     obtain⟨a,xs,rfl,g,f⟩:=M;replace c:Po Y (KO Y (.ct .fz)) E ms o n As Z i T (if 0<=k then .ok (.lst (ds.drop k.toNat)) else .bad) Q:=c;by_cases z:0<=k
     ·rw[RF z]at c;refine⟨a,xs,rfl,SqL.of (d.h _ _ g),λp hp=>?_⟩;rw[u5 z];exact dX R2 c ((f.mono d.b).drop _) hp
     ·rw[RE z]at c;exact c.elim
   |scr ds=>
     obtain⟨a,xs,rfl,g,f⟩:=M;replace c:Po Y (KO Y (.ct .fz)) E ms o n As Z i T (if 0<=k then .ok (.lst (ds.drop k.toNat)) else .bad) Q:=c;by_cases z:0<=k
     ·rw[RF z]at c;refine⟨a,xs,rfl,(g.mono d.h).sq,λp hp=>?_⟩;rw[u5 z];exact dX R2 c ((f.mono d.b).drop _) hp
     ·rw[RE z]at c;exact c.elim
   |_=>exact c.elim
 |_=>cases x<;>exact c.elim
open Classical in
end
end Mi
namespace Cl
open PySem L2 Mi
section
variable{Z W X O M:Type}{rep:Z->L4}{eR:X->D}
@[simp] def EQ(xs:List W)(k:Int):Res (List W):=if 0<=k then .ok (xs.drop k.toNat) else .bad
theorem Ln{e:W->D}(xs:List W)(k:Int):SimR (eL e) (EO (eL e xs) (.int k)) (EQ xs k):=by
 show SimR (eL e) (if 0<=k then .ok (.lst ((xs.map e).drop k.toNat)) else .bad) (if 0<=k then .ok (xs.drop k.toNat) else .bad);rw[<-List.map_drop];exact SimR.ite rfl trivial
open Classical in
end
section
variable{Z σ' W X O M:Type}{rep:Z->L4}{Y:σ'->L4}
variable{α0 α1 α2 α3 α4 α5 α6 α7:Type}{e0:α0->D}{e1:α1->D}{e2:α2->D}{e3:α3->D}{e4:α4->D}{e5:α5->D}{e6:α6->D}{e7:α7->D}{m0 m1 m2 m3 m4 m5 m6 m7:L4->Res D}{c0:Z->Res α0}{c1:Z->Res α1}{c2:Z->Res α2}{c3:Z->Res α3}{c4:Z->Res α4}{c5:Z->Res α5}{c6:Z->Res α6}{c7:Z->Res α7}{eR:O->D}{fm:List D->Out D}{w:σ'->Z->Z}{plan:List Ap}{c:Nat}{mn:Str}
@[simp] def Pe(f:α0->α1->α2->α3->α4->α5->OutC σ' O)(w:σ'->Z->Z)(c0:Z->Res α0)(c1:Z->Res α1)(c2:Z->Res α2)(c3:Z->Res α3)(c4:Z->Res α4)(c5:Z->Res α5):Z->OutC Z O:=λs=>bndO (c0 s) s λg=>bndO (c1 s) s λe=>bndO (c2 s) s λd=>bndO (c3 s) s λc=>bndO (c4 s) s λb=>bndO (c5 s) s λa=>NB w s (f g e d c b a)
theorem Ls{f:α0->α1->α2->α3->α4->α5->OutC σ' O}(h:∀s' s,d7 plan 0 (Y s') (rep s)=rep (w s' s))(i:∀g e d c b a,SimO Y eR (fm [e0 g,e1 e,e2 d,e3 c,e4 b,e5 a]) (f g e d c b a))(h0:EJ rep e0 m0 c0)(n:EJ rep e1 m1 c1)(m:EJ rep e2 m2 c2)(l:EJ rep e3 m3 c3)(k:EJ rep e4 m4 c4)(j:EJ rep e5 m5 c5):NJ rep eR (mc plan fm (ax m0 (ax m1 (ax m2 (ax m3 (ax m4 (ax m5 a6))))))) (Pe f w c0 c1 c2 c3 c4 c5):=λs=>qA h0 λg=>qA n λe=>qA m λd=>qA l λc=>qA k λb=>qA j λa=>SimO.wb h (i g e d c b a) s
end
end Cl
namespace L2
open PySem PySem.Spec PyProof.Rows PySem.W
def BO{W:Type}(c:Nat->Nat->Bool):KasT W->W
 |.ret a=>a
 |.ask i j k=>BO c (k (c i j))
def KasIn{W:Type}(n:Nat)(R:W->Prop):KasT W->Prop
 |.ret a=>R a
 |.ask i j k=>i<n/\j<n/\∀b,KasIn n R (k b)
theorem KasIn.bind{W X:Type}{n:Nat}{R:W->Prop}{S:X->Prop}{f:W->KasT X}:∀{t:KasT W},KasIn n R t->(∀a,R a->KasIn n S (f a))->KasIn n S (t.bind f)
 |.ret a,h,c=>c a h
 |.ask i j k,h,c=>⟨h.1,h.2.1,λb=>KasIn.bind (h.2.2 b) c⟩
theorem KasIn.run{W:Type}{n:Nat}{R:W->Prop}{c:Nat->Nat->Bool}:∀{t:KasT W},KasIn n R t->R (BO c t)
 |.ret a,h=>h
 |.ask i j k,h=>KasIn.run (c:=c) (t:=k (c i j)) (h.2.2 (c i j))
theorem KasIn.wp{W:Type}{n:Nat}{R:W->Prop}{c:Nat->Nat->Bool}{b:Nat->Nat->(Bool->Shared->Prop)->Shared->Prop}{s:Shared}(d:∀i j C,i<n->j<n->C (c i j) s->b i j C s){Q:W->Shared->Prop}:∀{t:KasT W},KasIn n R t->Q (BO c t) s->t.kasWp b Q s
 |.ret a,_,q=>q
 |.ask i j k,h,q=>d i j _ h.1 h.2.1 (KasIn.wp d (h.2.2 (c i j)) q)
def Bd(n:Nat)(p:Array Nat):Prop:=p.size=n/\∀x∈p,x<n
theorem Bd.at{n:Nat}{p:Array Nat}(h:Bd n p)(a:0<n)(i:Nat):p.getD i 0<n:=by
 rw[Array.getD_eq_getD_getElem?];by_cases hi:i<p.size
 ·rw[SA hi];exact h.2 _ (Array.getElem_mem hi)
 ·rw[UL (by omega)];exact a
theorem Bd.of{n:Nat}{p q:Array Nat}(h:Bd n p)(e:q.Perm p)(z:q.size=p.size):Bd n q:=⟨z.trans h.1,λx a=>h.2 x (e.mem_iff.mp a)⟩
theorem Bd.rev{n:Nat}{p:Array Nat}(h:Bd n p)(i j:Nat):Bd n (kas_rev p i j):=h.of (mirror_perm _ _ _ _) (mirror_size _ _ _ _)
theorem Bd.bub{n:Nat}{p:Array Nat}(h:Bd n p)(i j:Nat):Bd n (bubble p i j):=h.of (bubble_perm _ _ _) (bubble_size _ _ _)
section
variable{n:Nat}(hn:0<n)
include hn
theorem xb{p:Array Nat}(h:Bd n p):∀f k,KasIn n (λ_=>True) (kas_asc p f k)
 |0,k=>trivial
 | f+1,k=>⟨h.at hn _,h.at hn _,λb=>by
   cases b with
   |true=>dsimp only;rw[if_pos rfl];trivial
   |false=>dsimp only;rw[if_neg Bool.false_ne_true];exact xb h f (k+1)⟩
theorem nn:∀f (p:Array Nat) k q,Bd n p->KasIn n (λr=>Bd n r.1) (kas_desc f p k q)
 |0,p,k,q,h=>h
 | f+1,p,k,q,h=>⟨h.at hn _,h.at hn _,λb=>by
   cases b with
   |true=>
     dsimp only;rw[if_pos rfl];by_cases z:q>0
     ·rw[RF z];exact nn f _ _ _ (h.rev _ _)
     ·rw[RE z];exact nn f _ _ _ h
   |false=>
     dsimp only;rw[if_neg Bool.false_ne_true];refine⟨h.at hn _,h.at hn _,λd=>?_⟩;cases d with
     |true=>dsimp only;rw[if_pos rfl];exact h
     |false=>dsimp only;rw[if_neg Bool.false_ne_true];exact nn f _ _ _ h⟩
theorem uP{p:Array Nat}(h:Bd n p)(a b:Nat):KasIn n (λr=>Bd n r.2) (kas_tail3 a b p):=(xb hn (h.rev 0 a) _ _).bind λm _=>h.rev 0 a
theorem mD{p:Array Nat}(h:Bd n p)(a b:Nat):KasIn n (λr=>Bd n r.2) (kas_descPart a b p):=(nn hn _ _ _ _ h).bind λr c=>by
 by_cases z:r.2.2>0
 ·rw[RF z];exact uP hn (c.rev _ _) _ _
 ·rw[RE z];exact uP hn c _ _
theorem Ev{p:Array Nat}(h:Bd n p)(b:Nat):KasIn n (λr=>Bd n r.2) (kas_count b p):=(xb hn h _ _).bind λm _=>by
 by_cases z:(m==b)=true
 ·rw[RF z];exact h
 · rw[RE z];by_cases y:m>1
   · rw[RF y];refine⟨h.at hn _,h.at hn _,λc=>?_⟩;cases c with
     |true=>dsimp only;rw[if_pos rfl];exact h
     |false=>dsimp only;rw[if_neg Bool.false_ne_true];exact mD hn (h.rev _ _) _ _
   ·rw[RE y];exact mD hn h _ _
theorem oE{p:Array Nat}(h:Bd n p)(k:Nat):∀f l r,KasIn n (λ_=>True) (kas_place p k f l r)
 |0,l,r=>trivial
 | f+1,l,r=>by
   unfold kas_place;by_cases z:l>=r
   ·rw[RF z];trivial
   · rw[RE z];refine⟨h.at hn _,h.at hn _,λc=>?_⟩;cases c with
     |true=>dsimp only;rw[if_pos rfl];exact oE h k f _ _
     |false=>dsimp only;rw[if_neg Bool.false_ne_true];exact oE h k f _ _
theorem Ew:∀f (p:Array Nat) k,Bd n p->KasIn n (Bd n) (kas_bin f p k)
 |0,p,k,h=>h
 |f+1,p,k,h=>(oE hn h k _ _ _).bind λl _=>Ew f _ _ (h.bub _ _)
theorem yC:KasIn n (Bd n) (kas_sort n):=by
 have h0:Bd n (List.toArray (List.range n)):=⟨by simp,λx b=>by simpa using b⟩;refine(Ev hn h0 n).bind λr a=>?_;by_cases z:r.1<n
 ·rw[RF z];exact Ew hn _ _ _ a
 ·rw[RE z];exact a
end
def bZ(a:List (List Int)):List Nat:=if a.length<2 then List.range a.length else (BO (λi j=>HT.iF (a.getD i []) (a.getD j [])) (kas_sort a.length)).toList
theorem iR(a:List (List Int)):(bZ a).length=a.length/\∀i∈bZ a,i<a.length:=by
 unfold bZ;by_cases h:a.length<2
 ·rw[RF h];exact⟨T1,λi hi=>Uj.mp hi⟩
 · rw[RE h]
   have:=(yC (n:=a.length) (by omega)).run (c:=λi j=>HT.iF (a.getD i []) (a.getD j []))
   exact⟨by rw[Ss];exact this.1,λi hi=>this.2 i (by simpa using hi)⟩
def pick{W:Type}(l:List W)(p:List Nat):List W:=p.filterMap λi=>l[i]?
theorem nO{W X:Type}(f:W->X)(l:List W)(p:List Nat):pick (l.map f) p=(pick l p).map f:=by
 unfold pick;rw[List.map_filterMap];congr 1;funext i;rw[List.getElem?_map]
def tT(h:Heap)(v:Value)(ks:List Int):Prop:=∃a o xs n,v=.ref a/\h.get? a=some o/\o.cls=.type "tuple" /\ o.data=.seq xs n/\IntsAre xs.toList ks
def IntTups(h:Heap):List Value->List (List Int)->Prop
 |[],[]=>True
 |v::vs,k::ks=>tT h v k/\IntTups h vs ks
 |_,_=>False
theorem IntTups.len{h:Heap}:∀{vs:List Value} {a:List (List Int)},IntTups h vs a->vs.length=a.length
 |[],[],_=>rfl
 |[],_::_,h=>h.elim
 |_::_,[],h=>h.elim
 |v::vs,k::ks,h=>by rw[RL,RL,h.2.len]
theorem IntTups.get{h:Heap}:∀{vs:List Value} {a:List (List Int)} {i:Nat},IntTups h vs a->i<a.length->tT h (vs.getD i .none) (a.getD i [])
 |[],[],_,_,hi=>by simp at hi
 |[],_::_,_,h,_=>h.elim
 |_::_,[],_,h,_=>h.elim
 |v::vs,k::ks,0,h,_=>h.1
 |v::vs,k::ks,i+1,h,hi=>IntTups.get (i:=i) h.2 (by simpa using hi)
theorem IntTups.mono{h h':Heap}:∀{vs:List Value} {c:List (List Int)},IntTups h vs c->(∀b o,h.get? b=some o->o.cls=.type "tuple" -> h'.get? b=some o)->IntTups h' vs c
 |[],[],_,_=>trivial
 |[],_::_,h,_=>h.elim
 |_::_,[],h,_=>h.elim
 |v::vs,k::ks,h,e=>⟨let ⟨a,o,xs,n,i,g,d,f⟩:=h.1;⟨a,o,xs,n,i,e _ _ g d,d,f⟩,h.2.mono e⟩
section
variable{prog:Program}{w:World}{A:Around}{E:L1}{s:Shared}
theorem D6{b:Bool}{Q:Bool->Shared->Prop}:∀{xs ys:List Value} {ks c:List Int} (i:Nat) (a:Bool),IntsAre xs ks->IntsAre ys c->Q (if (ks.zip c).all (λp=>p.1==p.2) then a else HT.iF ks c) s->KatLex prog w A b a Q (xs.zip ys) i s:=by
 intro xs ys ks c i a k
 induction k generalizing ys c i with
 |nil=>intro _ q;simpa [KatLex] using q
 |cons n t l h=>
   intro j;cases j with
   |nil=>intro q;simpa [KatLex] using q
   |cons m u d=>
     intro q;rw[Uq];refine kat_cons (wpAny_eqBool_int ?_);by_cases e:n=m
     ·subst e;rw[SW];refine kat_yes (h (i+1) d ?_);have f:=q;rw[Uq,Vg,SW,Bool.true_and,HT.jT,RF rfl]at f;exact f
     · rw[Sr.mpr e];refine kat_no ?_
       have g:Q (decide (n<m)) s:=by
        simpa [HT.jT,e] using q
       cases b&&i==0 with
       |true=>exact oneLt_int g
       |false=>exact kat_one _ _ (PyProof.Rows.lt_int g)
theorem yy:∀{ks a:List Int},(ks.zip a).all (λp=>p.1==p.2)=true->HT.iF ks a=decide (ks.length<a.length)
 |[],[],_=>rfl
 |[],_::_,_=>by rw[HT.ot];simp
 |_::_,[],_=>by rw[HT.ou];simp
 | k::ks,j::a,h=>by
   rw[Uq,Vg,Sj]at h;have e:k=j:=by simpa using h.1
   rw[HT.jT,RF e,yy h.2];simp
theorem LV{b:Bool}{Q:Bool->Shared->Prop}{x y:Value}{ks d:List Int}(h:tT s.heap x ks)(g:tT s.heap y d)(q:Q (HT.iF ks d) s):wpAny (model prog w) A (keyLt' (tuples' b) x y) Q E s:=by
 obtain⟨a,t,xs,n,rfl,j,_,r,f⟩:=h;obtain⟨c,oc,ys,m,rfl,i,_,o,e⟩:=g;refine kat_lt j r i o (D6 0 _ f e ?_);by_cases z:(ks.zip d).all (λp=>p.1==p.2)=true
 · rw[RF z];have l:xs.size=ks.length:=by rw[<-Ss];exact f.length
   have k:ys.size=d.length:=by rw[<-Ss];exact e.length
   rw[l,k,<-yy z];exact q
 ·rw[RE z];exact q
theorem Ep:∀{vs:List Value} {b:List (List Int)},IntTups s.heap vs b->(∀k∈b,k≠[])->∃fs:List Value,KatTups s.heap vs fs/\fs.length=b.length/\∀v∈fs,∃i t,v=Value.int i t
 |[],[],_,_=>⟨[],trivial,rfl,λ_ h=>(nomatch h)⟩
 |[],_::_,h,_=>h.elim
 |_::_,[],h,_=>h.elim
 | v::vs,k::ks,h,ne=>by
   obtain⟨fs,r,p,m⟩:=Ep h.2 λx d=>ne x (on _ d);obtain⟨a,o,xs,n,rfl,g,j,hd,hi⟩:=h.1;have c:=ne k RG;cases k with
   |nil=>exact absurd rfl c
   |cons z u=>
     generalize e:xs.toList=l at hi;cases hi with
     |cons _ t w=>
       refine⟨.int z t::fs,⟨⟨a,o,xs,n,rfl,g,j,hd,?_⟩,r⟩,by rw[RL,RL,p],λv f=>?_⟩
       ·rw[<-SV,e];rfl
       · rcases RO.mp f with q|q
         ·exact⟨z,t,q⟩
         ·exact m v q
theorem Bs{a:Addr}{vs:List Value}{d:List (List Int)}{n:Nat}{P:PySem.Fin->Shared->Prop}(I:s.heap.get? a=some (seqObj "list" vs.toArray n))(R:IntTups s.heap vs d)(ne:∀k∈d,k≠[])(h64:d.length<64)
 (h:∀h' c,(∀b o,b≠a->s.heap.get? b=some o->h'.get? b=some o)->h'.get? a=some (seqObj "list" (pick vs (bZ d)).toArray c)->P (.done (.ret .none)) {s with heap:=h'}):
 wpAny (model prog w) A (Builtin.«list.sort» ⟨[.ref a],[]⟩) P E s:=by
 have L:=R.len;have hlt:a<s.heap.objs.size:=RS I;have W:=TM s.heap a (Obj.mapSeq λ_=>(#[]:Array Value));obtain⟨N,H⟩:∃N,(s.heap.update a (Obj.mapSeq λ_=>(#[]:Array Value))).get? a=some (seqObj "list" #[] N):=⟨_,get?_update_seq I λ_=>#[]⟩;rw[list_sort_plain];refine no (listItems_at I rfl ?_);refine no (listUpdate_at I rfl ?_ (by rw[RT,T9];omega) (SR _));refine no (seqEpoch_at H rfl ?_);refine no (wpAny_newTuple ?_ (by show vs.length<=_;rw[T9];omega));refine no (wpAny_newList ?_ (SR _));refine Tt ?_;have keep:∀b o,b≠a->s.heap.get? b=some o->(((s.heap.update a (Obj.mapSeq λ_=>(#[]:Array Value))).push (seqObj "tuple" vs.toArray 0)).push (seqObj "list" #[] 0)).get? b=some o:=λb o y e=>RM _ (RM _ ((W.2 b y).trans e));have m:(((s.heap.update a (Obj.mapSeq λ_=>(#[]:Array Value))).push (seqObj "tuple" vs.toArray 0)).push (seqObj "list" #[] 0)).get? a=some (seqObj "list" #[] N):=RM _ (RM _ H);show wpAny (model prog w) A _ P E {s with heap:=((s.heap.update a (Obj.mapSeq λ_=>(#[]:Array Value))).push (seqObj "tuple" vs.toArray 0)).push (seqObj "list" #[] 0)};generalize ((s.heap.update a (Obj.mapSeq λ_=>(#[]:Array Value))).push (seqObj "tuple" vs.toArray 0)).push (seqObj "list" #[] 0)=g at keep m;have B:IntTups g vs d:=R.mono λb o e hc=>keep b o (λz=>by subst z;rw[I]at e;cases e;have M:Value.type "list" = Value.type "tuple" := hc;exact absurd M (by decide)) e
 have J:∀f:Array Value,f=(pick vs (bZ d)).toArray->f.size<=sizeLine+1->wpAny (model prog w) A (Builtin.List.listUpdate (.ref a) λ_=>f) (λ_ s2=>P (.done (.ret .none)) s2) E {s with heap:=g}:=λf e hz=>by
  refine listUpdate_at (s:={s with heap:=g}) m rfl ?_ (SR _) hz;have s2:=TM g a (Obj.mapSeq λ_=>f);obtain⟨O,Rg⟩:∃O,(g.update a (Obj.mapSeq λ_=>f)).get? a=some (seqObj "list" f O):=⟨_,get?_update_seq m λ_=>f⟩;exact h _ O (λb o y eb=>(s2.2 b y).trans (keep b o y eb)) (by rw[Rg,e])
 have F:(pick vs (bZ d)).toArray.size<=sizeLine+1:=by
  rw[RT]
  have:=UC (λi=>vs[i]?) (bZ d)
  have:=(iR d).1
  unfold pick;rw[sizeLine_eq];omega
 dsimp only;by_cases K:vs.length<2
 · have r:vs.toArray.size<2:=by rw[RT];exact K
   rw[if_pos r,if_pos r];refine wpAny_bind (wpAny_pure (wpAny_bind (wpAny_pure ?_)));dsimp only;refine wpAny_bind (seqEpoch_at (s:={s with heap:=g}) m rfl ?_)
   have D:(arrOf (SortSt.mk' general' (vs.toArray.zip vs.toArray) #[] 7 none)).map (·.2)=(pick vs (bZ d)).toArray:=by
    have e0:arrOf (SortSt.mk' general' (vs.toArray.zip vs.toArray) #[] 7 none)=vs.toArray.zip vs.toArray:=rfl
    have e2:pick vs (bZ d)=vs:=by
     unfold bZ pick;rw[if_pos (by omega),<-L]
     match vs,K with
     |[],_=>rfl
     |[x],_=>rfl
    rw[e0,e2]
    match vs,K with
    |[],_=>simp
    |[x],_=>simp
   refine no (S3 (J _ D (by rw[D];exact F)) (λ_ s2 q=>?_) λ_ _ e=>e);simp only[bne_self_eq_false,TU,Up];exact RP q
 · have r:¬ vs.toArray.size<2:=by rw[RT];exact K
   rw[RE r,RE r];obtain⟨fs,X,kl,Y⟩:=Ep (s:={s with heap:=g}) B ne;refine no (kat_kind (s:={s with heap:=g}) (T:=.type "int") X (by omega) (λv hv=>by obtain⟨i,t,rfl⟩:=Y v hv;exact .now) (by decide) ?_)
   refine no (S3 (kat_run (ks:=vs) (vs:=vs) (Q:=λu s'=>s'={s with heap:=g}/\(arrOf u).map (·.2)=(pick vs (bZ d)).toArray/\failedOf u=none)
    (G:=λp s'=>s'={s with heap:=g}/\p=BO (λi j=>HT.iF (d.getD i []) (d.getD j [])) (kas_sort vs.length)) rfl (by omega) (by omega) (λp u s' a1 a2 a3 V=>?_) ?_) ?_ λ_ _ e=>e)
   · refine⟨V.1,?_,a3⟩;rw[kat_snds rfl a2];congr 1
     have hp:p.toList=bZ d:=by
      unfold bZ;rw[if_neg (by omega),V.2,L]
     rw[hp];unfold pick;have y:=(iR d).2;generalize bZ d=l at y
     induction l with
     |nil=>rfl
     |cons i l Z=>
       have hi:i<vs.length:=by rw[L];exact y i RG
       rw[RJ,Z λj S=>y j (on _ S),List.filterMap_cons,R7 hi];simp[Sa,R7 hi]
   ·refine(yC (n:=vs.length) (by omega)).wp (c:=λi j=>HT.iF (d.getD i []) (d.getD j [])) (λi j C hi S q=>?_) ⟨rfl,rfl⟩;exact LV (s:={s with heap:=g}) (B.get (by omega)) (B.get (by omega)) q
   ·rintro⟨⟨⟩,u⟩ s' ⟨rfl,D,U⟩;dsimp only at D U ⊢;refine wpAny_bind (seqEpoch_at (s:={s with heap:=g}) m rfl ?_);refine wpAny_bind (wpAny_mono (J _ D (by rw[D];exact F)) (λ_ s2 q=>?_) λ_ _ e=>e);rw[U];simp only[bne_self_eq_false,Bool.false_eq_true,if_false];exact wpAny_pure q
end
section
variable{X:Cx}{K:F0}
def TupsI(H:Hp):List Addr->List (List Int)->Prop
 |[],[]=>True
 |a::b,k::ks=>H a=some (.tup (k.map V.int))/\TupsI H b ks
 |_,_=>False
theorem TupsI.len{H:Hp}:∀{b:List Addr} {a:List (List Int)},TupsI H b a->b.length=a.length
 |[],[],_=>rfl
 |[],_::_,h=>h.elim
 |_::_,[],h=>h.elim
 |v::vs,k::ks,h=>by rw[RL,RL,h.2.len]
theorem TupsI.raw{b:L0}{Z:St}{H:Hp}{s:Shared}(I:Inv X b Z H s):∀{d:List Addr} {c:List (List Int)},TupsI H d c->IntTups s.heap (d.map Value.ref) c
 |[],[],_=>trivial
 |[],_::_,h=>h.elim
 |_::_,[],h=>h.elim
 | a::d,k::ks,h=>by
   obtain⟨its,e,⟨o,f,g,n,hd⟩,i⟩:=I.tuple (a:=a) (xs:=k.map V.int) (.inl (.inl h.1));exact⟨⟨a,o,_,n,rfl,f,g,hd,by simpa using oB e⟩,h.2.raw I⟩
theorem zE(l:List Addr):Vals (l.map V.ref) (l.map Value.ref):=by
 induction l with
 |nil=>exact .nil
 |cons x t a=>exact .cons rfl a
theorem zO{prog:Program}{w:World}{A:Around}{E:L1}{s:Shared}{a:Addr}{vs:List Value}{d:List (List Int)}{n:Nat}{Q:L1}(f:s.heap.get? a=some (seqObj "list" vs.toArray n))(g:IntTups s.heap vs d)(ne:∀k∈d,k≠[])(e:d.length<64)
 (h:∀h' c,(∀b o,b≠a->s.heap.get? b=some o->h'.get? b=some o)->h'.get? a=some (seqObj "list" (pick vs (bZ d)).toArray c)->Q .none {s with heap:=h'}):wpAny (model prog w) A (call (.builtin "list.sort") [.ref a]) Q E s:=
 wpAny_call_entry slot_list_sort ⟨_,f,rfl⟩ entry_list_sort (Bs f g ne e λh' c k1 k2=>⟨_,rfl,h h' c k1 k2⟩) (args_list_sort _)
theorem zN{prog:Program}{w:World}{A:Around}{E:L1}{s:Shared}{v:Value}{vs:List Value}{a:List (List Int)}{Q:L1}
 (g:∀R:List Value->Shared->Prop,(∀h' f,(∀b o,s.heap.get? b=some o->h'.get? b=some o)->R vs {s with heap:=h',toks:=f})->wpAny (model prog w) A.in1 (collect v) R E s)
 (j:IntTups s.heap vs a) (ne:∀k∈a,k≠[]) (i:a.length<64)
 (h:∀(d:Heap) (f:Nat) (h':Heap) (c:Nat),(∀b o,s.heap.get? b=some o->d.get? b=some o)->(∀b o,d.get? b=some o->h'.get? b=some o)->h'.get? d.objs.size=some (seqObj "list" (pick vs (bZ a)).toArray c)->Q (.ref d.objs.size) {s with heap:=h',toks:=f}):
 wpAny (model prog w) A (call (.builtin "sorted") [v]) Q E s:=by
 have p:=j.len;refine Calls.call_function_entry kind_sorted plain_sorted entry_sorted (args_sorted1 _) ?_;unfold Builtin.«sorted»;refine wpAny_bind (m:=checkCount "sorted" 1 1 _) (wpAny_pure ?_);refine wpAny_bind (g _ λd f k1=>?_);refine wpAny_bind (wpAny_newList ?_ (by rw[sizeLine_eq];omega));have n:(d.push (seqObj "list" vs.toArray 0)).get? d.objs.size=some (seqObj "list" vs.toArray 0):=Heap.get?_push_size _ rfl;refine wpAny_bind (wpAny_holding (zO (s:={s with heap:=d.push (seqObj "list" vs.toArray 0),toks:=f}) n (j.mono λb o e _=>Heap.get?_push_of_some _ (k1 b o e)) ne i λh' c k3 l=>?_));exact wpAny_pure ⟨_,rfl,h d f h' c k1 (λb o e=>k3 b o (Nat.ne_of_lt (Heap.lt_size e)) (Heap.get?_push_of_some _ e)) l⟩
theorem zZ(a:List Addr)(p:List Nat):pick (a.map Value.ref) p=(pick a p).map Value.ref:=nO _ _ _
theorem z5{W:Type}(l:List W){p:List Nat}(h:∀i∈p,i<l.length):(pick l p).length=p.length:=by
 unfold pick
 induction p with
 |nil=>rfl
 |cons i p a=>
   rw[List.filterMap_cons,R7 (h i RG)];simp only[RL];rw[a λj b=>h j (on _ b)]
theorem xA(hc:X.calm=true):gy X (.builtin "sorted") (λxs H Q=>∃a g b,xs=[.ref a]/\Rd H a (.dT g)/\g.map (·.1)=b.map (λk=>k.map Sum.inl)/\(∀k∈b,k≠[])/\b.length<64/\
 ∀(O:List Addr) (l:Addr),TupsI H O b->H l=none->Q (.ref l) (upd H l (.lst ((pick O (bZ b)).map V.ref)))):=by
 intro n s Z H xs us Q I r h;obtain⟨a,g,b,rfl,ha,hk,ne,M,q⟩:=h;obtain⟨u,rfl,S⟩:=Vals.one r;have G:u=Value.ref a:=S;subst G;obtain⟨z,hd,ys,m,o,es,ep,ho,W,D,B,hnd⟩:=(show ObjOk X.prog X.w H s.heap a (.dT g) from ha.ok I.hok);have t:g.length=ys.length:=TQ m
 have j:es.size=ys.length:=by
  have e:=congrArg List.length B
  rwa [RH,Ss]at e
 have L:TupsI H (ys.map λy=>y.2.1) b:=by
  have K:∀{J:List (List bJ×V)} {l2:List (List bJ×Addr×Value)} {b:List (List Int)},Paired (λ(p:List bJ×V) (q:List bJ×Addr×Value)=>p.1=q.1/\H q.2.1=some (.tup (p.1.map kV))/\RelV p.2 q.2.2) J l2->J.map (·.1)=b.map (λk=>k.map Sum.inl)->TupsI H (l2.map λy=>y.2.1) b:=by
   intro J l2 b hp
   induction hp generalizing b with
   |nil=>intro e;cases b with|nil=>trivial|cons _ _=>cases e
   |cons F _ U=>
     intro e;cases b with
     |nil=>cases e
     |cons k ks=>
       rw[RJ,RJ]at e;injection e with e1 e2
       refine⟨?_,U e2⟩;rw[F.2.1,e1,Se];rfl
  exact K m hk
 have keys:∀d:Array Value,ItemsOf (λi v=>∃e,es[i]?=some e/\v=e.key) d es.size->d.toList=(ys.map λy=>y.2.1).map Value.ref:=λd f=>by
  apply Uv;intro i;rw[Sl,Sl];cases N:ys[i]? with
  |none=>
    have hi:ys.length<=i:=SI.mp N;rw[R6 (by rw[Ss,f.1];omega)];rfl
  |some y=>
    have hi:i<ys.length:=(R5.mp N).1;have x:i<d.size:=by rw[f.1,j];exact hi
    obtain⟨e,he,Y⟩:=f.2 i d[i] (SA x);have C:es.toList[i]?=some e:=by rw[SV];exact he
    rw[B,Sl,N]at C;have ee:entryOfKey (tupleKind (bz X.prog X.w)) y=e:=R9 C;rw[SV,SA x,Y,<-ee,qL];rfl
 have hh:X.A.in1.handled=none:=I.ok.hd hc;refine zN (vs:=(ys.map λy=>y.2.1).map Value.ref) (λR hR=>kdu_collect (yd (ep:=ep) (es:=es) hd) hh ⟨o,ho,W,D⟩ (by rw[j,<-t];exact z) λh' E d kp f=>?_) (L.raw I) ne M λF E h' c k1 k2 hS=>?_
 ·rw[keys d f];exact hR h' E kp
 · have T:=L.len;have P:Inv X n Z H {s with heap:=F,toks:=E}:=I.kept k1;refine⟨.ref F.objs.size,_,P.laid (t':=E) k2 (RU _) ?_,rfl,q _ _ L (P.hok.fresh (RU _))⟩;have hl:(pick (ys.map λy=>y.2.1) (bZ b)).length=b.length:=by rw[z5 _ λi hi=>by rw[T];exact(iR b).2 i hi];exact(iR b).1
   refine⟨by rw[RH,hl,T9];omega,(pick (ys.map λy=>y.2.1) (bZ b)).map Value.ref,c,zE _,?_⟩;rw[hS,zZ]
end
end L2
namespace Mi
open PySem L2
def fX:List D->Option (List (List Int))
 |[]=>some []
 |.tup ds::r=>(match cO ds,fX r with|some k,some ks=>some (k::ks)|_,_=>none)
 |_::_=>none
def qv:D->Res D
 |.lst ds=>(match fX ds with|some a=>(if (∀k∈a,k≠[])/\a.length<64 then .ok (.lst (pick ds (bZ a))) else .bad)|none=>.bad)
 |_=>.bad
def rA(x:D):Res D:=match x with
 |.dT ks _=>qv (.lst (ks.map λk=>.tup (k.map kD)))
 |_=>.bad
section
variable{Y:Cm}{E:XK}{ms:List Md}{K:F0}
theorem Dns.pick{G:Hp}{ds:List D}{xs:List V}(h:Dns Y G ds xs):∀p:List Nat,Dns Y G (L2.pick ds p) (L2.pick xs p)
 |[]=>by show Dns Y G [] [];rw[Dns]
 | i::p=>by
   have a:=Dns.pick h p;unfold L2.pick at a ⊢;rw[List.filterMap_cons,List.filterMap_cons];cases e:ds[i]? with
   |none=>
     have:xs[i]?=none:=R6 (by rw[<-h.len];exact SI.mp e)
     rw[this];exact a
   |some d=>
     obtain⟨x,ex,b⟩:=h.get e;rw[ex];dsimp only;rw[Dns];exact⟨x,_,rfl,b,a⟩
theorem uL{ks:List (List bJ)}{a:List (List Int)}(e:fX (ks.map λk=>.tup (k.map kD))=some a):ks=a.map λk=>k.map Sum.inl:=by
 have c:∀{k:List bJ} {ns:List Int},cO (k.map kD)=some ns->k=ns.map Sum.inl:=by
  intro k
  induction k with
  |nil=>intro ns e;cases e;rfl
  |cons x k d=>
    intro ns e;cases x with
    |inl i=>
      rw[RJ]at e;have e:(cO (k.map kD)).map (i::·)=some ns:=e;obtain⟨ms,b,rfl⟩:=Sd.mp e;rw[d b];rfl
    |inr i=>cases e
 induction ks generalizing a with
 |nil=>cases e;rfl
 |cons k ks d=>
   rw[RJ,fX]at e;cases b:cO (k.map kD) with
   |none=>rw[b]at e;cases e
   |some n=>
     cases f:fX (ks.map λk=>.tup (k.map kD)) with
     |none=>rw[b,f]at e;cases e
     |some ns=>
       rw[b,f]at e;cases e;rw[c b,d f];rfl
theorem qY{G:Hp}:∀{c:List Addr} {b:List (List Int)},TupsI G c b->Dns Y G (b.map λk=>.tup (k.map D.int)) (c.map V.ref)
 |[],[],_=>by rw[SM,SM,Dns]
 |[],_::_,h=>h.elim
 |_::_,[],h=>h.elim
 | a::c,k::ks,h=>by
   rw[RJ,RJ,Dns];refine⟨_,_,rfl,?_,qY h.2⟩;rw[Dn];exact⟨a,_,rfl,h.1,lZ k⟩
theorem Gr{k:Kd}{y:TE}{A:L4->Res D}(r:PJ Y (KC Y k) E ms y A):PJ Y (KO Y (.ct .fz)) E ms
 (FG (λxs H Q=>∃a g d,xs=[.ref a]/\Rd H a (.dT g)/\g.map (·.1)=d.map (λk=>k.map Sum.inl)/\(∀k∈d,k≠[])/\d.length<64/\
 ∀(J:List Addr) (l:Addr),TupsI H J d->H l=none->Q (.ref l) (upd H l (.lst ((L2.pick J (bZ d)).map V.ref)))) (bS y dE)) (un rA A):=by
 intro B U As Z H T Q R P;refine r.bnd R P λx v I U1 L O _ j e1 n1 M W=>?_;cases x with
 |dT ks ds=>
   obtain⟨a,g,rfl,S,N,h3⟩:=M;replace W:Po Y (KO Y (.ct .fz)) E ms I U1 As Z L T (match fX (ks.map λk=>.tup (k.map kD)) with|some d=>(if (∀k∈d,k≠[])/\d.length<64 then .ok (.lst (L2.pick (ks.map λk=>.tup (k.map kD)) (bZ d))) else .bad)|none=>.bad) Q:=W;cases e:fX (ks.map λk=>.tup (k.map kD)) with
   |none=>rw[e]at W;exact W.elim
   |some d=>
     rw[e]at W;dsimp only at W;by_cases z:(∀k∈d,k≠[])/\d.length<64
     · rw[RF z]at W;have G:=uL e;refine⟨a,g,d,rfl,S,by rw[N,G],z.1,z.2,λbs l C K=>?_⟩
       have f:∀b∈bs,∃o,L b=some o/\dY o:=by
        have m:∀{bs:List Addr} {d:List (List Int)},TupsI L bs d->∀b∈bs,∃o,L b=some o/\dY o:=by
         intro bs
         induction bs with
         |nil=>intro _ _ b p;cases p
         |cons c bs s=>
           intro d t b p;cases d with
           |nil=>exact t.elim
           |cons k ks=>
             rcases RO.mp p with q|q
             ·rw[q];exact⟨_,t.1,_,rfl⟩
             ·exact s t.2 b q
        exact m C
       have R2:Rel Y ms (Mi.frz I L bs) (Mi.frz U1 L bs) As Z L T:=j.grow (cr j.bh) (cr j.uh) (Same.refl _) (oI j.bu) (sy j.uh) λi a r=>by
        unfold Mi.frz;split
        ·rename_i z;obtain⟨o,e,t⟩:=f a z;exact(j.nt r e t).elim
        ·exact j.un i a r
       have X:Gw I U1 L (Mi.frz I L bs) (Mi.frz U1 L bs) L:=by
        refine⟨⟨cr j.bh,cr j.uh,λa o q=>?_⟩,Same.refl _,λa o q=>?_⟩
        · unfold Mi.frz at q;split at q
          ·rename_i z;obtain⟨o',e,t⟩:=f a z;rw[e]at q;cases q;exact .inr (.inr t)
          ·exact .inl q
        · unfold Mi.frz at q;split at q
          ·rename_i z;obtain⟨o',e,t⟩:=f a z;rw[e]at q;cases q;exact .inr (.inr t)
          ·exact .inl q
       have u:TupsI (Mi.frz I L bs) bs d:=by
        have m:∀{n:List Addr} {d:List (List Int)},(∀b∈n,b∈bs)->TupsI L n d->TupsI (Mi.frz I L bs) n d:=by
         intro n
         induction n with
         |nil=>intro d _ t;cases d with|nil=>trivial|cons _ _=>exact t.elim
         |cons c n s=>
           intro d F t;cases d with
           |nil=>exact t.elim
           |cons k ks=>exact⟨by unfold Mi.frz;rw[if_pos (F c List.mem_cons_self)];exact t.1,s (λb p=>F b (List.mem_cons_of_mem _ p)) t.2⟩
        exact m (λ_ h=>h) C
       have w:(ks.map λk=>D.tup (k.map kD))=d.map λk=>.tup (k.map D.int):=by
        rw[G,Se];refine SK λk _=>?_;show D.tup ((k.map Sum.inl).map kD)=_;rw[Se];rfl
       rw[w]at W;have P2:Po Y (KO Y (.ct .fz)) E ms (Mi.frz I L bs) (Mi.frz U1 L bs) As Z L T (.ok (.lst (L2.pick (d.map λk=>.tup (k.map D.int)) (bZ d)))) Q:=Po.at W X;rw[<-nO];exact dX R2 P2 ((qY u).pick _) K
     ·rw[RE z]at W;exact W.elim
 |_=>exact W.elim
end
end Mi
namespace Cl
open PySem L2 Mi
section
variable{Z σ' W X O M:Type}{rep:Z->L4}{Y:σ'->L4}
theorem lW:∀l:List (List Int),fX (l.map (lY D.int))=some l
 |[]=>rfl
 | k::l=>by
   rw[RJ];show(match cO (k.map D.int),fX (l.map (lY D.int)) with|some k,some ks=>some (k::ks)|_,_=>none)=_;rw[fY,lW l]
def t8(l:List (List Int)):Res (List (List Int)):=if (∀k∈l,k≠[])/\l.length<64 then .ok (pick l (bZ l)) else .bad
theorem Gx(l:List (List Int)):SimR (eL (lY D.int)) (qv (eL (lY D.int) l)) (t8 l):=by
 show SimR _ (match fX (l.map (lY D.int)) with|some a=>(if (∀k∈a,k≠[])/\a.length<64 then Res.ok (D.lst (pick (l.map (lY D.int)) (bZ a))) else .bad)|none=>.bad) _;rw[lW];unfold t8;dsimp only;by_cases h:(∀k∈l,k≠[])/\l.length<64
 ·rw[RF h,RF h];show Res.ok (D.lst (pick (l.map (lY D.int)) (bZ l)))=Res.ok (D.lst ((pick l (bZ l)).map (lY D.int)));rw[nO]
 ·rw[RE h,RE h];trivial
def v9(F:DI X):Res (List (List Int)):=t8 (F.map (·.1))
theorem Gy{e:X->D}(F:DI X):SimR (eL (lY D.int)) (rA (bR e F)) (v9 F):=by
 have:rA (bR e F)=qv (eL (lY D.int) (F.map (·.1))):=by
  show qv (.lst ((F.map λp=>p.1.map (Sum.inl:Int->bJ)).map λk=>.tup (k.map kD)))=qv (.lst ((F.map (·.1)).map (lY D.int)));rw[Se,Se];refine congrArg (λz=>qv (D.lst z)) (SK λp _=>?_);show D.tup ((p.1.map (Sum.inl:Int->bJ)).map kD)=D.tup (p.1.map D.int);rw[Se];rfl
 rw[this];exact Gx _
@[simp] def pI(g:Z->Option (List W))(p:Z->List W->Z)(k:Z->Option Int):Z->W->Z:=λs y=>match g s,k s with
 |some l,some k=>p s (l.set k.toNat y)
 |_,_=>s
end
end Cl
namespace L2
open PySem PySem.Spec PyProof.Rows
section
variable{prog:Program}{w:World}{A:Around}{E:L1}{s:Shared}
def tS(h:Heap)(es:Array DictEntry):Prop:=∀e∈es,∃b o,e.key=.ref b/\h.get? b=some o/\o.cls=.type "tuple"
theorem zV{b:Addr}{o:Obj}{Q:Bool->Shared->Prop}(a:s.heap.get? b=some o)(c:o.cls=.type "tuple")(h:Q false s):wpAny (model prog w) A (Builtin.Dict.quietEq (.ref b)) Q E s:=by
 unfold Builtin.Dict.quietEq;dsimp only;refine wpAny_bind (wpAny_specialOf (T := "tuple") ⟨o,a,c⟩ PySem.F.slot_tuple_eq.lookup ?_);exact wpAny_pure h
theorem EK{id:String}{d:Addr}{o:Obj}{es:Array DictEntry}{ep:Nat}{Q:Array DictEntry->Shared->Prop}(i:s.heap.get? d=some o)(hd:o.data=.dict es ep)(j:tS s.heap es)(k:∀e∈es,¬ (es.filter (·.hash==e.hash)).size>1)(h:Q es s):
 wpAny (model prog w) A (Builtin.Dict.entriesForEmpty id d) Q E s:=by
 unfold Builtin.Dict.entriesForEmpty;refine wpAny_bind (wpAny_dictEntries i hd ?_);refine wpAny_bind ?_;rw[<-Array.forIn_toList]
 have a:∀l:List DictEntry,(∀e∈l,e∈es)->wpAny (model prog w) A (forIn l PUnit.unit λe (_:PUnit)=>(do
  let q <-Builtin.Dict.quietEq e.key
  if (!q)=true then
   if (es.filter (·.hash==e.hash)).size>1 then (do let _ <-(unsupported s!"{id}:keys-of-equal-hash" : Sem PUnit);pure (ForInStep.yield PUnit.unit)) else pure (ForInStep.yield PUnit.unit)
  else pure (ForInStep.yield PUnit.unit):Sem (ForInStep PUnit))) (λ_ s'=>s'=s) E s:=by
  intro l
  induction l with
  |nil=>intro _;exact RP rfl
  |cons e l f=>
    intro c;rw[List.forIn_cons];obtain⟨b,ob,r,p,n⟩:=j e (c e RG);refine no (no ?_);rw[r];refine zV p n ?_;simp only[Bool.not_false,U8];rw[RE (k e (c e RG))];exact RP (f λx g=>c x (on _ g))
 refine S3 (a es.toList λe m=>Ua.mp m) (λ_ s' e=>?_) λ_ _ e=>e;subst e;exact RP h
theorem Du{nm:String}{d o:Addr}{l:Obj}{k:Nat}{es:Array DictEntry}{ep:Nat}{Q:Unit->Shared->Prop}(i:d≠o)(g:(o==sysModules)=false)(hd:s.heap.get? d=some l)(f:l.data=.dict #[] k)(n:RawD s.heap o es ep)
 (m:tS s.heap es) (p:∀e∈es,¬ (es.filter (·.hash==e.hash)).size>1) (v:es.size<=sizeLine) (h0:es=#[]->Q () s) (r:Q () {s with heap:=s.heap.update d (Obj.mapDictKeys λ_=>es)}):
 wpAny (model prog w) A (Builtin.Dict.mergeDict nm d o) Q E s:=by
 obtain⟨u,a,x,c⟩:=id n;unfold Builtin.Dict.mergeDict;rw[if_neg (by simpa using i)];unfold Builtin.Dict.showsAll;rw[if_neg (by rw[g];exact Bool.false_ne_true)];refine wpAny_bind (wpAny_pure ?_);refine wpAny_bind (wpAny_dictEntries a c ?_);dsimp only;by_cases j:es=#[]
 · subst j;have few:(!(decide ((#[]:Array DictEntry).size<=8)&&(#[]:Array DictEntry).all λe=>(keyPart e.key).isSome))=false:=by simp
   rw[few,RE RQ];refine no (UP a c ?_);refine no (T2 a c ?_);refine no ?_;rw[Std.Legacy.Range.forIn_eq_forIn_range'];simp only[Std.Legacy.Range.size,Nat.sub_zero,Nat.add_sub_cancel,Nat.div_one,Array.size_empty,List.range'_zero,List.forIn_nil];exact RP (RP (h0 rfl))
 · have hsz:0<es.size:=by
    by_cases z:0<es.size
    ·exact z
    ·exact absurd (Array.eq_empty_of_size_eq_zero (by omega)) j
   have few:(!(decide (es.size<=8)&&es.all λe=>(keyPart e.key).isSome))=true:=by
    obtain⟨b,ob,t,_⟩:=m es[0] (Array.getElem_mem hsz)
    have:(es.all λe=>(keyPart e.key).isSome)=false:=by
     cases q:es.all λe=>(keyPart e.key).isSome with
     |false=>rfl
     |true=>
       have:=Array.all_eq_true.mp q 0 hsz
       rw[t]at this;cases this
    rw[this,Bool.and_false];rfl
   rw[few,RF rfl];refine no (T2 hd f ?_);rw[RF (by rfl)];refine no (EK a c m p ?_);have h:(!es.isEmpty)=true:=by simp[j]
   rw[RF h];exact no (wpAny_updateDictKeysTo hd f (RP r) (by omega))
end
def cW(k:List Int):Int:=reduceHash (Builtin.Tuple.tupleHashOf (k.map hashInt))
theorem Au{P:Program}{w:World}(k:List Int):(tupleKind (bz P w)).hash (k.map Sum.inl)=cW k:=by
 show reduceHash (Builtin.Tuple.tupleHashOf ((k.map Sum.inl).map (Pq w)))=_;rw[Se];rfl
theorem xh{es:Array DictEntry}(h:(es.toList.map (·.hash)).Nodup):∀e∈es,¬ (es.filter (·.hash==e.hash)).size>1:=λe g=>by
 rw[<-Ss,Array.toList_filter]
 have a:∀{l:List DictEntry},(l.map (·.hash)).Nodup->(l.filter (·.hash==e.hash)).length<=1:=by
  intro l
  induction l with
  |nil=>intro _;simp
  |cons x l b=>
    intro nd;rw[RJ,RZ]at nd;rw[TK];by_cases z:(x.hash==e.hash)=true
    · rw[RF z]
      have:l.filter (·.hash==e.hash)=[]:=List.filter_eq_nil_iff.mpr λy c q=>by
       have f:x.hash=e.hash:=by simpa using z
       have d:y.hash=e.hash:=by simpa using q
       exact nd.1 (Sn.mpr ⟨y,c,by rw[f,d]⟩)
      rw[this];simp
    ·rw[RE z];exact b nd.2
 have:=a h
 omega
section
variable{X:Cx}
def Oi:V->List V->Hp->VK->Prop:=λx vs H Q=>∃(d b:Addr) (a:List (List bJ×V)) (c:List (List Int)),x=.ref d/\vs=[.ref b]/\H d=some (.dT [])/\Rd H b (.dT a)/\d≠b/\a.map (·.1)=c.map (λk=>k.map Sum.inl)/\(c.map cW).Nodup/\Q .non (upd H d (.dT a))
theorem jk:Rw X "dict.update" Oi:=by
 intro pins s Z H x vs v us Q I rx rv h;obtain⟨d,b,c,G,rfl,rfl,hd,hb,T,Y,hh,q⟩:=h;cases rx;obtain⟨u,rfl,ru⟩:=rv.one;cases ru;obtain⟨_,R,P,E,od,O,epd,f,A,l,M,_⟩:=(show ObjOk X.prog X.w H s.heap d (.dT []) from I.hok d _ hd);obtain⟨z,S,ys,i,ob,es,ep,L,K,hdb,j,U⟩:=(show ObjOk X.prog X.w H s.heap b (.dT c) from hb.ok I.hok);have l0:P=[]:=by cases E;rfl
 subst l0
 have e0:O=#[]:=by
  have:O.toList=[]:=M
  exact Array.toList_inj.mp this
 subst e0;have n:c.length=ys.length:=TQ i
 have m:es.size=ys.length:=by
  have e:=congrArg List.length j
  rwa [RH,Ss]at e
 have tk:tS s.heap es:=λe he=>by
  have N:e∈es.toList:=Ua.mpr he;rw[j]at N;obtain⟨y,t,rfl⟩:=Sn.mp N
  have r:∀{g:List (List bJ×V)} {l2:List (List bJ×Addr×Value)},Paired (λ(p:List bJ×V) (q:List bJ×Addr×Value)=>p.1=q.1/\H q.2.1=some (.tup (p.1.map kV))/\RelV p.2 q.2.2) g l2->∀y∈l2,∃k:List bJ,H y.2.1=some (.tup (k.map kV)):=by
   intro g l2 h
   induction h with
   |nil=>intro y t;cases t
   |cons h _ J=>
     intro y t;rcases RO.mp t with e|e
     ·subst e;exact⟨_,h.2.1⟩
     ·exact J y e
  obtain⟨k,Y⟩:=r i y t;obtain⟨its,_,⟨o,ho,hc,_⟩,_⟩:=I.tuple (a:=y.2.1) (xs:=k.map kV) (.inl (.inl Y));exact⟨y.2.1,o,rfl,ho,hc⟩
 have W:∀{g:List (List bJ×V)} {l2:List (List bJ×Addr×Value)},Paired (λ(p:List bJ×V) (q:List bJ×Addr×Value)=>p.1=q.1/\H q.2.1=some (.tup (p.1.map kV))/\RelV p.2 q.2.2) g l2->g.map (·.1)=l2.map (·.1):=by
  intro g l2 h
  induction h with
  |nil=>rfl
  |cons h _ J=>rw[RJ,RJ,h.1,J]
 have B:(es.toList.map (·.hash)).Nodup:=by
  rw[j,Se]
  have e1:(ys.map ((·.hash)∘entryOfKey (tupleKind (bz X.prog X.w))))=G.map cW:=by
   have e2:ys.map (·.1)=G.map λk=>k.map Sum.inl:=by rw[<-W i];exact Y
   have e3:ys.map ((·.hash)∘entryOfKey (tupleKind (bz X.prog X.w)))=(ys.map (·.1)).map (tupleKind (bz X.prog X.w)).hash:=by rw[Se];rfl
   rw[e3,e2,Se];exact SK λk _=>Au k
  rw[e1];exact hh
 refine wpAny_call_entry PySem.F.slot_dict_update ⟨od,f,A.1⟩ PySem.F.entry_dict_update ?_ (PySem.F.args_dict_update_2 _ _);have hTd:s.TypeIs (.ref d) "dict" := ⟨od,f,A.1⟩;have C:s.TypeIs (.ref b) "dict" := ⟨ob,L,K.1⟩;unfold Builtin.«dict.update»;refine wpAny_bind ?_;unfold Builtin.Dict.selfAndRest;refine wpAny_bind (wpAny_notOrdered_dict hTd ?_);show wpAny _ _ (pure (d,[Value.ref b])) _ _ s;refine wpAny_pure ?_;show wpAny _ _ (Builtin.Dict.updateFrom "dict.update" d (.ref b) [] .none) _ _ s;unfold Builtin.Dict.updateFrom;refine wpAny_bind (wpAny_typeOf C ?_);rw[if_neg (by decide)];refine wpAny_bind ?_;unfold Builtin.Dict.merge;refine wpAny_bind ?_;unfold Builtin.Dict.readDirectly;refine wpAny_bind (wpAny_isInstance C isSubtype_dict_dict ?_);simp only[Bool.not_true,Bool.false_eq_true,if_false];refine wpAny_bind (wpAny_specialOf C PySem.F.slot_dict_iter.lookup (wpAny_pure ?_));simp only[beq_self_eq_true,if_true];refine wpAny_bind (wpAny_pure ?_)
 have D:Paired (λ(p:List bJ×V) (q:List bJ×Addr×Value)=>p.1=q.1/\upd H d (.dT c) q.2.1=some (.tup (p.1.map kV))/\RelV p.2 q.2.2) c ys:=by
  have r:∀{g:List (List bJ×V)} {l2:List (List bJ×Addr×Value)},Paired (λ(p:List bJ×V) (q:List bJ×Addr×Value)=>p.1=q.1/\H q.2.1=some (.tup (p.1.map kV))/\RelV p.2 q.2.2) g l2->
   Paired (λ(p:List bJ×V) (q:List bJ×Addr×Value)=>p.1=q.1/\upd H d (.dT c) q.2.1=some (.tup (p.1.map kV))/\RelV p.2 q.2.2) g l2:=by
   intro g l2 h
   induction h with
   |nil=>exact .nil
   |cons h _ J=>exact .cons ⟨h.1,by rw[aS (λz=>by have:=h.2.1;rw[z,hd]at this;cases this)];exact h.2.1,h.2.2⟩ J
  exact r i
 refine Du T S f l ⟨ob,L,K,hdb⟩ tk (xh B) (by rw[m,<-n];exact z) (λez=>?_) ?_
 · show wpAny _ _ (Builtin.Dict.addKeywords d [] >>= _) _ _ _;have ey:c=[]:=SG.mp (by rw[n,<-m,ez];rfl);refine no (RP (RP ⟨.none,rfl,.non,H,I,rfl,?_⟩))
   have:upd H d (.dT c)=H:=by
    funext y;by_cases zy:y=d
    ·subst zy;rw[aY,ey,hd]
    ·exact aS zy
   rw[this]at q;exact q
 · show wpAny _ _ (Builtin.Dict.addKeywords d [] >>= _) _ _ _;refine no (RP (RP ⟨.none,rfl,.non,_,I.write (x:=d) (e:=d) (o:=.dT c) (t':=s.toks) (by rw[hd];trivial) (.inl rfl) (λy u t e=>?_) ⟨_,SU _ f (Obj.isFreed_of_dict (Ud l _))⟩ ?_,rfl,q⟩))
   ·exact(Si _ _ (Th t)).trans e
   ·exact⟨z,R,ys,D,_,es,epd+1,SU _ f (Obj.isFreed_of_dict (Ud l _)),A.mapDictKeys _,Ud l _,j,U⟩
end
end L2
namespace Mi
open PySem L2
section
variable{Y:Cm}{E:XK}{ms:List Md}{K:F0}{B U H:Hp}{As:Nat->List Addr}{Z:St}{T:L4}{t:TE}{get:L4->Option D}{set:L4->D->L4}
def FL(set:L4->D->L4)(T:L4):D->Out D
 |.dT ks vs=>(match fX (ks.map λk=>.tup (k.map kD)) with|some a=>(if (a.map cW).Nodup/\vs.all bD=true then .ok .non (set T (.dT ks vs)) else .bad)|none=>.bad)
 |_=>.bad
def t3(get:L4->Option D)(set:L4->D->L4)(a:L4->Res D):L4->Out D:=λT=>match get T with
 |some (.dT [] _)=>((a T).up T).bind λd T=>FL set T d
 |_=>.bad
theorem kR{te:TE}{n:L4->Res D}(p:Pth Y ms t get set)(he:PJ Y (KR Y .U) E ms te n):MJ Y (KR Y .F) E ms (HF K "dict" Oi t (bS te dE)) (t3 get set n):=by
 intro B U As Z H T Q R P;unfold t3 at P;cases e:get T with
 |none=>rw[e]at P;exact P.elim
 |some d=>
   obtain⟨v,A,X,W,hA,cl⟩:=p.rd R e;cases d with
   |dT ks vs=>
     cases ks with
     |cons _ _=>rw[e]at P;exact P.elim
     |nil=>
       rw[e]at P;replace P:Mo Y (KR Y .F) E ms B U Z (((n T).up T).bind λd T=>FL set T d) Q:=P;obtain⟨a,s,rfl,S,h2,rfl,h3⟩:=W.dT rfl;have C:s=[]:=List.map_eq_nil_iff.mp h2;subst C;refine X _ ⟨.inr (.inr (.inl ⟨rfl,.inr ⟨_,S⟩⟩)),he B U As Z H T _ R ?_⟩;cases M:n T with
       |exc c=>rw[M]at P;exact λI U1 L m j=>P I U1 As L m j.toEx
       |bad=>rw[M]at P;exact P.elim
       |ok x=>
         rw[M]at P;intro u I U1 L N m j n1 r;have r:Dn Y U1 x u:=r;replace P:Mo Y (KR Y .F) E ms B U Z (FL set T x) Q:=P;cases x with
         |dT ks ds=>
           replace P:Mo Y (KR Y .F) E ms B U Z (match fX (ks.map λk=>.tup (k.map kD)) with|some f=>(if (f.map cW).Nodup/\ds.all bD=true then .ok .non (set T (.dT ks ds)) else .bad)|none=>.bad) Q:=P;cases O:fX (ks.map λk=>.tup (k.map kD)) with
           |none=>rw[O]at P;exact P.elim
           |some f=>
             rw[O]at P;dsimp only at P;by_cases z:(f.map cW).Nodup/\ds.all bD=true
             · rw[RF z]at P;rw[Dn]at r;obtain⟨b,w,rfl,g,l,G⟩:=r;have ek:=uL O;obtain⟨i,J⟩:=hA a RG;have V:=m.un i a J
               have y:a≠b:=λq=>by
                subst q;rcases g with g|⟨o,g⟩<;>(rw[V]at g;cases g)
               refine⟨a,b,w,f,rfl,rfl,j.h _ _ S,nc m.uh g,y,by rw[l,ek],z.1,?_⟩;refine P .non I U1 As _ [] (cl I U1 L m j.b j.h a RG _ _ ?_) j.toEx NewM.nil (by show Dn Y I .non .non;rw[Dn]);rw[<-l];exact Ow.dT' aY (cT z.2 G)
             ·rw[RE z]at P;exact P.elim
         |_=>exact P.elim
   |_=>rw[e]at P;exact P.elim
end
section
variable{Y:Cm}{E:XK}{Kr:KT D V}{pr:Nat->Bool}{ms:List Md}{K:F0}{B U H:Hp}{As:Nat->List Addr}{Z:St}{T:L4}
theorem CM{s:Sh}{wi:TI}{ix:List Nat}{ti:TT}{te:TE}{src:L4->Res (List D)}{mi:L4->Res Bool}{me:L4->Res D}(hs:PJ Y (KI Y .F .X) E ms wi src)(hix:ix.Nodup)(hti:PJ Y KB E0 (n5 .F ms ix) ti mi)(hte:PJ Y (KO Y s) E0 (n5 .F ms ix) te me):
 PJ Y (KO Y (.ct s)) E ms (qt wi ix ti te) (ko src ix mi me):=by
 intro B U As Z H T Q R P;refine hs.bnd R P λds J I U1 L O _ R1 e1 n1 ⟨vs,hJ,hd⟩ W p hp=>?_;have hd:Dns Y I ds vs:=hd;by_cases z:ds.length<aj
 · rw[RF z]at W;have hvl:ds.length=vs.length:=hd.len;have hpA:∀i,p∉As i:=λi=>R1.fresh hp i
   refine⟨λi m ys H2=>i<=ds.length/\m=ds.length-i/\H2 p=some (.lst ys)/\ys.length<=i/\∃B2 K l N,Rel Y ms B2 K As Z H2 T/\Gw I U1 L B2 K H2/\K p=none/\p∉N/\New N L K As/\Ows Y B2 H2 l s ys N/\
    Po Y (KO Y (.ct s)) E ms I U1 As Z L T ((bL mi me (d6 T ix) (ds.drop i)).bind λr=>.ok (.lst (l++r))) Q,⟨ds.length,SR _,rfl,aY,RU _,I,U1,[],[],R1.new hp,Gw.newO R1 hp,R1.uh.free hp,by simp,New.nil,by rw[Ows];exact⟨rfl,rfl⟩,W⟩,?_⟩
   rintro i m ys H2 ⟨hi,rfl,hy,hle,B2,K,l,N,R2,g2,u2,pN,nN,dz,k⟩;have M:=hJ H2 g2.h;refine⟨hy,SN hle (dJ (SF (SN hi z))),?_⟩;by_cases hlt:i<ds.length
   · refine .inr ⟨M.2.1 i (by omega),λv H3 hyl=>?_⟩;obtain⟨rfl,ev⟩:=M.2.2 i v H3 (by omega) hyl;obtain⟨d,ed,dd⟩:=hd.geti ev;rw[jr ed,bL]at k;have RI:=R2.inner (m:= .F) hix (Pt R2.bu R2.uh (Dn.mono g2.b dd));refine hti B2 K _ _ H3 _ _ RI ?_
     -- what an inner step leaves
     have n:∀{C f t:Hp} {a:Addr} {o1:HO},Same f t->Gw B2 K H3 C f t->K a=none->H3 a=some o1->¬ dY o1->f a=none:=λ{C f t a o1} uh g h1 h2 h3=>by
      cases q:f a with
      |none=>rfl
      |some o=>
        rcases g.fr a o q with z|z|z
        ·rw[h1]at z;cases z
        ·rw[h2]at z;cases z
        ·have:=uh a o q;rw[g.h _ _ h2]at this;cases this;exact(h3 z).elim
     have relU:∀{C f t:Hp},Same C f->Same f t->Gw B2 K H3 C f t->Rel Y ms C f As Z t T:=λ{C f t} bu uh g=>R2.grow g.b g.u g.h bu uh λj a A=>by
      obtain⟨o',q',nt⟩:=(R2.lo j).at2 A;exact n uh g (R2.un j a A) q' nt
     have nU:∀{C f t:Hp},Same f t->Gw B2 K H3 C f t->New N L f As:=λ{C f t} uh g=>⟨nN.nd,nN.fr,λa A=>by
      obtain⟨o',q',nt⟩:=Ows.at2 dz A
      exact n uh g (nN.un a A) q' nt⟩
     have dzU:∀{C f t:Hp},Gw B2 K H3 C f t->Ows Y C t l s ys N:=λ{C f t} g=>Ows.mono g.b (λa A=>by
      obtain⟨o',q',nt⟩:=Ows.at2 dz A
      rw[q',g.h _ _ q']) dz
     have pt:¬ dY (.lst ys):=λ⟨_,z⟩=>by cases z
     cases eb:mi (some d::d6 T ix) with
     |bad=>rw[eb]at k;exact k.elim
     |exc c=>rw[eb]at k;exact k.elim
     |ok c=>
       rw[eb]at k;intro b C f t N3 S g3 n3 hb;cases hb;cases c with
       |false=>
         rw[RE RQ];exact⟨ds.length-(i+1),by omega,hlt,rfl,g3.h _ _ hy,by omega,C,f,l,N,relU S.bu S.uh g3,g2.trans g3,n S.uh g3 u2 hy pt,pN,nU S.uh g3,dzU g3,k⟩
       |true=>
         rw[RF rfl];refine hte C f _ _ t _ _ S ?_;replace k:Po Y (KO Y (.ct s)) E ms I U1 As Z L T (((me (some d::d6 T ix)).calm.bind λx=>(bL mi me (d6 T ix) (ds.drop (i+1))).bind λxs=>.ok (x::xs)).bind λr=>.ok (.lst (l++r))) Q:=k;cases ee:me (some d::d6 T ix) with
         |bad=>rw[ee]at k;exact k.elim
         |exc c=>rw[ee]at k;exact k.elim
         |ok x=>
           rw[ee]at k;intro y B4 U4 H5 N4 R4' g4 n4 hx;have hx:Ow Y B4 H5 x s y N4:=hx;have G:=g3.trans g4;have y5:H5 p=some (.lst ys):=G.h _ _ hy;have pN4:p∉N4:=λhm=>by have:=n4.fr p hm;rw[g3.h _ _ hy]at this;cases this
           have up4:=n R4'.uh G u2 hy pt;have nN4:=nU R4'.uh G;have R4:=relU R4'.bu R4'.uh G
           have g5:Gw I U1 L B4 U4 (upd H5 p (.lst (ys++[y]))):=by
            have g:=g2.trans G;exact⟨g.toEx,λa o q=>by rw[aS (bf q hp)];exact g.h a o q,g.fr⟩
           refine⟨y5,ds.length-(i+1),by omega,hlt,rfl,aY,by rw[RK,Sv];omega,B4,U4,l++[x],N++N4,R4.poke up4 hpA,g5,up4,?_,?_,?_,?_⟩
           · intro hm;rcases RW.mp hm with h|h
             ·exact pN h
             ·exact pN4 h
           · refine⟨Sz.mpr ⟨nN.nd,n4.nd,λa A c hc e=>?_⟩,λa A=>?_,λa A=>?_⟩
             · obtain⟨o',q',nt⟩:=Ows.at2 dz A
               have:=n4.fr c hc
               rw[<-e,g3.h _ _ q']at this;cases this
             · rcases RW.mp A with h|h
               ·exact nN.fr a h
               ·exact(g2.h.trans g3.h).free (n4.fr a h)
             · rcases RW.mp A with h|h
               ·exact nN4.un a h
               ·exact n4.un a h
           · have app:∀{l:List D} {ys:List V} {N:List Addr},Ows Y B4 H5 l s ys N->p∉N->Ows Y B4 (upd H5 p (.lst (ys++[y]))) l s ys N->True:=λ_ _ _=>trivial
             have key:∀{H6:Hp} {l:List D} {ys:List V} {N:List Addr},Ows Y B4 H6 l s ys N->Ow Y B4 H6 x s y N4->Ows Y B4 H6 (l++[x]) s (ys++[y]) (N++N4):=by
              intro H6 l
              induction l with
              |nil=>
                intro ys N h w;rw[Ows]at h;obtain⟨rfl,rfl⟩:=h;show Ows Y B4 H6 [x] s [y] N4;rw[Ows];exact⟨y,[],N4,[],rfl,by simp,w,by rw[Ows];exact⟨rfl,rfl⟩⟩
              |cons z l ih=>
                intro ys N h w;rw[Ows]at h;obtain⟨u,r,A1,A2,rfl,rfl,h1,h2⟩:=h;show Ows Y B4 H6 (z::(l++[x])) s (u::(r++[y])) _;rw[Ows];exact⟨u,r++[y],A1,A2++N4,rfl,by rw[Ta],h1,ih h2 w⟩
             exact key (Ows.mono (Same.refl _) (λa A=>aS (λe:a=p=>pN (e▸A))) (dzU G)) (Ow.mono (Same.refl _) (λa A=>aS (λe:a=p=>pN4 (e▸A))) hx)
           · cases eg:bL mi me (d6 T ix) (ds.drop (i+1)) with
             |ok r=>
               rw[eg]at k;show Po Y (KO Y (.ct s)) E ms I U1 As Z L T (.ok (.lst (l++[x]++r))) Q;rw[Ta];exact k
             |exc c=>rw[eg]at k;exact k
             |bad=>rw[eg]at k;exact k
   · have e:i=ds.length:=by omega
     subst e;rw[T7,bL]at k;refine .inl ⟨M.1 _ (by omega),?_⟩;have P3:Po Y (KO Y (.ct s)) E ms I U1 As Z L T (.ok (.lst (l++[]))) Q:=k;rw[Sk]at P3;refine P3 (.ref p) B2 K H2 (p::N) R2 g2 ⟨RZ.mpr ⟨pN,nN.nd⟩,λa q=>?_,λa q=>?_⟩ ?_
     · rcases RO.mp q with e|e
       ·rw[e];exact hp
       ·exact nN.fr a e
     · rcases RO.mp q with e|e
       ·rw[e];exact u2
       ·exact nN.un a e
     ·show Ow Y B2 H2 (.lst l) (.ct s) (.ref p) (p::N);rw[Ow];exact⟨p,ys,N,rfl,hy,rfl,dz⟩
 ·rw[RE z]at W;exact W.elim
end
end Mi
namespace Cl
open PySem L2 Mi
abbrev DJ(X:Type):=List (Int×X)
section
variable{X:Type}
def PL(f:X->D)(F:DJ X):D:=.dK (F.map λp=>Sum.inl p.1) (F.map λp=>f p.2)
def DJ.nd(F:DJ X):Prop:=(F.map (·.1)).Nodup
end
section
variable{Z σ' W X O M:Type}{rep:Z->L4}{Y:σ'->L4}
@[simp] def EV(F:DI (Option X))(k:List Int):Res (Option X):=.ok ((F.get k).bind id)
theorem uX{e:X->D}{a mk:L4->Res D}{c:Z->Res (DI (Option X))}{b:Z->Res (List Int)}(f:EJ rep (bR (eO e)) a c)(d:EJ rep (lY D.int) mk b):EJ rep (eO e) (qU a mk) (bc EV c b):=λs=>(f s).bnd λF=>by
 show SimR (eO e) (if true=true then _ else _) _;rw[if_pos rfl];refine(d s).bnd λk=>?_;show gE (bR (eO e) F) (.tup (k.map D.int)) .non=.ok (eO e ((F.get k).bind id));unfold gE;rw[gR];cases F.get k<;>rfl
open Classical in
noncomputable def rn(g:Z->Option (DI W))(p:Z->DI W->Z)(c:Z->Res (DI W)):Z->OutC Z Unit:=λs=>match g s with
 |some []=>bndO (c s) s λF=>if ((F.map (·.1)).map cW).Nodup then .ok () (p s F) else .bad
 |_=>.bad
theorem w9(F:DI W):fX ((F.map λp=>p.1.map (Sum.inl:Int->bJ)).map λk=>.tup (k.map kD))=some (F.map (·.1)):=by
 have:((F.map λp=>p.1.map (Sum.inl:Int->bJ)).map λk=>D.tup (k.map kD))=(F.map (·.1)).map (lY D.int):=by
  rw[Se,Se];refine SK λp _=>?_;show D.tup ((p.1.map (Sum.inl:Int->bJ)).map kD)=D.tup (p.1.map D.int);rw[Se];rfl
 rw[this];exact lW _
theorem r6{e:W->D}{get:L4->Option D}{set:L4->D->L4}{g:Z->Option (DI W)}{p:Z->DI W->Z}{b:L4->Res D}{c:Z->Res (DI W)}(l:∀s,get (rep s)=(g s).map (bR e))(i:∀s F,set (rep s) (bR e F)=rep (p s F))(h:∀a,bD (e a)=true)(m:EJ rep (bR e) b c):NJ rep eN (t3 get set b) (rn g p c):=λs=>by
 have j:=m s;unfold t3 rn;rw[l];cases g s with
 |none=>trivial
 |some n=>
   cases n with
   |cons _ _=>trivial
   |nil=>
     show SimO rep eN (((b (rep s)).up (rep s)).bind λd T=>FL set T d) (bndO (c s) s _);refine SimR.el j (λF=>?_) (λ_=>rfl) λ_=>trivial;show SimO rep eN (match fX ((F.map λp=>p.1.map (Sum.inl:Int->bJ)).map λk=>.tup (k.map kD)) with|some f=>(if (f.map cW).Nodup/\(F.map λp=>e p.2).all bD=true then Out.ok .non (set (rep s) (bR e F)) else .bad)|none=>.bad) (if ((F.map (·.1)).map cW).Nodup then OutC.ok () (p s F) else .bad);rw[w9];dsimp only;by_cases z:((F.map (·.1)).map cW).Nodup
     ·rw[RF z,RF ⟨z,by rw[Vx,TH];exact λa _=>h _⟩,i];rfl
     ·rw[RE z];trivial
end
section
variable{Z W X O:Type}{rep:Z->L4}{e:W->D}{e':X->D}{e'':O->D}
instance decH3 {W X O:Type} [DecidableEq W] [DecidableEq X] [DecidableEq O]:DecidableEq (W×X×O):=inferInstance
end
end Cl
namespace L2
open PySem PySem.Spec PyProof.Rows
theorem FQ{X:Cx}{e:Expr}{pos:Pos}{te:XK->TE}{r:List Stmt}{t:XK->TS}(i:QV X e te)(g:TB X r t)(f:swapsWith e none pos.line X.env=pure false:=by rfl):TB X (.Expr e pos::r) (λE=>FR (nC (te E)) (t E)):=by
 intro q a Z E b s H D I h;refine TF ?_;exact wpAny_Expr_any (bV (i q a Z E b s H _ I h) λv c ⟨x,L,j,k,d⟩=>g q a Z E b c L D j d) I.quiet f
end L2
namespace Mi
open PySem L2
section
variable{Y:Cm}{E:XK}{Kr:KT D V}{pr:Nat->Bool}{ms:List Md}{K:F0}{B U H:Hp}{As:Nat->List Addr}{Z:St}{T:L4}
theorem Me{f:KT D V}{te:XK->TE}{t:XK->TS}{m:L4->Out D}{n:L4->SO}(h:∀E,MJ Y f E ms (te E) m)(k:Nj Y ms t n):Nj Y ms (λE=>FR (nC (te E)) (t E)) (ay (aT m) n):=by
 intro E B U As Z H T D R P;refine h E B U As Z H T _ R ?_;unfold ay aT at P;cases e:m T with
 |ok d G=>rw[e]at P;exact λv S M J H' N b a g i=>k E S M J Z H' G D b (Tf.at P a)
 |exc c G=>rw[e]at P;exact P
 |bad=>rw[e]at P;exact P
open Classical in
noncomputable def sub(H:Hp)(N:List Addr):Hp:=λa=>if a∈N\/(∃xs,H a=some (.tup xs)) then H a else none
theorem jM{N:List Addr}:Same (sub H N) H:=λa o q=>by
 unfold sub at q;split at q
 ·exact q
 ·cases q
theorem kF{N:List Addr}{a:Addr}(h:a∈N):sub H N a=H a:=RF (.inl h)
theorem xP{N:List Addr}{a:Addr}{xs:List V}(h:H a=some (.tup xs)):sub H N a=some (.tup xs):=(RF (.inr ⟨xs,h⟩)).trans h
theorem t5{H':Hp}{N c:List Addr}(h:∀a∈N,∀o,H a=some o->H' a=some o)(d:∀a xs,H a=some (.tup xs)->H' a=some (.tup xs))(e:∀a∈N,a∈c):Same (sub H N) (sub H' c):=λa o q=>by
 have b:=jM a o q;unfold sub at q;split at q
 · rename_i z;rcases z with z|⟨xs,z⟩
   ·rw[kF (e a z)];exact h a z o b
   ·rw[z]at b;cases b;exact xP (d a xs z)
 ·cases q
def Nt(H:Hp)(N:List Addr):Prop:=∀a∈N,∃o,H a=some o/\¬ dY o
def KG(Y:Cm):KT D V:=λd v B U H N=>Dn Y (sub H N) d v/\Nt H N
def Fy(Y:Cm):KT D V:=λd v B U H N=>∃ds a xs b,d=.lst ds/\v=.ref a/\H a=some (.lst xs)/\N=a::b/\Dns Y (sub H b) ds xs/\Nt H b
theorem Nt.up{H':Hp}{N:List Addr}(h:Nt H N)(s:Same H H'):Nt H' N:=λa b=>let ⟨o,e,n⟩:=h a b;⟨o,s a o e,n⟩
theorem qN{l e:Hp}{k b f:Hp}{a:Addr}{c:HO}(uh:Same b f)(g:Gw l e H k b f)(j:e a=none)(d:H a=some c)(i:¬ dY c):b a=none:=by
 cases q:b a with
 |none=>rfl
 |some o=>
   rcases g.fr a o q with z|z|z
   ·rw[j]at z;cases z
   ·rw[d]at z;cases z
   ·have:=uh a o q;rw[g.h _ _ d]at this;cases this;exact(i z).elim
theorem kE{H':Hp}{N b:List Addr}(s:Same H H')(c:∀a∈N,a∈b):Same (sub H N) (sub H' b):=t5 (λa _ o q=>s a o q) (λa xs q=>s a _ q) c
theorem oG{t:TE}{m:L4->Res D}(h:PJ Y (KO Y (.ct .fz)) E ms t m):PJ Y (KG Y) E ms t (mY m):=by
 intro B U As Z H T Q R P;refine h B U As Z H T Q R ?_;unfold mY at P;cases e:m T with
 |ok d=>
   rw[e]at P;replace P:Po Y (KG Y) E ms B U As Z H T (if kJ d=true then .ok d else .bad) Q:=P;intro v I U1 L O p o k M;by_cases z:kJ d=true
   · rw[RF z]at P;have M:Ow Y I L d (.ct .fz) v O:=M;refine P v I U1 L O p o k ⟨?_,λb l=>Ow.at2 M l⟩;cases d with
     |lst ds=>
       obtain⟨a,xs,rfl,g,rfl,n⟩:=M.lst rfl;rw[Dn];exact⟨a,xs,rfl,by rw[kF (by simp)];exact g,cT z n⟩
     |dK ks ds=>
       rw[Ow]at M;obtain⟨a,f,q,rfl,g,i,rfl,j⟩:=M;rw[Dn];exact⟨a,f,rfl,by rw[kF (by simp)];exact g,i,cT z (Ows.fz j).1⟩
     |dT ks ds=>
       rw[Ow]at M;obtain⟨a,f,q,rfl,g,i,rfl,j⟩:=M;rw[Dn];exact⟨a,f,rfl,.inl (by rw[kF (by simp)];exact g),i,cT z (Ows.fz j).1⟩
     |_=>simp[Ow]at M
   ·rw[RE z]at P;exact P.elim
 |exc c=>rw[e]at P;exact P
 |bad=>rw[e]at P;exact P
theorem KS{k tb:TE}{j i:L4->Res D}(b:PJ Y (KG Y) E ms k j)(m:PJ Y (KR Y .X) E ms tb i):PJ Y (KG Y) E ms (JE (bS k (bS tb dE))) (qf (ax j (ax (na i) a6))):=by
 intro B U As Z H T Q R P;refine b B U As Z H T _ R ?_;unfold qf ax at P;cases e:j T with
 |bad=>rw[e]at P;exact P
 |exc c=>rw[e]at P;exact P
 |ok x=>
   rw[e]at P;intro v I U1 L N t l g dx;obtain⟨dx,nt⟩:=dx;refine m I U1 As Z L T _ t ?_;unfold na at P;cases f:i T with
   |bad=>simp only[f,Res.bind]at P;exact P
   |exc c=>simp only[f,Res.bind]at P;exact λS M H' w g'=>P S M H' w (l.trans g')
   |ok y=>
     by_cases z:bD y=true
     · simp only[f,Res.bind,z,U8,a6]at P;rw[RF (by show 2<=aj;decide)]at P;intro u C s A G R2 d F r;refine⟨by show 2<=sizeLine;decide,λp hp=>P (.ref p) C s (upd A p (.tup [v,u])) N (R2.new hp) (l.trans (d.trans (Gw.newO R2 hp))) ⟨g.nd,g.fr,λa b=>?_⟩ ⟨?_,nt.up (d.h.trans (Gd.cz hp))⟩⟩
       ·obtain⟨o,q,n⟩:=nt a b;exact qN R2.uh d (g.un a b) q n
       ·rw[Dn];refine⟨p,[v,u],rfl,xP aY,?_⟩;rw[Dns];refine⟨v,[u],rfl,Dn.mono (kE (d.h.trans (Gd.cz hp)) λa h=>h) dx,?_⟩;exact Dns.one (gg z r)
     ·simp only[f,Res.bind,z]at P;exact P.elim
theorem CN{wi:TI}{ix:List Nat}{ti:TT}{te:TE}{src:L4->Res (List D)}{mi:L4->Res Bool}{me:L4->Res D}(hs:PJ Y (KI Y .F .X) E ms wi src)(hix:ix.Nodup)(hti:PJ Y KB E0 (n5 .F ms ix) ti mi)(hte:PJ Y (KG Y) E0 (n5 .F ms ix) te me):
 PJ Y (Fy Y) E ms (qt wi ix ti te) (ko src ix mi me):=by
 intro B U As Z H T Q R P;refine hs.bnd R P λds J I U1 L O _ R1 e1 n1 ⟨vs,hJ,hd⟩ W p hp=>?_;have hd:Dns Y I ds vs:=hd;by_cases z:ds.length<aj
 · rw[RF z]at W;have hvl:ds.length=vs.length:=hd.len;have hpA:∀i,p∉As i:=λi=>R1.fresh hp i
   refine⟨λi m ys H2=>i<=ds.length/\m=ds.length-i/\H2 p=some (.lst ys)/\ys.length<=i/\∃B2 K G N,Rel Y ms B2 K As Z H2 T/\Gw I U1 L B2 K H2/\K p=none/\p∉N/\New N L K As/\Dns Y (sub H2 N) G ys/\Nt H2 N/\
    Po Y (Fy Y) E ms I U1 As Z L T ((bL mi me (d6 T ix) (ds.drop i)).bind λr=>.ok (.lst (G++r))) Q,⟨ds.length,SR _,rfl,aY,RU _,I,U1,[],[],R1.new hp,Gw.newO R1 hp,R1.uh.free hp,by simp,New.nil,by rw[Dns],λ_ h=>(nomatch h),W⟩,?_⟩
   rintro i m ys H2 ⟨hi,rfl,hy,hle,B2,K,G,N,R2,g2,u2,pN,nN,dz,nt,f⟩;have s:=hJ H2 g2.h;refine⟨hy,SN hle (dJ (SF (SN hi z))),?_⟩;by_cases hlt:i<ds.length
   · refine .inr ⟨s.2.1 i (by omega),λv H3 hyl=>?_⟩;obtain⟨rfl,ev⟩:=s.2.2 i v H3 (by omega) hyl;obtain⟨d,ed,dd⟩:=hd.geti ev;rw[jr ed,bL]at f;have RI:=R2.inner (m:= .F) hix (Pt R2.bu R2.uh (Dn.mono g2.b dd));refine hti B2 K _ _ H3 _ _ RI ?_
     have V:∀{C n A:Hp},Same C n->Same n A->Gw B2 K H3 C n A->Rel Y ms C n As Z A T:=λ{C n A} bu uh g=>R2.grow g.b g.u g.h bu uh λj a k=>by
      obtain⟨o',q',nt⟩:=(R2.lo j).at2 k;exact qN uh g (R2.un j a k) q' nt
     have nU:∀{C n A:Hp},Same n A->Gw B2 K H3 C n A->New N L n As:=λ{C n A} uh g=>⟨nN.nd,nN.fr,λa k=>by
      obtain⟨o',q',nt⟩:=nt a k
      exact qN uh g (nN.un a k) q' nt⟩
     have pt:¬ dY (.lst ys):=λ⟨_,z⟩=>by cases z
     cases eb:mi (some d::d6 T ix) with
     |bad=>rw[eb]at f;exact f.elim
     |exc c=>rw[eb]at f;exact f.elim
     |ok c=>
       rw[eb]at f;intro b C n A N3 w t n3 hb;cases hb;cases c with
       |false=>
         rw[RE RQ];exact⟨ds.length-(i+1),by omega,hlt,rfl,t.h _ _ hy,by omega,C,n,G,N,V w.bu w.uh t,g2.trans t,qN w.uh t u2 hy pt,pN,nU w.uh t,dz.mono (kE t.h λ_ h=>h),nt.up t.h,f⟩
       |true=>
         rw[RF rfl];refine hte C n _ _ A _ _ w ?_;replace f:Po Y (Fy Y) E ms I U1 As Z L T (((me (some d::d6 T ix)).calm.bind λx=>(bL mi me (d6 T ix) (ds.drop (i+1))).bind λxs=>.ok (x::xs)).bind λr=>.ok (.lst (G++r))) Q:=f;cases ee:me (some d::d6 T ix) with
         |bad=>rw[ee]at f;exact f.elim
         |exc c=>rw[ee]at f;exact f.elim
         |ok x=>
           rw[ee]at f;intro y B4 U4 H5 N4 S g4 n4 hx;obtain⟨hx,nt4⟩:=hx;have l:=t.trans g4;have y5:H5 p=some (.lst ys):=l.h _ _ hy;have pN4:p∉N4:=λhm=>by have:=n4.fr p hm;rw[t.h _ _ hy]at this;cases this
           have up4:=qN S.uh l u2 hy pt;have nN4:=nU S.uh l;have R4:=V S.bu S.uh l
           have g5:Gw I U1 L B4 U4 (upd H5 p (.lst (ys++[y]))):=by
            have g:=g2.trans l;exact⟨g.toEx,λa o q=>by rw[aS (bf q hp)];exact g.h a o q,g.fr⟩
           have nt5:Nt H5 N:=nt.up l.h;have hm5:∀{M:List Addr} {M':List Addr},p∉M->(∀a∈M,a∈M')->Same (sub H5 M) (sub (upd H5 p (.lst (ys++[y]))) M'):=λ{M M'} hM hs=>t5 (λa k o q=>by rw[aS (λe:a=p=>hM (e▸k))];exact q) (λa xs q=>by rw[aS (λe:a=p=>by rw[e,y5]at q;cases q)];exact q) hs;have ntu:∀{M:List Addr},p∉M->Nt H5 M->Nt (upd H5 p (.lst (ys++[y]))) M:=λ{M} hM h a k=>by rw[aS (λe:a=p=>hM (e▸k))];exact h a k
           refine⟨y5,ds.length-(i+1),by omega,hlt,rfl,aY,by rw[RK,Sv];omega,B4,U4,G++[x],N++N4,R4.poke up4 hpA,g5,up4,?_,?_,?_,?_,?_⟩
           · intro hm;rcases RW.mp hm with h|h
             ·exact pN h
             ·exact pN4 h
           · refine⟨Sz.mpr ⟨nN.nd,n4.nd,λa k c hc e=>?_⟩,λa k=>?_,λa k=>?_⟩
             · obtain⟨o',q',nt⟩:=nt a k
               have:=n4.fr c hc
               rw[<-e,t.h _ _ q']at this;cases this
             · rcases RW.mp k with h|h
               ·exact nN.fr a h
               ·exact(g2.h.trans t.h).free (n4.fr a h)
             · rcases RW.mp k with h|h
               ·exact nN4.un a h
               ·exact n4.un a h
           ·exact((dz.mono (kE l.h λ_ h=>h)).mono (hm5 pN λa h=>RX _ h)).append (Dns.one (Dn.mono (hm5 pN4 λa h=>RN _ h) hx))
           · intro a k;rcases RW.mp k with h|h
             ·exact ntu pN nt5 a h
             ·exact ntu pN4 nt4 a h
           · cases eg:bL mi me (d6 T ix) (ds.drop (i+1)) with
             |ok r=>
               rw[eg]at f;show Po Y (Fy Y) E ms I U1 As Z L T (.ok (.lst (G++[x]++r))) Q;rw[Ta];exact f
             |exc c=>rw[eg]at f;exact f
             |bad=>rw[eg]at f;exact f
   · have e:i=ds.length:=by omega
     subst e;rw[T7,bL]at f;refine .inl ⟨s.1 _ (by omega),?_⟩;have P3:Po Y (Fy Y) E ms I U1 As Z L T (.ok (.lst (G++[]))) Q:=f;rw[Sk]at P3;refine P3 (.ref p) B2 K H2 (p::N) R2 g2 ⟨RZ.mpr ⟨pN,nN.nd⟩,λa q=>?_,λa q=>?_⟩ ⟨G,p,ys,N,rfl,rfl,hy,rfl,dz,nt⟩
     · rcases RO.mp q with e|e
       ·rw[e];exact hp
       ·exact nN.fr a e
     · rcases RO.mp q with e|e
       ·rw[e];exact u2
       ·exact nN.un a e
 ·rw[RE z]at W;exact W.elim
theorem Rel.freezeG{N:List Addr}(R:Rel Y ms B U As Z H T)(h:∀a∈N,U a=none/\∀i,a∉As i):Rel Y ms (ov B (sub H N)) (ov U (sub H N)) As Z H T/\Ex B U (ov B (sub H N)) (ov U (sub H N))/\∀a o,ov U (sub H N) a=some o->U a=some o\/a∈N\/dY o:=by
 have b:∀{G:Hp},Same G (ov G (sub H N)):=λ{G} a o q=>by unfold ov;rw[q]
 have s2:∀{G:Hp},Same G H->Same (ov G (sub H N)) H:=λ{G} e a o q=>by
  unfold ov at q;cases z:G a with
  |none=>rw[z]at q;exact jM a o q
  |some o'=>rw[z]at q;cases q;exact e a _ z
 have c:∀{G:Hp} a o,ov G (sub H N) a=some o->G a=some o\/a∈N\/dY o:=λ{G} a o q=>by
  unfold ov at q;cases z:G a with
  |some o'=>rw[z]at q;exact .inl q
  |none=>
    rw[z]at q;have f:=jM a o q;replace q:sub H N a=some o:=q;unfold sub at q;split at q
    · rename_i y;rcases y with y|⟨xs,y⟩
      ·exact .inr (.inl y)
      ·rw[y]at f;cases f;exact .inr (.inr ⟨xs,rfl⟩)
    ·cases q
 refine⟨R.grow b b (Same.refl _) (λa o q=>?_) (s2 R.uh) λi a d=>?_,⟨b,b,λa o q=>?_⟩,c⟩
 · have g:=s2 R.bh a o q;unfold ov at q ⊢;cases z:B a with
   |some o'=>rw[z]at q;cases q;rw[R.bu a _ z]
   |none=>
     rw[z]at q;cases y:U a with
     |none=>exact q
     |some o'=>have:=R.uh a o' y;rw[g]at this;cases this;rfl
 · cases q:ov U (sub H N) a with
   |none=>rfl
   |some o=>
     rcases c a o q with z|z|z
     ·rw[R.un i a d]at z;cases z
     ·exact absurd d ((h a z).2 i)
     ·exact(R.nt d (s2 R.uh a o q) z).elim
 · rcases c a o q with z|z|z
   ·exact .inl z
   ·exact .inr (.inl (h a z).1)
   ·exact .inr (.inr z)
theorem gF{t:TE}{m:L4->Res D}(h:PJ Y (Fy Y) E ms t m):PJ Y (KR Y .F) E ms t m:=by
 intro B U As Z H T Q R P;refine h B U As Z H T Q R ?_;cases e:m T with
 |ok d=>
   rw[e]at P;intro v S M H' N l i g n;obtain⟨ds,a,xs,j,rfl,rfl,p,rfl,hd,nt⟩:=n;obtain⟨R2,s,r⟩:=l.freezeG λb f=>⟨g.un b f,R.apart g b f⟩
   have k:Same (sub H' (a::j)) (ov S (sub H' (a::j))):=λb o q=>by
    unfold ov;cases z:S b with
    |none=>exact q
    |some o'=>have:=l.bh b o' z;rw[jM b o q]at this;cases this;rfl
   refine P (.ref a) _ _ H' [] R2 ⟨i.toEx.trans s,i.h,λb o q=>?_⟩ New.nil ?_
   · rcases r b o q with z|z|z
     ·exact i.fr b o z
     ·exact .inr (.inl (g.fr b z))
     ·exact .inr (.inr z)
   ·show Dn Y (ov S (sub H' (a::j))) (.lst ds) (.ref a);rw[Dn];exact⟨a,xs,rfl,k _ _ (by rw[kF (by simp)];exact p),hd.mono ((kE (Same.refl _) λb f=>on _ f).trans k)⟩
 |exc c=>rw[e]at P;exact P
 |bad=>rw[e]at P;exact P
theorem rP{c:Nat}{d:Str}{a:List Md}{g:List D->Out D}{p:Ap}{ps:List Ap}{b:TE}{e:L4->Res D}{t:TA}{m:L4->Res (List D)}(i:A1J Y E ms p b e)(h:AJ Y E ms ps t m)(f:i8 (p::ps) a=true):
 PJ Y (Fy Y) E ms (kB (Y c) d (dO Y a (Fy Y) g) [] E b t) (pm c d g e m):=wu i h (eE f) (eF f) λ_ _ _ _ _ _ _ h=>h
def v8(b a:L4->Res D):L4->Out D:=λT=>match b T with
 |.ok (.lst ds)=>if ds.length<aj then (match a T with | .ok _=>.ok .non T|_=>.bad) else .bad
 |_=>.bad
theorem wW{k te:TE}{f b:L4->Res D}(o:PJ Y (KO Y (.ct .fz)) E ms k f)(n:PJ Y (KR Y .F) E ms te b):MJ Y (KR Y .F) E ms (HF K "list" kL k (bS te dE)) (v8 f b):=by
 intro B U As Z H T Q R P;refine o B U As Z H T _ R ?_;unfold v8 at P;cases e:f T with
 |bad=>rw[e]at P;exact P
 |exc c=>rw[e]at P;exact P.elim
 |ok d=>
   rw[e]at P;cases d with
   |lst ds=>
     replace P:Mo Y (KR Y .F) E ms B U Z (if ds.length<aj then (match b T with | .ok _=>.ok .non T|_=>.bad) else .bad) Q:=P;by_cases z:ds.length<aj
     · rw[RF z]at P;intro v I U1 L N s q l M;obtain⟨a,xs,rfl,g,rfl,p⟩:=(show Ow Y I L (.lst ds) (.ct .fz) v N from M).lst rfl;refine⟨.inl ⟨rfl,xs,SqL.of g⟩,n I U1 As Z L T _ s ?_⟩;cases j:b T with
       |bad=>rw[j]at P;exact P
       |exc c=>rw[j]at P;exact P.elim
       |ok y=>
         rw[j]at P;intro u t r C A R2 i w x;have m:=qN R2.uh i (l.un a (by simp)) g (λ⟨_,z⟩=>by cases z);exact⟨a,xs,u,rfl,rfl,i.h _ _ g,dJ (SF (by rw[<-p.len];exact z)),P .non t r As _ [] (R2.poke m (R.apart l a (by simp))) (q.trans i).toEx NewM.nil (by show Dn Y _ _ _;rw[Dn])⟩
     ·rw[RE z]at P;exact P.elim
   |_=>exact P.elim
def A8(a:L4->Res D):L4->Out D:=λT=>match a T with
 |.ok (.lst _)=>.ok .non T
 |_=>.bad
theorem LP{f:TE}{b:L4->Res D}(i:PJ Y (Fy Y) E ms f b):MJ Y (KR Y .F) E ms (NK K "list" Cp f) (A8 b):=by
 intro B U As Z H T Q R P;refine i B U As Z H T _ R ?_;unfold A8 at P;cases e:b T with
 |bad=>rw[e]at P;exact P
 |exc c=>rw[e]at P;exact P.elim
 |ok d=>
   rw[e]at P;cases d with
   |lst ds=>
     intro v I U1 L N l j g M;obtain⟨k,a,xs,n,h0,rfl,h,rfl,m,nt⟩:=M;exact⟨.inl ⟨rfl,xs,SqL.of h⟩,a,xs,rfl,rfl,h,P .non I U1 As _ [] (l.poke (g.un a (by simp)) (R.apart g a (by simp))) j.toEx NewM.nil (by show Dn Y _ _ _;rw[Dn])⟩
   |_=>exact P.elim
def uB(n:Nat):D->Bool
 |.tup (.lst es::_)=>decide (es.length+n<=aj)
 |_=>false
def Dv(j i:Nat)(a:L4->Res D):L4->SO:=λT=>match a T with
 |.ok (.lst ds)=>if ds.all (uB ds.length)=true/\ft T (some j)=true/\(rg T i).isSome=true then .nx T else .bad
 |_=>.bad
theorem BA{j i:Nat}{tw:TE}{mw:L4->Res D}(hw:PJ Y (Fy Y) E ms tw mw)(hp:pr j=false):
 SJ Y E Kr pr ms (JF (qR Y.K tw) (eh j) (nC (HF K "list" kL (Bi (Gk Y.K) (eT j) (tC (.int 0))) (bS (eT i) dE)))) (Dv j i mw):=by
 intro B U As Z H T D R P;refine hw B U As Z H T _ R ?_;unfold Dv at P;cases e:mw T with
 |bad=>rw[e]at P;exact P
 |exc c=>rw[e]at P;exact P.elim
 |ok d=>
   rw[e]at P;cases d with
   |lst ds=>
     replace P:So Y E Kr pr ms B U Z (if ds.all (uB ds.length)=true/\ft T (some j)=true/\(rg T i).isSome=true then .nx T else .bad) D:=P;by_cases z:ds.all (uB ds.length)=true/\ft T (some j)=true/\(rg T i).isSome=true
     · rw[RF z]at P;obtain⟨z1,z2,z3⟩:=z;obtain⟨di,F⟩:=Tb.mp z3;obtain⟨hjl,Q⟩:=lV z2;have hij:i≠j:=λe=>by rw[e,Q]at F;cases F
       intro v I U1 L N R1 g1 n1 M;obtain⟨ds',a,xs,N',h0,rfl,h1,rfl,h2,nt⟩:=M;cases h0;have hlen:ds.length=xs.length:=h2.len;have nda:a∉N':=(RZ.mp n1.nd).1
       have gf:∀(k:Nat) (x:V),xs[k]?=some x->∃t l y ys,x=.ref t/\L t=some (.tup (.ref l::y))/\l∈N'/\L l=some (.lst ys)/\ys.length+ds.length<=aj+0:=λk x ex=>by
        obtain⟨d,ed,dd⟩:=h2.geti ex;have hm:=List.all_eq_true.mp z1 d (List.mem_of_getElem? ed);unfold uB at hm;split at hm
        · rename_i es bX;rw[Dn]at dd;obtain⟨t,ws,rfl,ht,J⟩:=dd;rw[Dns]at J;obtain⟨w,r,rfl,hw,_⟩:=J;rw[Dn]at hw;obtain⟨l,ys,rfl,s,G⟩:=hw;refine⟨t,l,r,ys,rfl,jM _ _ ht,?_,jM _ _ s,?_⟩
          · have q2:=jM _ _ s;unfold sub at s;split at s
            · rename_i c;rcases c with c|⟨_,c⟩
              ·exact c
              ·rw[q2]at c;cases c
            ·cases s
          · have:=Tw hm
            rw[<-G.len];omega
        ·cases hm
       refine⟨a,rfl,⟨xs,SqL.of h1⟩,?_⟩;refine⟨λn m g H'=>n<=ds.length/\m=ds.length-n/\Rel Y ms I U1 As g H' T/\Kp pr Z g/\H' a=some (.lst xs)/\∀(k:Nat) (x:V),xs[k]?=some x->∃t l y ys,x=.ref t/\H' t=some (.tup (.ref l::y))/\l∈N'/\H' l=some (.lst ys)/\ys.length+ds.length<=aj+n,⟨_,SR _,rfl,R1,Kp.refl _ _,h1,gf⟩,?_⟩;rintro n m g H' ⟨hn,rfl,R2,k2,ha,S⟩;have sq:SqL Y.K H' a xs:=SqL.of ha;by_cases hlt:n<ds.length
       · obtain⟨x,ex⟩:∃x,xs[n]?=some x:=⟨_,List.getElem?_eq_getElem (by omega)⟩;refine .inr ⟨⟨xs,x,sq,ex⟩,λf p=>Rel Y ms I U1 As f p T/\Kp pr Z f/\p a=some (.lst xs)/\∀(k:Nat) (x:V),xs[k]?=some x->∃t l y ys,x=.ref t/\p t=some (.tup (.ref l::y))/\l∈N'/\p l=some (.lst ys)/\ys.length+ds.length<=aj+(n+1),λf p h=>⟨ds.length-(n+1),by omega,hlt,rfl,h⟩,λy Hx hy=>?_⟩;obtain⟨rfl,ev⟩:=hy;have ev:=ev xs sq;rw[ex]at ev;cases ev;obtain⟨t,l,r,ys,rfl,ht,A,s,G⟩:=S n x ex;have R3:=R2.slot (x:=some (.ref t)) Q;have hσ:(g.set j (some (V.ref t)))[j]?=some (some (.ref t)):=List.getElem?_set_self (by rw[<-R2.len];exact hjl);have li:=R3.lo i;rw[F]at li;obtain⟨W,hvi,_⟩:=li;refine⟨.ref t,hσ,t,.ref l::r,0,.ref l,rfl,rfl,SqT.of ht,by unfold iK kU;rw[if_pos (by decide),if_pos (by simp)];rfl,?_⟩;refine⟨.inl ⟨rfl,ys,SqL.of s⟩,W,fj hvi,l,ys,W,rfl,rfl,s,dJ (by omega),?_⟩;have nl:∀b o,Hx b=some o->¬ (∃zs,o=HO.lst zs)->b≠l:=λb o q hz e=>hz ⟨ys,by rw[e,s]at q;cases q;rfl⟩;refine⟨R3.poke (n1.un l (List.mem_cons_of_mem _ A)) (R.apart n1 l (List.mem_cons_of_mem _ A)),k2.slot hp,by rw[aS (λe:a=l=>nda (e▸A))];exact ha,λk x ek=>?_⟩;obtain⟨t',X,r',ys',rfl,O,u,C,hys'⟩:=S k x ek;have et:upd Hx l (HO.lst (ys++[W])) t'=some (.tup (.ref X::r')):=by rw[aS (nl t' _ O λ⟨_,e⟩=>by cases e)];exact O
         by_cases ll:X=l
         ·subst ll;rw[s]at C;cases C;exact⟨t',X,r',ys++[W],rfl,et,u,aY,by rw[RK,Sv];omega⟩
         ·exact⟨t',X,r',ys',rfl,et,u,by rw[aS ll];exact C,by omega⟩
       ·exact .inl ⟨⟨xs,sq,by omega⟩,P g I U1 As H' R2 g1.toEx k2⟩
     ·rw[RE z]at P;exact P.elim
   |_=>exact P.elim
def Ba:D->D->Res D
 |.lst xs,.int k=>if 0<=k then .ok (.lst (xs.take k.toNat)) else .bad
 |_,_=>.bad
theorem E4{k:Int}(h:0<=k)(xs:List V):u7 xs none (some k)=xs.take k.toNat:=by
 unfold u7;have e:HT.tW xs.length xs.length (some k)=min k.toNat xs.length:=by show(if k<0 then _ else _)=_;rw[if_neg (by omega)]
 rw[e,HT.uf,List.drop_zero,Nat.sub_zero];by_cases z:k.toNat<=xs.length
 ·rw[Nat.min_eq_left z]
 ·rw[Nat.min_eq_right (by omega),List.take_length,UM (by omega)]
theorem KU{e tb:TE}{g f:L4->Res D}(m:PJ Y (KC Y .F) E ms e g)(l:PJ Y (KR Y .X) E ms tb f):PJ Y (KO Y (.ct .fz)) E ms (Q2 (Gj Y.K) e rq (Bh tb)) (bn Ba g f):=by
 intro B U As Z H T Q R P;refine m.bnd R P λx v I U1 L O _ r A w M W=>l.bnd r W λy u s q j C _ R2 i t d c=>?_;have M:Cn Y I L x v:=M;have d:Dn Y j y u:=d;cases y with
 |int k=>
   rw[Dn]at d;subst d;refine⟨k,rfl,?_⟩;cases x with
   |lst ds=>
     obtain⟨a,xs,rfl,o,n⟩:=M;replace c:Po Y (KO Y (.ct .fz)) E ms s q As Z j T (if 0<=k then .ok (.lst (ds.take k.toNat)) else .bad) Q:=c;by_cases z:0<=k
     ·rw[RF z]at c;refine⟨a,xs,rfl,SqL.of (i.h _ _ o),λp hp=>?_⟩;rw[E4 z];exact dX R2 c ((n.mono i.b).take _) hp
     ·rw[RE z]at c;exact c.elim
   |_=>exact c.elim
 |_=>cases x<;>exact c.elim
end
end Mi
namespace Cl
open PySem L2 Mi
section
variable{Z W X O:Type}{rep:Z->L4}{e:W->D}{e':X->D}{eR:O->D}
@[simp] def A9(a:Z->Res (List W))(b:Z->Res X):Z->OutC Z Unit:=λs=>match a s with
 |.ok l=>if l.length<aj then (match b s with | .ok _=>.ok () s|_=>.bad) else .bad
 |_=>.bad
theorem wD{g f:L4->Res D}{a:Z->Res (List W)}{b:Z->Res X}(d:EJ rep (eL e) g a)(c:EJ rep e' f b):NJ rep eN (v8 g f) (A9 a b):=λs=>by
 have d:=d s;have c:=c s;unfold v8 A9;cases q:a s with
 |ok l=>
   rw[q]at d;rw[show g (rep s)=.ok (.lst (l.map e)) from d];dsimp only;rw[List.length_map];by_cases z:l.length<aj
   · rw[RF z,RF z];cases h:b s with
     |ok x=>rw[h]at c;rw[show f (rep s)=_ from c];rfl
     |_=>trivial
   ·rw[RE z,RE z];trivial
 |_=>trivial
@[simp] def JD(a:Z->Res (List W)):Z->OutC Z Unit:=λs=>match a s with
 |.ok _=>.ok () s
 |_=>.bad
theorem Lr{c:L4->Res D}{a:Z->Res (List W)}(b:EJ rep (eL e) c a):NJ rep eN (A8 c) (JD a):=λs=>by
 have b:=b s;unfold A8 JD;cases q:a s with
 |ok l=>rw[q]at b;rw[show c (rep s)=_ from b];rfl
 |_=>trivial
@[simp] def GD(f g:Z->Bool)(a:Z->Res (List (List W×X))):Z->FlC Z O:=λs=>match a s with
 |.ok l=>if (l.all λp=>decide (p.1.length+l.length<=aj))=true/\f s=true/\g s=true then .nx s else .bad
 |_=>.bad
theorem JB{j i:Nat}{c:L4->Res D}{a:Z->Res (List (List W×X))}{f g:Z->Bool}(h:∀s,ft (rep s) (some j)=f s)(d:∀s,(rg (rep s) i).isSome=g s)(b:EJ rep (eL (mH (eL e) e')) c a):TJ rep eR (Dv j i c) (GD f g a):=λs=>by
 have b:=b s;unfold Dv GD;cases q:a s with
 |ok l=>
   rw[q]at b;rw[show c (rep s)=.ok (.lst (l.map (mH (eL e) e'))) from b];dsimp only;rw[h,d,List.length_map,List.all_map]
   have:(uB l.length∘mH (eL e) e')=λp:List W×X=>decide (p.1.length+l.length<=aj):=funext λp=>by
    show decide ((p.1.map e).length+l.length<=aj)=_;rw[RH]
   rw[this];split
   ·exact rfl
   ·trivial
 |_=>trivial
@[simp] def Bb(xs:List W)(k:Int):Res (List W):=if 0<=k then .ok (xs.take k.toNat) else .bad
theorem Lj(xs:List W)(k:Int):SimR (eL e) (Ba (eL e xs) (.int k)) (Bb xs k):=by
 show SimR (eL e) (if 0<=k then .ok (.lst ((xs.map e).take k.toNat)) else .bad) (if 0<=k then .ok (xs.take k.toNat) else .bad);rw[<-List.map_take];exact SimR.ite rfl trivial
def Jk(e:W->D)(e':X->D):W×List X->D:=λp=>.lst (e p.1::p.2.map e')
theorem GX{m:L4->Res D}{c:Z->Res W}(h:EJ rep e m c):EJ rep (Jk e e') (gH (ax m a6)) (mT c (λ_=>.ok [])):=λs=>qe h λa=>by
 simp only[a6,Res.bind];rw[RF (by show 1<=aj;decide)];rfl
def Mp[DecidableEq W][DecidableEq X](A:Dat e)(B:Dat e'):Dat (Jk e e'):=⟨λp=>.list (A.py p.1::p.2.map B.py),A.dep+B.dep+1,λp=>by
 show(toPys (e p.1::p.2.map e')).map PyData.list=_;rw[toPys,A.h0,lN B.h0];rfl,λp=>by rw[PyData.canLay0];simp[PyData.canLayAll0,A.lay,jU B.lay],λp=>by
 rw[PyData.depth];simp only[PyData.depthAll];have:=A.depth p.1;have:=il B.depth p.2;omega,λa b=>by
 rw[PyData.eqv];simp only[PyData.eqvAll,A.eqv,j4 B.eqv];obtain⟨i,h⟩:=a;obtain⟨g,f⟩:=b
 by_cases d:i=g<;>by_cases c:h=f<;>simp[d,c],λa b=>by rw[SeqAt.noMix];simp[SeqAt.noMixAll,A.nomix,hE B.nomix]⟩
@[simp] def Ft(g:Z->Option (W×List X))(p:Z->W×List X->Z)(c:Z->Res X):Z->OutC Z Unit:=λs=>match g s with
 |none=>.bad
 |some x=>bndO (c s) s λy=>if x.2.length+1<aj then .ok () (p s (x.1,x.2++[y])) else .bad
theorem Lx{get:L4->Option D}{set:L4->D->L4}{g:Z->Option (W×List X)}{p:Z->W×List X->Z}{m:L4->Res D}{c:Z->Res X}
 (d:∀s,get (rep s)=(g s).map (Jk e e')) (b:∀s x,set (rep s) (Jk e e' x)=rep (p s x)) (a:EJ rep e' m c):NJ rep eN (mU get set jg m) (Ft g p c):=λs=>by
 have a:=a s;unfold mU Ft;rw[d];cases g s with
 |none=>trivial
 |some x=>
   show SimO rep eN (GN set jg (rep s) (e x.1::x.2.map e') (m (rep s))) _;cases q:c s with
   |ok y=>
     rw[q]at a;rw[show m (rep s)=_ from a];show SimO rep eN (w6 set (rep s) (jg (e x.1::x.2.map e') (e' y))) (if x.2.length+1<aj then .ok () (p s (x.1,x.2++[y])) else .bad);unfold jg;rw[List.length_cons,List.length_map];by_cases z:x.2.length+1<aj
     ·rw[RF z,RF z];show Out.ok D.non (set (rep s) (.lst (e x.1::x.2.map e'++[e' y])))=.ok D.non (rep (p s (x.1,x.2++[y])));rw[<-b];show _=Out.ok D.non (set (rep s) (.lst (e x.1::(x.2++[y]).map e')));rw[Sm];rfl
     ·rw[RE z,RE z];trivial
   |exc x=>rw[q]at a;rw[show m (rep s)=_ from a];rfl
   |bad=>trivial
def PM(e:W->D)(e':X->D):W ⊕ X->D:=λx=>match x with | .inl a=>e a | .inr b=>e' b
@[simp] def Ps(a:W):Res (W ⊕ X):=.ok (.inl a)
@[simp] def Pr(b:X):Res (W ⊕ X):=.ok (.inr b)
@[simp] def Ic(x:W ⊕ X):Res W:=match x with | .inl a=>.ok a|_=>.bad
@[simp] def qF(x:W ⊕ X):Res X:=match x with | .inr b=>.ok b|_=>.bad
theorem M4(a:W):SimR (PM e e') (.ok (e a)) (Ps a):=rfl
theorem M3(b:X):SimR (PM e e') (.ok (e' b)) (Pr b):=rfl
theorem Hh(x:W ⊕ X):SimR e (.ok (PM e e' x)) (Ic x):=by cases x<;>trivial
theorem lL(x:W ⊕ X):SimR e' (.ok (PM e e' x)) (qF x):=by cases x<;>trivial
end
end Cl
set_option genInjectivity false
set_option genSizeOf false
open PySem L2 in
theorem L2.Room.mm{j k:Nat}{A:Around}(r:Room k A)(h:j<=k:=by decide):Room j A:=r.mono h
namespace K23
open PySem L2
def top(i:Nat):Stmt:=PySem.Challenge.pw_heraldways_k23_what_is_no_house_or_road.main.body.getD i (.Pass ⟨0,0,0,0⟩)
abbrev Ks:Stmt:=bI (top 10) 0
abbrev BC:Stmt:=bI (top 10) 13
abbrev J8:Stmt:=bI (top 10) 1
abbrev By:Stmt:=bI (top 10) 11
abbrev JV:Stmt:=bI (top 13) 12
abbrev JR:Stmt:=top 15
abbrev BK:Stmt:=top 18
abbrev ue:Stmt:=top 16
abbrev BH:Stmt:=top 24
abbrev BF:Stmt:=top 20
abbrev BE:Stmt:=top 17
abbrev JT:Stmt:=top 12
abbrev BD:Stmt:=top 9
abbrev Ki:Stmt:=bI (top 10) 16
abbrev BM:Stmt:=top 19
abbrev Kq:Stmt:=bI (top 10) 3
abbrev Kn:Stmt:=bI (top 10) 6
abbrev Km:Stmt:=bI (top 10) 7
abbrev Kk:Stmt:=bI (top 10) 2
abbrev Kh:Stmt:=bI (top 10) 18
abbrev Kg:Stmt:=bI (top 10) 17
abbrev Kb:Stmt:=bI (top 10) 9
abbrev J1:Stmt:=bI (top 10) 14
abbrev JX:Stmt:=bI (top 13) 1
abbrev JW:Stmt:=bI (top 13) 3
abbrev Ko:Stmt:=bI (top 10) 4
abbrev Kj:Stmt:=bI (top 10) 12
abbrev Kf:Stmt:=bI (top 10) 8
abbrev J0:Stmt:=bI (top 10) 10
abbrev JY:Stmt:=bI (top 13) 5
abbrev JU:Stmt:=bI (top 13) 13
abbrev qz:Stmt:=top 26
abbrev Bx:Stmt:=bI (top 13) 0
abbrev BL:Stmt:=top 22
abbrev BJ:Stmt:=top 21
abbrev BG:Stmt:=top 23
abbrev BI:Stmt:=top 25
abbrev JS:Stmt:=top 27
theorem Od:FnScope ["self","size"] ["self","size"] (au Ks):=by ac_rfl
theorem Oa:FnScope ["self","pairs","a"] ["self","pairs","a"] (au BC):=by ac_rfl
theorem NW:FnScope ["self"] ["self"] (au J8):=by ac_rfl
theorem NU:FnScope ["self"] ["self"] (au By):=by ac_rfl
theorem HK:FnScope ["self","writer","receiver","road"] ["self","writer","receiver"] (au JV):=by ac_rfl
theorem NO:FnScope ["script","k"] ["script","k"] (au JR):=by ac_rfl
theorem rH:FnScope ["cell","size","fond","k"] ["cell","size"] (au BK):=by ac_rfl
theorem iS:FnScope ["cell","house","size","rest","road","many"] ["cell","house","size"] (au ue):=by ac_rfl
theorem nH:FnScope ["cell","good","bad","size","far","row","at"] ["cell","good","bad","size"] (au BH):=by ac_rfl
theorem lP:FnScope ["cell","size","shy","k","a","b"] ["cell","size"] (au BF):=by ac_rfl
theorem jO:FnScope ["cell","size","seed","ways","k","a","b"] ["cell","size"] (au BE):=by ac_rfl
theorem NP:FnScope ["road"] ["road"] (au JT):=by ac_rfl
theorem JO:FnScope ["houses","count"] ["houses","count"] (au BD):=by ac_rfl
theorem N5:FnScope ["self","houses"] ["self","houses"] (au Ki):=by ac_rfl
theorem nI:FnScope ["cell","size","dear","k","road"] ["cell","size"] (au BM):=by ac_rfl
theorem Oc:FnScope ["self","a","b"] ["self","a","b"] (au Kq):=by ac_rfl
theorem N8:FnScope ["self","a","b","rank"] ["self","a","b","rank"] (au Kn):=by ac_rfl
theorem N7:FnScope ["self","a","b"] ["self","a","b"] (au Km):=by ac_rfl
theorem N6:FnScope ["self","a"] ["self","a"] (au Kk):=by ac_rfl
theorem N0:FnScope ["self","road"] ["self","road"] (au Kh):=by ac_rfl
theorem NZ:FnScope ["self","a","b"] ["self","a","b"] (au Kg):=by ac_rfl
theorem NX:FnScope ["self","a"] ["self","a"] (au Kb):=by ac_rfl
theorem HL:FnScope ["self","other"] ["self"] (au J1):=by ac_rfl
theorem NR:FnScope ["self","a"] ["self","a"] (au JX):=by ac_rfl
theorem NQ:FnScope ["self","a","b"] ["self","a","b"] (au JW):=by ac_rfl
theorem N9:FnScope ["self","a","b"] ["self","a","b"] (au Ko):=by ac_rfl
theorem HM:FnScope ["self","road","wish_rank"] ["self","road"] (au Kj):=by ac_rfl
theorem NY:FnScope ["self","a","b"] ["self","a","b"] (au Kf):=by ac_rfl
theorem NV:FnScope ["self","road","rank"] ["self","road","rank"] (au J0):=by ac_rfl
theorem NS:FnScope ["self","a"] ["self","a"] (au JY):=by ac_rfl
theorem HI:FnScope ["self","writer","receiver"] ["self","writer"] (au JU):=by ac_rfl
theorem rF:FnScope ["guild","size","out","a","likings"] ["guild","size"] (au qz):=by ac_rfl
theorem NT:FnScope ["self","guild"] ["self","guild"] (au Bx):=by ac_rfl
theorem JQ:FnScope ["guild","kind","good","bad"] ["guild","kind","good","bad"] (au BL):=by ac_rfl
theorem iT:FnScope ["size","ways","fond","dear","shy","guild","a","b","pair","key"] ["size","ways","fond","dear","shy"] (au BJ):=by ac_rfl
theorem JP:FnScope ["guild","post","kind","good","bad"] ["guild","post","kind","good","bad"] (au BG):=by ac_rfl
theorem rG:FnScope ["guild","post","kind","good","bad","row","marks","e"] ["guild","post","kind","good","bad","row"] (au BI):=by ac_rfl
theorem eU:FnScope ["script","size","fond","dear","shy","guild","post","good","bad","seen","cell","row","due","a","pair"] ["script"] (au JS):=by ac_rfl
structure Adr where
 C_Guild:Addr
 C_Post:Addr
 C_GuildError:Addr
 C_NoHouse:Addr
 C_WayThere:Addr
 C_NoRoad:Addr
 f_a9:Addr
 d_a9:FuncData
 f_c9:Addr
 d_c9:FuncData
 f_n9:Addr
 d_n9:FuncData
 f_q9:Addr
 d_q9:FuncData
 f_v9:Addr
 d_v9:FuncData
 f_z9:Addr
 d_z9:FuncData
 f_bc9:Addr
 d_bc9:FuncData
 f_bf9:Addr
 d_bf9:FuncData
 f_bg9:Addr
 d_bg9:FuncData
 f_bj9:Addr
 d_bj9:FuncData
 f_bk9:Addr
 d_bk9:FuncData
 f_x9:Addr
 d_x9:FuncData
 f_bl9:Addr
 d_bl9:FuncData
 f_i9:Addr
 d_i9:FuncData
 f_ba9:Addr
 d_ba9:FuncData
 f_b9:Addr
 d_b9:FuncData
 f_e9:Addr
 d_e9:FuncData
 f_f9:Addr
 d_f9:FuncData
 f_g9:Addr
 d_g9:FuncData
 f_j9:Addr
 d_j9:FuncData
 f_k9:Addr
 d_k9:FuncData
 f_m9:Addr
 d_m9:FuncData
 f_o9:Addr
 d_o9:FuncData
 f_t9:Addr
 d_t9:FuncData
 f_u9:Addr
 d_u9:FuncData
 f_d9:Addr
 d_d9:FuncData
 f_h9:Addr
 d_h9:FuncData
 f_l9:Addr
 d_l9:FuncData
 f_p9:Addr
 d_p9:FuncData
 f_s9:Addr
 d_s9:FuncData
 f_w9:Addr
 d_w9:FuncData
 f_bi9:Addr
 d_bi9:FuncData
 f_r9:Addr
 d_r9:FuncData
 f_bb9:Addr
 d_bb9:FuncData
 f_bd9:Addr
 d_bd9:FuncData
 f_bh9:Addr
 d_bh9:FuncData
 f_be9:Addr
 d_be9:FuncData
 f_y9:Addr
 d_y9:FuncData
structure Txt (K:F0) (mg:Str->Option Value) (a:Adr) (base:Heap):Prop where
 cl_Guild:Cls K a.C_Guild
 mgC_Guild:mg "Guild" = some (.ref a.C_Guild)
 mk_Guild:Mk K a.C_Guild a.f_a9
 cl_Post:Cls K a.C_Post
 mgC_Post:mg "Post" = some (.ref a.C_Post)
 mk_Post:Mk K a.C_Post a.f_r9
 n_house_count:NoAttr K a.C_Guild "house_count"
 n_ways:NoAttr K a.C_Guild "ways"
 n_likings:NoAttr K a.C_Guild "likings"
 n_shuns:NoAttr K a.C_Guild "shuns"
 n_wish_ranks:NoAttr K a.C_Guild "wish_ranks"
 n_guild:NoAttr K a.C_Post "guild"
 n_roads:NoAttr K a.C_Post "roads"
 n_told_last:NoAttr K a.C_Post "told_last"
 n_written_last:NoAttr K a.C_Post "written_last"
 n_letters:NoAttr K a.C_Post "letters"
 n_standings:NoAttr K a.C_Post "standings"
 mgC_GuildError:mg "GuildError" = some (.ref a.C_GuildError)
 ek_GuildError:jZ K a.C_GuildError=true
 xa_GuildError:PySem.W.excAt K a.C_GuildError=true
 mgC_NoHouse:mg "NoHouse" = some (.ref a.C_NoHouse)
 ek_NoHouse:jZ K a.C_NoHouse=true
 xa_NoHouse:PySem.W.excAt K a.C_NoHouse=true
 mgC_WayThere:mg "WayThere" = some (.ref a.C_WayThere)
 ek_WayThere:jZ K a.C_WayThere=true
 xa_WayThere:PySem.W.excAt K a.C_WayThere=true
 mgC_NoRoad:mg "NoRoad" = some (.ref a.C_NoRoad)
 ek_NoRoad:jZ K a.C_NoRoad=true
 xa_NoRoad:PySem.W.excAt K a.C_NoRoad=true
 sb_GuildError_GuildError:(iZ K a.C_GuildError).contains (.ref a.C_GuildError)=true
 sb_NoHouse_GuildError:(iZ K a.C_NoHouse).contains (.ref a.C_GuildError)=true
 sb_WayThere_GuildError:(iZ K a.C_WayThere).contains (.ref a.C_GuildError)=true
 sb_NoRoad_GuildError:(iZ K a.C_NoRoad).contains (.ref a.C_GuildError)=true
 kt_GuildError_NoHouse:PySem.W.kitOne K (.ref a.C_GuildError) (.ref a.C_NoHouse)=some false
 kt_GuildError_NoRoad:PySem.W.kitOne K (.ref a.C_GuildError) (.ref a.C_NoRoad)=some false
 kt_GuildError_ValueError:PySem.W.kitOne K (.ref a.C_GuildError) (.type "ValueError")=some true
 kt_NoHouse_NoHouse:PySem.W.kitOne K (.ref a.C_NoHouse) (.ref a.C_NoHouse)=some true
 kt_NoHouse_NoRoad:PySem.W.kitOne K (.ref a.C_NoHouse) (.ref a.C_NoRoad)=some false
 kt_NoHouse_ValueError:PySem.W.kitOne K (.ref a.C_NoHouse) (.type "ValueError")=some true
 kt_WayThere_NoHouse:PySem.W.kitOne K (.ref a.C_WayThere) (.ref a.C_NoHouse)=some false
 kt_WayThere_NoRoad:PySem.W.kitOne K (.ref a.C_WayThere) (.ref a.C_NoRoad)=some false
 kt_WayThere_ValueError:PySem.W.kitOne K (.ref a.C_WayThere) (.type "ValueError")=some true
 kt_NoRoad_NoHouse:PySem.W.kitOne K (.ref a.C_NoRoad) (.ref a.C_NoHouse)=some false
 kt_NoRoad_NoRoad:PySem.W.kitOne K (.ref a.C_NoRoad) (.ref a.C_NoRoad)=some true
 kt_NoRoad_ValueError:PySem.W.kitOne K (.ref a.C_NoRoad) (.type "ValueError")=some true
 F_a9:Fun K "__init__" "Guild.__init__" Ks a.f_a9 a.d_a9
 b_a9:Binds K a.d_a9 ["self","size"] []
 F_c9:Fun K "houses_paired" "Guild.houses_paired" BC a.f_c9 a.d_c9
 b_c9:Binds K a.d_c9 ["self","pairs","a"] []
 me_c9:Meth K a.C_Guild "houses_paired" a.f_c9
 F_n9:Fun K "size" "Guild.size" J8 a.f_n9 a.d_n9
 b_n9:Binds K a.d_n9 ["self"] []
 me_n9:Meth K a.C_Guild "size" a.f_n9
 F_q9:Fun K "wishes" "Guild.wishes" By a.f_q9 a.d_q9
 b_q9:Binds K a.d_q9 ["self"] []
 me_q9:Meth K a.C_Guild "wishes" a.f_q9
 F_v9:Fun K "write_road" "Post.write_road" JV a.f_v9 a.d_v9
 b_v9:Binds K a.d_v9 ["self","writer","receiver"] []
 me_v9:Meth K a.C_Post "write_road" a.f_v9
 F_z9:Fun K "_law_cell_at" "_law_cell_at" JR a.f_z9 a.d_z9
 b_z9:Binds K a.d_z9 ["script","k"] []
 m_z9:mg "_law_cell_at" = some (.ref a.f_z9)
 F_bc9:Fun K "_law_fond_by" "_law_fond_by" BK a.f_bc9 a.d_bc9
 b_bc9:Binds K a.d_bc9 ["cell","size"] []
 m_bc9:mg "_law_fond_by" = some (.ref a.f_bc9)
 F_bf9:Fun K "_law_road_by" "_law_road_by" ue a.f_bf9 a.d_bf9
 b_bf9:Binds K a.d_bf9 ["cell","house","size"] []
 m_bf9:mg "_law_road_by" = some (.ref a.f_bf9)
 F_bg9:Fun K "_law_row_by" "_law_row_by" BH a.f_bg9 a.d_bg9
 b_bg9:Binds K a.d_bg9 ["cell","good","bad","size"] []
 m_bg9:mg "_law_row_by" = some (.ref a.f_bg9)
 F_bj9:Fun K "_law_shy_by" "_law_shy_by" BF a.f_bj9 a.d_bj9
 b_bj9:Binds K a.d_bj9 ["cell","size"] []
 m_bj9:mg "_law_shy_by" = some (.ref a.f_bj9)
 F_bk9:Fun K "_law_ways_by" "_law_ways_by" BE a.f_bk9 a.d_bk9
 b_bk9:Binds K a.d_bk9 ["cell","size"] []
 m_bk9:mg "_law_ways_by" = some (.ref a.f_bk9)
 F_x9:Fun K "copied" "copied" JT a.f_x9 a.d_x9
 b_x9:Binds K a.d_x9 ["road"] []
 m_x9:mg "copied" = some (.ref a.f_x9)
 F_bl9:Fun K "require_within" "require_within" BD a.f_bl9 a.d_bl9
 b_bl9:Binds K a.d_bl9 ["houses","count"] []
 m_bl9:mg "require_within" = some (.ref a.f_bl9)
 F_i9:Fun K "require_houses" "Guild.require_houses" Ki a.f_i9 a.d_i9
 b_i9:Binds K a.d_i9 ["self","houses"] []
 me_i9:Meth K a.C_Guild "require_houses" a.f_i9
 F_ba9:Fun K "_law_dear_by" "_law_dear_by" BM a.f_ba9 a.d_ba9
 b_ba9:Binds K a.d_ba9 ["cell","size"] []
 m_ba9:mg "_law_dear_by" = some (.ref a.f_ba9)
 F_b9:Fun K "has_way" "Guild.has_way" Kq a.f_b9 a.d_b9
 b_b9:Binds K a.d_b9 ["self","a","b"] []
 me_b9:Meth K a.C_Guild "has_way" a.f_b9
 F_e9:Fun K "like" "Guild.like" Kn a.f_e9 a.d_e9
 b_e9:Binds K a.d_e9 ["self","a","b","rank"] []
 me_e9:Meth K a.C_Guild "like" a.f_e9
 F_f9:Fun K "liking" "Guild.liking" Km a.f_f9 a.d_f9
 b_f9:Binds K a.d_f9 ["self","a","b"] []
 me_f9:Meth K a.C_Guild "liking" a.f_f9
 F_g9:Fun K "neighbours" "Guild.neighbours" Kk a.f_g9 a.d_g9
 b_g9:Binds K a.d_g9 ["self","a"] []
 me_g9:Meth K a.C_Guild "neighbours" a.f_g9
 F_j9:Fun K "require_long_road" "Guild.require_long_road" Kh a.f_j9 a.d_j9
 b_j9:Binds K a.d_j9 ["self","road"] []
 me_j9:Meth K a.C_Guild "require_long_road" a.f_j9
 F_k9:Fun K "require_two_houses" "Guild.require_two_houses" Kg a.f_k9 a.d_k9
 b_k9:Binds K a.d_k9 ["self","a","b"] []
 me_k9:Meth K a.C_Guild "require_two_houses" a.f_k9
 F_m9:Fun K "shunned" "Guild.shunned" Kb a.f_m9 a.d_m9
 b_m9:Binds K a.d_m9 ["self","a"] []
 me_m9:Meth K a.C_Guild "shunned" a.f_m9
 F_o9:Fun K "twin" "Guild.twin" J1 a.f_o9 a.d_o9
 b_o9:Binds K a.d_o9 ["self"] []
 me_o9:Meth K a.C_Guild "twin" a.f_o9
 F_t9:Fun K "road" "Post.road" JX a.f_t9 a.d_t9
 b_t9:Binds K a.d_t9 ["self","a"] []
 me_t9:Meth K a.C_Post "road" a.f_t9
 F_u9:Fun K "told" "Post.told" JW a.f_u9 a.d_u9
 b_u9:Binds K a.d_u9 ["self","a","b"] []
 me_u9:Meth K a.C_Post "told" a.f_u9
 F_d9:Fun K "lay_way" "Guild.lay_way" Ko a.f_d9 a.d_d9
 b_d9:Binds K a.d_d9 ["self","a","b"] []
 me_d9:Meth K a.C_Guild "lay_way" a.f_d9
 F_h9:Fun K "rank_of" "Guild.rank_of" Kj a.f_h9 a.d_h9
 b_h9:Binds K a.d_h9 ["self","road"] []
 me_h9:Meth K a.C_Guild "rank_of" a.f_h9
 F_l9:Fun K "shun" "Guild.shun" Kf a.f_l9 a.d_l9
 b_l9:Binds K a.d_l9 ["self","a","b"] []
 me_l9:Meth K a.C_Guild "shun" a.f_l9
 F_p9:Fun K "wish" "Guild.wish" J0 a.f_p9 a.d_p9
 b_p9:Binds K a.d_p9 ["self","road","rank"] []
 me_p9:Meth K a.C_Guild "wish" a.f_p9
 F_s9:Fun K "neighbours_now" "Post.neighbours_now" JY a.f_s9 a.d_s9
 b_s9:Binds K a.d_s9 ["self","a"] []
 me_s9:Meth K a.C_Post "neighbours_now" a.f_s9
 F_w9:Fun K "write_to_all" "Post.write_to_all" JU a.f_w9 a.d_w9
 b_w9:Binds K a.d_w9 ["self","writer"] []
 me_w9:Meth K a.C_Post "write_to_all" a.f_w9
 F_bi9:Fun K "_law_seen" "_law_seen" qz a.f_bi9 a.d_bi9
 b_bi9:Binds K a.d_bi9 ["guild","size"] []
 m_bi9:mg "_law_seen" = some (.ref a.f_bi9)
 F_r9:Fun K "__init__" "Post.__init__" Bx a.f_r9 a.d_r9
 b_r9:Binds K a.d_r9 ["self","guild"] []
 F_bb9:Fun K "_law_first" "_law_first" BL a.f_bb9 a.d_bb9
 b_bb9:Binds K a.d_bb9 ["guild","kind","good","bad"] []
 m_bb9:mg "_law_first" = some (.ref a.f_bb9)
 F_bd9:Fun K "_law_guild_by" "_law_guild_by" BJ a.f_bd9 a.d_bd9
 b_bd9:Binds K a.d_bd9 ["size","ways","fond","dear","shy"] []
 m_bd9:mg "_law_guild_by" = some (.ref a.f_bd9)
 F_bh9:Fun K "_law_second" "_law_second" BG a.f_bh9 a.d_bh9
 b_bh9:Binds K a.d_bh9 ["guild","post","kind","good","bad"] []
 m_bh9:mg "_law_second" = some (.ref a.f_bh9)
 F_be9:Fun K "_law_marks" "_law_marks" BI a.f_be9 a.d_be9
 b_be9:Binds K a.d_be9 ["guild","post","kind","good","bad","row"] []
 m_be9:mg "_law_marks" = some (.ref a.f_be9)
 F_y9:Fun K "law" "law" JS a.f_y9 a.d_y9
 b_y9:Binds K a.d_y9 ["script"] []
 m_y9:mg "law" = some (.ref a.f_y9)
 g_SEAT:∃t,mg "SEAT" = some (.int 0 t)
 g_MOST_HOUSES:∃t,mg "MOST_HOUSES" = some (.int 60 t)
 z_len:mg "len" = none
 z_range:mg "range" = none
 z_min:mg "min" = none
 z_max:mg "max" = none
 z_set:mg "set" = none
 z_list:mg "list" = none
 z_tuple:mg "tuple" = none
 z_isinstance:mg "isinstance" = none
 z_sorted:mg "sorted" = none
 z_ValueError:mg "ValueError" = none
def aJ(a:Adr)(K:F0):Mi.Cm:=⟨λc=>match c with|0=>a.C_Guild|1=>a.C_Post|10=>a.C_GuildError|11=>a.C_NoHouse|13=>a.C_WayThere|14=>a.C_NoRoad|_=>0,K,[]⟩
end K23
namespace K23
open PySem L2 Mi
noncomputable section
def cj:List (Str×Sh):=[("ways",.ct .fz),("likings",.ct .fz),("shuns",.ct .fz),("wish_ranks",.ct .fz)]
def m9:List (Str×Sh):=[("guild",.ob cj),("roads",.ct .fz),("told_last",.ct .fz),("written_last",.ct .fz),("letters",.ct .fz),("standings",.ct (.ct .fz))]
def IX:List Md:=[.O (.ob cj),.F]
def Pd:List Md:=[]
def DY:L4->SO:=ay (gc (aP (Ie (d8 (bn FJ (vr 1) (aM (.int 1)))) (d8 (bn Je (vr 1) (aM (.int 60))))))
 (fk 11)
 bH)
 (ay (cX 0 "house_count" 0 (aP (vr 1)))
 (ay (cX 0 "ways" 0 (aP (aM (.dT [] []))))
 (ay (cX 0 "likings" 0 (aP (aM (.dT [] []))))
 (ay (cX 0 "shuns" 0 (aP (aM (.dT [] []))))
 (cX 0 "wish_ranks" 0 (aP (aM (.dT [] []))))))))
def uF:List D->Out D:=run 2 DY
theorem uD:DY=(ay (gc (aP (Ie (d8 (bn FJ (vr 1) (aM (.int 1)))) (d8 (bn Je (vr 1) (aM (.int 60))))))
 (fk 11)
 bH)
 (ay (cX 0 "house_count" 0 (aP (vr 1)))
 (ay (cX 0 "ways" 0 (aP (aM (.dT [] []))))
 (ay (cX 0 "likings" 0 (aP (aM (.dT [] []))))
 (ay (cX 0 "shuns" 0 (aP (aM (.dT [] []))))
 (cX 0 "wish_ranks" 0 (aP (aM (.dT [] []))))))))):=rfl
def IV:List Md:=[.R,.R,.F]
def Pb:List Md:=[]
def DW:L4->SO:=dF (aP (ko (fA (un (cy 0 "house_count") (vr 0))) [1,2] (d8 (bn (u0 false) (qf (ax (vr 2) (ax (vr 0) a6))) (vr 1))) (vr 0)))
def GL:List D->Out D:=iN 3 DW
def IJ:List Md:=[.R]
def O0:List Md:=[]
def DL:L4->SO:=dF (aP (na (un (cy 0 "house_count") (vr 0))))
def oh:List D->Out D:=run 1 DL
def IG:List Md:=[.R]
def OX:List Md:=[]
def DG:L4->SO:=dF (aP (ko (kH (un rA (un (cy 0 "wish_ranks") (vr 0)))) [0] (λ_=>.ok true) (qf (ax (mY (un gD (vr 0))) (ax (na (bn mI (un (cy 0 "wish_ranks") (vr 1)) (vr 0))) a6)))))
def D0:List D->Out D:=iN 1 DG
def IB:List Md:=[.O (.ob m9),.F,.F]
def OS:List Md:=[.F]
def DB:L4->SO:=ay (bW 3 (aP (bn Er (un (cy 1 "roads") (vr 0)) (vr 1))))
 (ay (gc (aP (d8 (bn (Jh false) (qU (un (cy 1 "written_last") (vr 0)) (qf (ax (vr 1) (ax (vr 2) a6)))) (vr 3))))
 Kw
 bH)
 (ay (ja (i7 1 "written_last" 0) (iM "written_last" 0) (qf (ax (vr 1) (ax (vr 2) a6))) (aP (vr 3)))
 (ja (i7 1 "letters" 0) (iM "letters" 0) (qf (ax (vr 1) (ax (vr 2) a6))) (aP (vr 3)))))
def LO:List D->Out D:=run 4 DB
def Iw:List Md:=[.R,.F]
def OO:List Md:=[]
def Dx:L4->SO:=ay (gc (aP (d8 (bn FJ (vr 1) (un sg (vr 0)))))
 (dF (aP (na (bn Er (vr 0) (vr 1)))))
 bH)
 (dF (aP (aM (.int 0))))
def m_z9:List D->Out D:=run 2 Dx
def Dq:List Md:=[.F,.F]
def LL:List Md:=[.O (.ct .fz),.F]
abbrev Ej:L4->SO:=(ay (bW 0 (aP (bn cR (bn jh (bn r8 (vr 0) (aM (.int 48271))) (aM (.int 11))) (aM (.int 2147483647)))))
 (ja (nG 2) (jA 2) (qf (ax (bn cR (vr 0) (vr 1)) (ax (bn cR (bn fZ (vr 0) (aM (.int 7))) (vr 1)) a6))) (aP (bn mR (bn cR (bn fZ (vr 0) (aM (.int 49))) (aM (.int 7))) (aM (.int 3))))))
def wP:L4->SO:=ay (bW 2 (aP (aM (.dT [] []))))
 (ay (fB (aP (fA (bn cR (vr 0) (aM (.int 5))))) (v2 3)
 Ej)
 (dF (yw 2)))
def m_bc9:List D->Out D:=iN 4 wP
def Dm:List Md:=[.F,.F,.F]
def LH:List Md:=[.O (.ct .fz),.O (.ct .fz),.F]
abbrev Ee:L4->SO:=(ay (aT (Fs 4 (mU (nG 3) (jA 3) CB (bn cR (vr 0) (un sg (vr 3))))))
 (ay (bW 0 (aP (bn fZ (vr 0) (aM (.int 5)))))
 (bW 5 (aP (bn mR (vr 5) (aM (.int 1)))))))
def wM:L4->SO:=ay (bW 3 (aP (ko (zJ (aM (.int 1)) (vr 2)) [1] (d8 (bn (ku true) (vr 0) (vr 1))) (vr 0))))
 (ay (bW 4 (aP (gH (ax (vr 1) a6))))
 (ay (bW 5 (aP (bn cR (vr 0) (aM (.int 4)))))
 (ay (gc (aP (d8 (bn (ku false) (bn cR (bn fZ (vr 0) (aM (.int 4))) (aM (.int 8))) (aM (.int 3)))))
 (bW 5 (aP (vr 2)))
 bH)
 (ay (bW 0 (aP (bn fZ (vr 0) (aM (.int 4)))))
 (ay (zD (aP (Hk (d8 (bn Je (vr 5) (aM (.int 0)))) (d8 (bn Je (un sg (vr 3)) (aM (.int 0))))))
 Ee 100000)
 (dF (aP (bn AH (vr 4) (gH (ax (aM (.int 0)) a6))))))))))
def m_bf9:List D->Out D:=iN 6 wM
def Dl:List Md:=[.F,.F,.F,.F]
def LG:List Md:=[.F,.F,.F]
def wL:L4->SO:=ay (bW 4 (aP (bn jh (aM (.int 1)) (bn cR (vr 1) (bn mR (vr 3) (aM (.int 1)))))))
 (ay (bW 5 (aP (bn Er (gH (ax (gH a6) (ax (gH (ax (aM (.int 0)) a6)) (ax (gH (ax (vr 1) a6)) (ax (gH (ax (vr 1) (ax (vr 4) a6))) (ax (gH (ax (vr 1) (ax (aM (.int 0)) (ax (aM (.int 0)) a6)))) (ax (gH (ax (vr 1) (ax (vr 4) (ax (vr 1) (ax (aM (.int 0)) a6))))) (ax (gH (ax (aM (.int 0)) (ax (vr 1) (ax (aM (.int 0)) a6)))) a6)))))))) (bn cR (vr 0) (aM (.int 7))))))
 (ay (gc (aP (d8 (bn (ku false) (bn cR (bn fZ (vr 0) (aM (.int 7))) (aM (.int 2))) (aM (.int 1)))))
 (ay (bW 6 (aP (bn cR (bn fZ (vr 0) (aM (.int 14))) (bn jh (un sg (vr 5)) (aM (.int 1))))))
 (bW 5 (aP (bn AH (bn AH (bn Ba (vr 5) (vr 6)) (gH (ax (vr 2) a6))) (bn EO (vr 5) (vr 6))))))
 bH)
 (dF (aP (vr 5)))))
def m_bg9:List D->Out D:=run 7 wL
def Di:List Md:=[.F,.F]
def LB:List Md:=[.O (.ct .fz),.F,.F,.F]
abbrev Ec:L4->SO:=(ay (bW 0 (aP (bn cR (bn jh (bn r8 (vr 0) (aM (.int 48271))) (aM (.int 23))) (aM (.int 2147483647)))))
 (ay (bW 4 (aP (bn cR (vr 0) (vr 1))))
 (ay (bW 5 (aP (bn cR (bn jh (bn jh (vr 4) (aM (.int 1))) (bn cR (bn fZ (vr 0) (aM (.int 7))) (bn mR (vr 1) (aM (.int 1))))) (vr 1))))
 (gc (aP (d8 (bn uv (qf (ax (vr 4) (ax (vr 5) a6))) (vr 2))))
 (aT (mU (nG 2) (jA 2) jg (qf (ax (vr 4) (ax (vr 5) a6)))))
 bH))))
def wI:L4->SO:=ay (bW 2 (aP (gH a6)))
 (ay (gc (aP (d8 (bn FJ (vr 1) (aM (.int 2)))))
 (dF (yw 2))
 bH)
 (ay (fB (aP (fA (bn cR (vr 0) (aM (.int 3))))) (v2 3)
 Ec)
 (dF (yw 2))))
def m_bj9:List D->Out D:=iN 6 wI
def Dh:List Md:=[.F,.F]
def LA:List Md:=[.F,.O (.ct .fz),.F,.F,.F]
abbrev w8:L4->SO:=(ay (gc (aP (d8 (bn (ku false) (bn cR (bn Bu (vr 2) (bn cR (vr 4) (aM (.int 29)))) (aM (.int 2))) (aM (.int 1)))))
 (aT (mU (nG 3) (jA 3) jg (qf (ax (vr 5) (ax (vr 6) a6)))))
 bH)
 (bW 4 (aP (bn jh (vr 4) (aM (.int 1))))))
abbrev Eb:L4->SO:=(fB (aP (zJ (bn jh (vr 5) (aM (.int 1))) (vr 1))) (v2 6)
 w8)
def wH:L4->SO:=ay (bW 2 (aP (bn cR (bn r8 (bn cR (bn r8 (bn jh (vr 0) (aM (.int 1))) (aM (.int 48271))) (aM (.int 2147483647))) (aM (.int 16807))) (aM (.int 2147483647)))))
 (ay (bW 3 (aP (gH a6)))
 (ay (bW 4 (aP (aM (.int 0))))
 (ay (fB (aP (fA (vr 1))) (v2 5)
 Eb)
 (dF (yw 3)))))
def m_bk9:List D->Out D:=iN 7 wH
def Iz:List Md:=[.R]
def OQ:List Md:=[]
def Dz:L4->SO:=ay (gc (aP (d8 (bn (Ao false) (vr 0) (aM .non))))
 (dF (aP (aM .non)))
 bH)
 (dF (aP (un gD (mY (vr 0)))))
def m_x9:List D->Out D:=run 1 Dz
def Dg:List Md:=[.R,.F]
def Lz:List Md:=[]
def wG:L4->SO:=gc (aP (Ie (d8 (bn FJ (bn (oM dL) (vr 0) (aM (.int 0))) (aM (.int 0)))) (d8 (bn QU (bn (oM gq) (vr 0) (aM (.int 0))) (vr 1)))))
 (fk 11)
 bH
def m_bl9:List D->Out D:=run 2 wG
def IP:List Md:=[.R,.R]
def O5:List Md:=[]
def DQ:L4->SO:=aT (aP (pc m_bl9 (ax (vr 1) (ax (na (un (cy 0 "house_count") (vr 0))) a6))))
def oi:List D->Out D:=run 2 DQ
def Ds:List Md:=[.F,.F]
def LN:List Md:=[.O (.ct .fz),.F,.F]
abbrev Ek:L4->SO:=(ay (bW 0 (aP (bn cR (bn jh (bn r8 (vr 0) (aM (.int 48271))) (aM (.int 17))) (aM (.int 2147483647)))))
 (ay (bW 4 (aP (pc m_bf9 (ax (bn fZ (vr 0) (aM (.int 9))) (ax (bn jh (aM (.int 1)) (bn cR (vr 0) (bn mR (vr 1) (aM (.int 1))))) (ax (vr 1) a6))))))
 (ja (nG 2) (jA 2) (un A0 (vr 4)) (aP (bn mR (bn cR (bn fZ (vr 0) (aM (.int 5))) (aM (.int 9))) (aM (.int 4)))))))
def wR:L4->SO:=ay (bW 2 (aP (aM (.dT [] []))))
 (ay (gc (aP (d8 (bn FJ (vr 1) (aM (.int 2)))))
 (dF (yw 2))
 bH)
 (ay (fB (aP (fA (bn cR (vr 0) (aM (.int 4))))) (v2 3)
 Ek)
 (dF (yw 2))))
def m_ba9:List D->Out D:=iN 5 wR
def IW:List Md:=[.R,.F,.F]
def Pc:List Md:=[]
def DX:L4->SO:=ay (aT (aP (pm 0 "require_houses" oi (vr 0) (ax (gH (ax (vr 1) (ax (vr 2) a6))) a6))))
 (dF (aP (bn (u0 false) (qf (ax (vr 1) (ax (vr 2) a6))) (un (cy 0 "ways") (vr 0)))))
def GM:List D->Out D:=run 3 DX
def IT:List Md:=[.O (.ob cj),.F,.F,.F]
def O9:List Md:=[]
def DU:L4->SO:=ay (aT (aP (pm 0 "require_houses" oi (vr 0) (ax (gH (ax (vr 1) (ax (vr 2) a6))) a6))))
 (ja (i7 0 "likings" 0) (iM "likings" 0) (qf (ax (vr 1) (ax (vr 2) a6))) (aP (vr 3)))
def D2:List D->Out D:=run 4 DU
def IS:List Md:=[.R,.F,.F]
def O8:List Md:=[]
def DT:L4->SO:=ay (aT (aP (pm 0 "require_houses" oi (vr 0) (ax (gH (ax (vr 1) (ax (vr 2) a6))) a6))))
 (dF (aP (na (EF (un (cy 0 "likings") (vr 0)) (qf (ax (vr 1) (ax (vr 2) a6))) (aM (.int 0))))))
def Af:List D->Out D:=run 3 DT
def IR:List Md:=[.R,.F]
def O7:List Md:=[]
def DS:L4->SO:=ay (aT (aP (pm 0 "require_houses" oi (vr 0) (ax (gH (ax (vr 1) a6)) a6))))
 (dF (aP (pm 0 "houses_paired" GL (vr 0) (ax (un (cy 0 "ways") (vr 0)) (ax (vr 1) a6)))))
def wZ:List D->Out D:=iN 2 DS
def IN:List Md:=[.R,.R]
def O4:List Md:=[]
def DP:L4->SO:=ay (aT (aP (pm 0 "require_houses" oi (vr 0) (ax (vr 1) a6))))
 (ay (gc (aP (d8 (bn FJ (un sg (vr 1)) (aM (.int 2)))))
 (fk 14)
 bH)
 (ay (gc (aP (d8 (bn (ku true) (bn Er (vr 1) (un GB (aM (.int 1)))) (aM (.int 0)))))
 (fk 14)
 bH)
 (gc (aP (d8 (bn (ku true) (un oz (vr 1)) (un sg (vr 1)))))
 (fk 14)
 bH)))
def GJ:List D->Out D:=run 2 DP
def IM:List Md:=[.R,.F,.F]
def O3:List Md:=[]
def DO:L4->SO:=ay (aT (aP (pm 0 "require_houses" oi (vr 0) (ax (gH (ax (vr 1) (ax (vr 2) a6))) a6))))
 (gc (aP (d8 (bn (ku false) (vr 1) (vr 2))))
 (fk 11)
 bH)
def GI:List D->Out D:=run 3 DO
def IK:List Md:=[.R,.F]
def O1:List Md:=[]
def DM:L4->SO:=ay (aT (aP (pm 0 "require_houses" oi (vr 0) (ax (gH (ax (vr 1) a6)) a6))))
 (dF (aP (pm 0 "houses_paired" GL (vr 0) (ax (un (cy 0 "shuns") (vr 0)) (ax (vr 1) a6)))))
def Ad:List D->Out D:=iN 2 DM
def II:List Md:=[.R]
def OZ:List Md:=[.O (.ob cj)]
def DK:L4->SO:=ay (bW 1 (aP (pk 0 uF (ax (na (un (cy 0 "house_count") (vr 0))) a6))))
 (ay (aT (t3 (i7 0 "ways" 1) (iM "ways" 1) (un (cy 0 "ways") (vr 0))))
 (ay (aT (t3 (i7 0 "likings" 1) (iM "likings" 1) (un (cy 0 "likings") (vr 0))))
 (ay (aT (t3 (i7 0 "shuns" 1) (iM "shuns" 1) (un (cy 0 "shuns") (vr 0))))
 (ay (aT (t3 (i7 0 "wish_ranks" 1) (iM "wish_ranks" 1) (un (cy 0 "wish_ranks") (vr 0))))
 (dF (yw 1))))))
def wY:List D->Out D:=iN 2 DK
def ID:List Md:=[.R,.F]
def OU:List Md:=[]
def DD:L4->SO:=ay (aT (aP (pm 0 "require_houses" oi (un (cy 1 "guild") (vr 0)) (ax (gH (ax (vr 1) a6)) a6))))
 (dF (aP (pc m_x9 (ax (bn Er (un (cy 1 "roads") (vr 0)) (vr 1)) a6))))
def LQ:List D->Out D:=run 2 DD
def IC:List Md:=[.R,.F,.F]
def OT:List Md:=[]
def DC:L4->SO:=ay (aT (aP (pm 0 "require_houses" oi (un (cy 1 "guild") (vr 0)) (ax (gH (ax (vr 1) (ax (vr 2) a6))) a6))))
 (dF (aP (pc m_x9 (ax (qU (un (cy 1 "told_last") (vr 0)) (qf (ax (vr 1) (ax (vr 2) a6)))) a6))))
def GG:List D->Out D:=run 3 DC
def IU:List Md:=[.O (.ob cj),.F,.F]
def Pa:List Md:=[]
def DV:L4->SO:=ay (aT (aP (pm 0 "require_two_houses" GI (vr 0) (ax (vr 1) (ax (vr 2) a6)))))
 (ay (gc (aP (d8 (bn (u0 false) (qf (ax (vr 1) (ax (vr 2) a6))) (un (cy 0 "ways") (vr 0)))))
 (fk 13)
 bH)
 (ay (ja (i7 0 "ways" 0) (iM "ways" 0) (qf (ax (vr 1) (ax (vr 2) a6))) (aP (aM (.bl true))))
 (ja (i7 0 "ways" 0) (iM "ways" 0) (qf (ax (vr 2) (ax (vr 1) a6))) (aP (aM (.bl true))))))
def LU:List D->Out D:=run 3 DV
def IQ:List Md:=[.R,.R]
def O6:List Md:=[.F]
def DR:L4->SO:=ay (aT (aP (pm 0 "require_long_road" GJ (vr 0) (ax (vr 1) a6))))
 (ay (bW 2 (aP (na (qU (un (cy 0 "wish_ranks") (vr 0)) (un A0 (mY (vr 1)))))))
 (ay (gc (aP (d8 (bn (Ao false) (vr 2) (aM .non))))
 (dF (aP (pm 0 "liking" Af (vr 0) (ax (na (bn Er (vr 1) (aM (.int 0)))) (ax (na (bn Er (vr 1) (aM (.int 1)))) a6)))))
 bH)
 (dF (aP (vr 2)))))
def GK:List D->Out D:=run 3 DR
def IL:List Md:=[.O (.ob cj),.F,.F]
def O2:List Md:=[]
def DN:L4->SO:=ay (aT (aP (pm 0 "require_two_houses" GI (vr 0) (ax (vr 1) (ax (vr 2) a6)))))
 (ja (i7 0 "shuns" 0) (iM "shuns" 0) (qf (ax (vr 1) (ax (vr 2) a6))) (aP (aM (.bl true))))
def Ae:List D->Out D:=run 3 DN
def IH:List Md:=[.O (.ob cj),.R,.F]
def OY:List Md:=[]
def DH:L4->SO:=ay (aT (aP (pm 0 "require_long_road" GJ (vr 0) (ax (vr 1) a6))))
 (ja (i7 0 "wish_ranks" 0) (iM "wish_ranks" 0) (un A0 (mY (vr 1))) (aP (vr 2)))
def D1:List D->Out D:=run 3 DH
def IE:List Md:=[.R,.F]
def OV:List Md:=[]
def DE:L4->SO:=dF (aP (pm 0 "neighbours" wZ (un (cy 1 "guild") (vr 0)) (ax (vr 1) a6)))
def LR:List D->Out D:=iN 2 DE
def IA:List Md:=[.O (.ob m9),.F]
def OR:List Md:=[.F]
abbrev GP:L4->SO:=(aT (mm 1 "write_road" [(.O 0),.F,.F] LO (vr 0) (ax (vr 1) (ax (vr 2) a6))))
def DA:L4->SO:=fB (aP (kH (pm 0 "neighbours" wZ (un (cy 1 "guild") (vr 0)) (ax (vr 1) a6)))) (v2 2)
 GP
def og:List D->Out D:=run 3 DA
def Dj:List Md:=[.R,.F]
def LC:List Md:=[.O (.ct .fz),.F,.F]
abbrev Ed:L4->SO:=(ay (bW 4 (aP (ko (fA (vr 1)) [3,0] (λ_=>.ok true) (pm 0 "liking" Af (vr 2) (ax (vr 1) (ax (vr 0) a6))))))
 (aT (mU (nG 2) (jA 2) jg (gH (ax (un gD (pm 0 "shunned" Ad (vr 0) (ax (vr 3) a6))) (ax (un gD (pm 0 "neighbours" wZ (vr 0) (ax (vr 3) a6))) (ax (vr 4) a6)))))))
def wJ:L4->SO:=ay (bW 2 (aP (gH (ax (ko (kH (pm 0 "wishes" D0 (vr 0) a6)) [] (λ_=>.ok true) (qf (ax (un gD (bn I8 (vr 0) (aM (.int 0)))) (ax (bn I8 (vr 0) (aM (.int 1))) a6)))) a6))))
 (ay (fB (aP (fA (vr 1))) (v2 3)
 Ed)
 (dF (yw 2)))
def m_bi9:List D->Out D:=iN 5 wJ
def IF:List Md:=[.O (.ob m9),.R]
def OW:List Md:=[]
def DF:L4->SO:=ay (cX 1 "guild" 0 (aP (pm 0 "twin" wY (vr 1) a6)))
 (ay (cX 1 "roads" 0 (aP (bn wn (gH (ax (aM .non) a6)) (pm 0 "size" oh (vr 1) a6))))
 (ay (uG (i7 1 "roads" 0) (iM "roads" 0) (aM (.int 0)) (aP (gH (ax (aM (.int 0)) a6))))
 (ay (cX 1 "told_last" 0 (aP (aM (.dT [] []))))
 (ay (cX 1 "written_last" 0 (aP (aM (.dT [] []))))
 (ay (cX 1 "letters" 0 (aP (aM (.dT [] []))))
 (ay (cX 1 "standings" 0 (aP (ko (fA (pm 0 "size" oh (vr 1) a6)) [] (λ_=>.ok true) (aM (.dK [] [])))))
 (aT (mm 1 "write_to_all" [(.O 0),.F] og (vr 0) (ax (aM (.int 0)) a6)))))))))
def wX:List D->Out D:=run 2 DF
theorem uC:DF=(ay (cX 1 "guild" 0 (aP (pm 0 "twin" wY (vr 1) a6)))
 (ay (cX 1 "roads" 0 (aP (bn wn (gH (ax (aM .non) a6)) (pm 0 "size" oh (vr 1) a6))))
 (ay (uG (i7 1 "roads" 0) (iM "roads" 0) (aM (.int 0)) (aP (gH (ax (aM (.int 0)) a6))))
 (ay (cX 1 "told_last" 0 (aP (aM (.dT [] []))))
 (ay (cX 1 "written_last" 0 (aP (aM (.dT [] []))))
 (ay (cX 1 "letters" 0 (aP (aM (.dT [] []))))
 (ay (cX 1 "standings" 0 (aP (ko (fA (pm 0 "size" oh (vr 1) a6)) [] (λ_=>.ok true) (aM (.dK [] [])))))
 (aT (mm 1 "write_to_all" [(.O 0),.F] og (vr 0) (ax (aM (.int 0)) a6)))))))))):=rfl
def Dr:List Md:=[.O (.ob cj),.F,.F,.F]
def LM:List Md:=[]
def wQ:L4->SO:=ay (gc (aP (d8 (bn (ku false) (vr 1) (aM (.int 0)))))
 (aT (aP (pm 0 "neighbours" wZ (vr 0) (ax (vr 3) a6))))
 bH)
 (ay (gc (aP (d8 (bn (ku false) (vr 1) (aM (.int 1)))))
 (aT (aP (pm 0 "has_way" GM (vr 0) (ax (vr 3) (ax (vr 2) a6)))))
 bH)
 (ay (gc (aP (d8 (bn (ku false) (vr 1) (aM (.int 2)))))
 (aT (aP (pm 0 "has_way" GM (vr 0) (ax (vr 2) (ax (vr 3) a6)))))
 bH)
 (ay (gc (aP (d8 (bn (ku false) (vr 1) (aM (.int 3)))))
 (aT (mm 0 "like" [(.O 0),.F,.F,.F] D2 (vr 0) (ax (vr 3) (ax (vr 2) (ax (aM (.int 1)) a6)))))
 bH)
 (ay (gc (aP (d8 (bn (ku false) (vr 1) (aM (.int 4)))))
 (aT (mm 0 "like" [(.O 0),.F,.F,.F] D2 (vr 0) (ax (vr 2) (ax (vr 3) (ax (aM (.int 1)) a6)))))
 bH)
 (ay (gc (aP (d8 (bn (ku false) (vr 1) (aM (.int 5)))))
 (aT (aP (pm 0 "liking" Af (vr 0) (ax (vr 3) (ax (vr 2) a6)))))
 bH)
 (ay (gc (aP (d8 (bn (ku false) (vr 1) (aM (.int 6)))))
 (aT (aP (pm 0 "liking" Af (vr 0) (ax (vr 2) (ax (vr 3) a6)))))
 bH)
 (ay (gc (aP (d8 (bn (ku false) (vr 1) (aM (.int 7)))))
 (aT (mm 0 "shun" [(.O 0),.F,.F] Ae (vr 0) (ax (vr 3) (ax (vr 2) a6))))
 bH)
 (ay (gc (aP (d8 (bn (ku false) (vr 1) (aM (.int 8)))))
 (aT (mm 0 "shun" [(.O 0),.F,.F] Ae (vr 0) (ax (vr 2) (ax (vr 3) a6))))
 bH)
 (ay (gc (aP (d8 (bn (ku false) (vr 1) (aM (.int 9)))))
 (aT (mm 0 "shun" [(.O 0),.F,.F] Ae (vr 0) (ax (vr 2) (ax (vr 2) a6))))
 bH)
 (gc (aP (d8 (bn (ku false) (vr 1) (aM (.int 10)))))
 (aT (aP (pm 0 "shunned" Ad (vr 0) (ax (vr 3) a6))))
 bH))))))))))
def m_bb9:List D->Out D:=run 4 wQ
def Dp:List Md:=[.F,.R,.R,.R,.R]
def LK:List Md:=[.O (.ob cj),.R,.R,.R,.R]
abbrev Ei:L4->SO:=(aT (mm 0 "lay_way" [(.O 5),.F,.F] LU (vr 5) (ax (na (vr 6)) (ax (na (vr 7)) a6))))
abbrev Eh:L4->SO:=(aT (mm 0 "like" [(.O 5),.F,.F,.F] D2 (vr 5) (ax (na (bn I8 (vr 8) (aM (.int 0)))) (ax (na (bn I8 (vr 8) (aM (.int 1)))) (ax (na (bn mI (vr 2) (vr 8))) a6)))))
abbrev Eg:L4->SO:=(aT (mm 0 "wish" [(.O 5),.F,.F] D1 (vr 5) (ax (un gD (mY (vr 9))) (ax (na (bn mI (vr 3) (vr 9))) a6))))
abbrev Ef:L4->SO:=(aT (mm 0 "shun" [(.O 5),.F,.F] Ae (vr 5) (ax (na (vr 6)) (ax (na (vr 7)) a6))))
def wO:L4->SO:=ay (bW 5 (aP (pk 0 uF (ax (vr 0) a6))))
 (ay (fB (aP (kH (vr 1))) (JC 6 7)
 Ei)
 (ay (fB (aP (kH (un yA (vr 2)))) (v2 8)
 Eh)
 (ay (fB (aP (kH (un yA (vr 3)))) (v2 9)
 Eg)
 (ay (fB (aP (kH (vr 4))) (JC 6 7)
 Ef)
 (dF (yw 5))))))
def m_bd9:List D->Out D:=iN 10 wO
def Dk:List Md:=[.O (.ob cj),.R,.F,.F,.F]
def LD:List Md:=[]
def wK:L4->SO:=ay (gc (aP (d8 (bn (ku false) (vr 2) (aM (.int 11)))))
 (aT (mm 0 "wish" [(.O 0),.F,.F] D1 (vr 0) (ax (gH (ax (vr 4) (ax (aM (.int 0)) a6))) (ax (aM (.int 1)) a6))))
 bH)
 (ay (gc (aP (d8 (bn (ku false) (vr 2) (aM (.int 12)))))
 (aT (aP (pm 0 "rank_of" GK (vr 0) (ax (gH (ax (vr 3) (ax (vr 4) (ax (aM (.int 0)) a6)))) a6))))
 bH)
 (ay (gc (aP (d8 (bn (ku false) (vr 2) (aM (.int 13)))))
 (aT (aP (pm 1 "road" LQ (vr 1) (ax (vr 4) a6))))
 bH)
 (ay (gc (aP (d8 (bn (ku false) (vr 2) (aM (.int 14)))))
 (aT (aP (pm 1 "told" GG (vr 1) (ax (vr 4) (ax (vr 3) a6)))))
 bH)
 (ay (gc (aP (d8 (bn (ku false) (vr 2) (aM (.int 15)))))
 (aT (aP (pm 1 "told" GG (vr 1) (ax (vr 3) (ax (vr 4) a6)))))
 bH)
 (gc (aP (d8 (bn (ku false) (vr 2) (aM (.int 16)))))
 (aT (aP (pm 1 "neighbours_now" LR (vr 1) (ax (vr 4) a6))))
 bH)))))
def m_bh9:List D->Out D:=run 5 wK
def Do:List Md:=[.O (.ob cj),.R,.F,.F,.F,.F]
def LJ:List Md:=[.O (.ct .fz),.F]
def wN:L4->SO:=ay (bW 6 (aP (gH a6)))
 (ay (A5 (some 7) (MU [10,11,13,14]) (gc (aP (d8 (bn (ku false) (vr 2) (aM (.int 17))))) (aT (mm 0 "wish" [(.O 0),.F,.F] D1 (vr 0) (ax (vr 5) (ax (aM (.int 1)) a6)))) (gc (aP (d8 (bn (ku false) (vr 2) (aM (.int 18))))) (aT (aP (pm 0 "rank_of" GK (vr 0) (ax (vr 5) a6)))) (ay (aT (mc [(.O 0),.F,.F,.F] m_bb9 (ax (vr 0) (ax (vr 2) (ax (vr 3) (ax (vr 4) a6)))))) (aT (mc [(.O 0),.U,.F,.F,.F] m_bh9 (ax (vr 0) (ax (vr 1) (ax (vr 2) (ax (vr 3) (ax (vr 4) a6)))))))))) λc=>(bW 6 (aP (gH (ax (aM (.bl (match c with|10=>false|11=>true|13=>false|14=>false|_=>false))) (ax (aM (.bl (match c with|10=>false|11=>false|13=>false|14=>true|_=>false))) (ax (aM (.bl (match c with|10=>true|11=>true|13=>true|14=>true|_=>false))) a6)))))))
 (dF (yw 6)))
def m_be9:List D->Out D:=iN 8 wN
def Iy:List Md:=[.R]
def OP:List Md:=[.F,.F,.F,.F,.O (.ob cj),.O (.ob m9),.F,.F,.F,.F,.F,.F,.F,.F]
abbrev Ea:L4->SO:=(ay (bW 11 (aP (pc m_bg9 (ax (bn fZ (vr 10) (aM (.int 19))) (ax (vr 7) (ax (vr 8) (ax (vr 1) a6)))))))
 (ay (bW 12 (aP (gH (ax (aM (.bl true)) (ax (aM (.bl false)) (ax (aM (.bl true)) a6))))))
 (ay (gc (aP (Hk (d8 (bn Je (bn cR (vr 10) (aM (.int 19))) (aM (.int 16)))) (d8 (bn uv (vr 8) (vr 11)))))
 (bW 12 (aP (gH (ax (aM (.bl false)) (ax (aM (.bl true)) (ax (aM (.bl true)) a6))))))
 bH)
 (gc (A4 (Rn (Jh true) (mc [(.O 5),(.Bo 6),.F,.F,.F,.F] m_be9 (ax (vr 5) (ax (vr 6) (ax (bn cR (vr 10) (aM (.int 19))) (ax (vr 7) (ax (vr 8) (ax (vr 11) a6))))))) (aP (vr 12))))
 (dF (aP (aM (.bl false))))
 bH))))
abbrev D9:L4->SO:=(ay (aT (v8 (pm 0 "neighbours" wZ (vr 5) (ax (vr 13) a6)) (vr 8)))
 (aT (v8 (pm 0 "shunned" Ad (vr 5) (ax (vr 13) a6)) (vr 8))))
def Dy:L4->SO:=ay (bW 1 (aP (bn jh (aM (.int 2)) (bn cR (pc m_z9 (ax (vr 0) (ax (aM (.int 0)) a6))) (aM (.int 8))))))
 (ay (bW 2 (aP (pc m_bc9 (ax (pc m_z9 (ax (vr 0) (ax (aM (.int 2)) a6))) (ax (vr 1) a6)))))
 (ay (bW 3 (aP (pc m_ba9 (ax (pc m_z9 (ax (vr 0) (ax (aM (.int 3)) a6))) (ax (vr 1) a6)))))
 (ay (bW 4 (aP (pc m_bj9 (ax (pc m_z9 (ax (vr 0) (ax (aM (.int 4)) a6))) (ax (vr 1) a6)))))
 (ay (bW 5 (aP (pc m_bd9 (ax (vr 1) (ax (pc m_bk9 (ax (pc m_z9 (ax (vr 0) (ax (aM (.int 1)) a6))) (ax (vr 1) a6))) (ax (vr 2) (ax (vr 3) (ax (vr 4) a6))))))))
 (ay (bW 6 (aP (pk 1 wX (ax (vr 5) a6))))
 (ay (bW 7 (aP (bn jh (aM (.int 1)) (bn cR (pc m_z9 (ax (vr 0) (ax (aM (.int 5)) a6))) (bn mR (vr 1) (aM (.int 1)))))))
 (ay (bW 8 (aP (gH (ax (un GB (aM (.int 1))) (ax (vr 1) (ax (bn mR (bn mR (aM (.int 0)) (aM (.int 1))) (bn cR (pc m_z9 (ax (vr 0) (ax (aM (.int 6)) a6))) (bn zX (aM (.int 10)) (aM (.int 9))))) (ax (bn jh (vr 1) (bn cR (pc m_z9 (ax (vr 0) (ax (aM (.int 6)) a6))) (bn zX (aM (.int 10)) (aM (.int 9))))) a6)))))))
 (ay (bW 8 (aP (bn Er (vr 8) (bn cR (pc m_z9 (ax (vr 0) (ax (aM (.int 7)) a6))) (aM (.int 4))))))
 (ay (bW 9 (aP (pc m_bi9 (ax (vr 5) (ax (vr 1) a6)))))
 (ay (fB (aP (kH (gH (ax (pc m_z9 (ax (vr 0) (ax (aM (.int 8)) a6))) (ax (pc m_z9 (ax (vr 0) (ax (aM (.int 9)) a6))) (ax (pc m_z9 (ax (vr 0) (ax (aM (.int 10)) a6))) a6)))))) (v2 10)
 Ea)
 (ay (fB (aP (fA (vr 1))) (v2 13)
 D9)
 (ay (aT (v8 (pm 0 "shunned" Ad (vr 5) (ax (vr 7) a6)) (aM (.int 0))))
 (ay (Dv 14 8 (pm 0 "wishes" D0 (vr 5) a6))
 (ay (aT (A8 (pm 0 "wishes" D0 (vr 5) a6)))
 (dF (aP (bn (Jh false) (pc m_bi9 (ax (vr 5) (ax (vr 1) a6))) (vr 9))))))))))))))))))
def m_y9:List D->Out D:=run 15 Dy
end
variable{P:Program}{w:World}{K:F0}{mg:Str->Option Value}{base:Heap}{a:Adr}
theorem Iq(T:Txt K mg a base):FnOk P w K mg base (eu P w) 1 a.f_a9 a.d_a9 ["self","size"] (dO (aJ a K) IX (KR (aJ a K) .F) uF):=by
 obtain⟨b,g_MOST_HOUSES⟩:=T.g_MOST_HOUSES;refine T.F_a9.okX Od (λ_ _ _ _=>aQ) (λ_ _ _ _ _ _ _ _ d h=>?_)
 refine⟨_,(ae (bO (PW.pt (HZ (aK qG (pv 1) ah (a8 _)) (Cq (aK yo (pv 1) (fJ rfl g_MOST_HOUSES (v:=.int 60) ⟨_,rfl⟩) (a8 _))))) (ai (fQ g8 rfl rfl T.mgC_NoHouse T.ek_NoHouse (aa jP ac))) aV)
  (ae (fS (pv 0) (pv 1) rfl)
  (ae (fS (pv 0) dR rfl)
  (ae (fS (pv 0) dR rfl)
  (ae (fS (pv 0) dR rfl)
  (ai (fS (pv 0) dR rfl))))))),?_⟩
 refine bg (Y:=aJ a K) (ms:=IX) (more:=Pd) (body:=DY) ?_ rfl rfl (λ_ _ _=>fi) h
 exact(ar (cQ (ba (H8 (cw (fx (aH zS (fx (fF 1)) (fx pI)))) (cw (fx (aH Ge (fx (fF 1)) (fx pI)))))) (g6 (c:=11)) bN)
  (ar (Kl (c:=0) (i:=0) T.cl_Guild T.n_house_count rfl rfl (ba (fF 1)))
  (ar (gC (c:=0) (i:=0) T.cl_Guild T.n_ways rfl rfl (ba kN))
  (ar (gC (c:=0) (i:=0) T.cl_Guild T.n_likings rfl rfl (ba kN))
  (ar (gC (c:=0) (i:=0) T.cl_Guild T.n_shuns rfl rfl (ba kN))
  (gC (c:=0) (i:=0) T.cl_Guild T.n_wish_ranks rfl rfl (ba kN)))))))
theorem E7:CompSc (au BC) (Gd.kS (Gd.t6 (Gd.nth (d4 BC) 0))) "b" ["pairs","a"]:=by ac_rfl
theorem Im(T:Txt K mg a base):FnOk P w K mg base (eu P w) 1 a.f_c9 a.d_c9 ["self","pairs","a"] (dO (aJ a K) IV (KO (aJ a K) (.ct .fz)) GL):=by
 refine T.F_c9.okX Oa (λ_ _ _ _=>aQ) (λ_ _ _ _ _ _ _ _ d h=>?_);have b:=gu d;refine⟨_,(ai (bC (ni rfl (dg rfl T.z_range (aa (aW K rfl (pv 0) rfl) ac)) E7 (ix:=[1,2]) rfl (λ_ _ _ _=>yg (Cu (wt b (cN (aa (pv 2) (aa (pv 0) ac))) (pv 1)))) (λ_ _ _ _=>(pv 0))))),?_⟩;refine bT (Y:=aJ a K) (ms:=IV) (more:=Pb) (body:=DW) ?_ rfl rfl h;exact(cg (ba (kO (ix:=[1,2]) (sr (ux (dG (c:=0) T.cl_Guild T.n_house_count (rc (fR 0))))) (by decide) (Ol (fx (CL (fx (eV (ag (fF 2) (ag (fF 0) aL)))) (rc (fR 1))))) (fF 0))))
theorem Ii(T:Txt K mg a base):FnOk P w K mg base (eu P w) 1 a.f_n9 a.d_n9 ["self"] (dO (aJ a K) IJ (KR (aJ a K) .F) oh):=by
 refine T.F_n9.okX NW (λ_ _ _ _=>aQ) (λ_ _ _ _ _ _ _ _ b h=>?_);refine⟨_,(ai (bC (aW K rfl (pv 0) rfl))),?_⟩;refine bg (Y:=aJ a K) (ms:=IJ) (more:=O0) (body:=DL) ?_ rfl rfl (λ_ _ _=>fi) h;exact(cg (ba (rS (k:= .X) (ux (dG (c:=0) T.cl_Guild T.n_house_count (rc (fR 0)))))))
theorem E6:CompSc (au By) (Gd.kS (Gd.t6 (Gd.nth (d4 By) 0))) "road" ["self"]:=by ac_rfl
theorem CU(T:Txt K mg a base):FnOk P w K mg base (eu P w) 1 a.f_q9 a.d_q9 ["self"] (dO (aJ a K) IG (Fy (aJ a K)) D0):=by
 refine T.F_q9.okX NU (λ_ _ _ _=>aQ) (λ_ _ _ _ _ _ _ _ d h=>?_);have b:=gu d;refine⟨_,(ai (bC (ni rfl (dQ K rfl (cU (xA rfl) rfl T.z_sorted Gd.AO (aa (aW K rfl (pv 0) rfl) ac))) E6 (ix:=[0]) rfl (λ_ _ _ _=>nh) (λ_ _ _ _=>(cN (aa (ci (cK K rfl) rfl T.z_list Gd.gx (aa (pv 0) ac)) (aa (rT b (aW K rfl (pv 1) rfl) (pv 0) (λ_ _=>rfl)) ac))))))),?_⟩;refine bT (Y:=aJ a K) (ms:=IG) (more:=OX) (body:=DG) ?_ rfl rfl h;exact(cg (ba (CN (ix:=[0]) (Ey (oc (Gr (rc (dG (c:=0) T.cl_Guild T.n_wish_ranks (rc (fR 0))))))) (by decide) rO (KS (oG (lR (rc (fF 0)))) (ux (wx (rc (dG (c:=0) T.cl_Guild T.n_wish_ranks (rc (fR 1)))) (fx (fF 0))))))))
theorem OA(T:Txt K mg a base):FnOk P w K mg base (eu P w) 1 a.f_v9 a.d_v9 ["self","writer","receiver"] (dO (aJ a K) IB (KR (aJ a K) .F) LO):=by
 refine T.F_v9.okX HK (λ_ _ _ _=>aQ) (λ_ _ _ _ _ _ _ _ e h=>?_);have d:=gu e;have b:=e.units
 refine⟨_,(ae (a7 (i:=3) HK.nd rfl (Or.inl rfl) (gN (fc K rfl) (aW K rfl (pv 0) rfl) (pv 1) (λ_ _=>rfl)))
  (ae (bO (aK (yp K rfl b) (nP d (aW K rfl (pv 0) rfl) (cN (aa (pv 1) (aa (pv 2) ac))) ⟨rfl,rfl,rfl,rfl⟩) (pv 3) (a8 _)) (ai Gm) aV)
  (ae (fI d (aW K rfl (pv 0) rfl) (cN (aa (pv 1) (aa (pv 2) ac))) (pv 3) rfl)
  (ai (fI d (aW K rfl (pv 0) rfl) (cN (aa (pv 1) (aa (pv 2) ac))) (pv 3) rfl))))),?_⟩
 refine bg (Y:=aJ a K) (ms:=IB) (more:=OS) (body:=DB) ?_ rfl rfl (λ_ _ _=>fi) h
 exact(ar (br (i:=3) (ba (mf (wv (c:=1) (i:=0) T.cl_Post T.n_roads rfl rfl) (fx (fF 1)))) rfl rfl)
  (ar (cQ (ba (cw (fx (aH wg (fx (rY (wv (c:=1) (i:=0) T.cl_Post T.n_written_last rfl rfl) (fx (eV (ag (fF 1) (ag (fF 2) aL)))))) (fx (fF 3)))))) (JZ λ_ _ _=>fi) bN)
  (ar (g7 (mS (c:=1) (i:=0) T.cl_Post T.n_written_last rfl rfl) (fx (eV (ag (fF 1) (ag (fF 2) aL)))) (ba (fF 3)))
  (g7 (mS (c:=1) (i:=0) T.cl_Post T.n_letters rfl rfl) (fx (eV (ag (fF 1) (ag (fF 2) aL)))) (ba (fF 3))))))
theorem iE(T:Txt K mg a base):FnOk P w K mg base (eu P w) 1 a.f_z9 a.d_z9 ["script","k"] (dO (aJ a K) Iw (KR (aJ a K) .F) m_z9):=by
 refine T.F_z9.okX NO (λ_ _ _ _=>aQ) (λ_ _ _ _ _ _ _ _ b h=>?_)
 refine⟨_,(ae (bO (aK qG (pv 1) (cU (cL K rfl) rfl T.z_len Gd.kq (aa (pv 0) ac)) (a8 _)) (ai (bC (gN (fc K rfl) (pv 0) (pv 1) (λ_ _=>rfl)))) aV)
  (ai (bC ah))),?_⟩
 refine bg (Y:=aJ a K) (ms:=Iw) (more:=OO) (body:=Dx) ?_ rfl rfl (λ_ _ _=>fi) h
 exact(ar (cQ (ba (cw (fx (aH zS (fx (fF 1)) (fx (qE qy (ux (fR 0)))))))) (cg (ba (rS (k:= .X) (ux (mf (rc (fR 0)) (fx (fF 1))))))) bN)
  (cg (ba pI)))
theorem Lg(T:Txt K mg a base):FnOk P w K mg base (eu P w) 1 a.f_bc9 a.d_bc9 ["cell","size"] (dO (aJ a K) Dq (KO (aJ a K) (.ct .fz)) m_bc9):=by
 refine T.F_bc9.okX rH (λ_ _ _ _=>aQ) (λ_ _ _ _ _ _ _ _ c h=>?_);have b:=gu c
 refine⟨_,(ae (a7 (i:=2) rH.nd rfl (Or.inl rfl) dR)
  (ae (dP jQ rfl (dg rfl T.z_range (aa (aG bv (pv 0) ah) ac)) (cc (i:=3) rH.nd rfl (Or.inl rfl)) (ae (a7 (i:=0) rH.nd rfl (Or.inl rfl) (aG bv (aG dW (aG nR (pv 0) ah) ah) ah))
  (ai (fI b (pv 2) (cN (aa (aG bv (pv 0) (pv 1)) (aa (aG bv (aG dU (pv 0) ah) (pv 1)) ac))) (aG g9 (aG bv (aG dU (pv 0) ah) ah) ah) rfl))))
  (ai (bC (pv 2))))),?_⟩
 refine bT (Y:=aJ a K) (ms:=Dq) (more:=LL) (body:=wP) ?_ rfl rfl h
 exact(ar (dm (i:=2) (ba kN) rfl rfl)
  (ar (gK (ba (sr (fx (aH b6 (fx (fF 0)) (fx pI))))) (.inl rfl) (FP (i:=3) rfl rfl) (ar (br (i:=0) (ba (aH b6 (fx (aH gh (fx (aH ud (fx (fF 0)) (fx pI))) (fx pI))) (fx pI))) rfl rfl)
  (g7 (zW (i:=2) rfl) (fx (eV (ag (aH b6 (fx (fF 0)) (fx (fF 1))) (ag (aH b6 (fx (aH fL (fx (fF 0)) (fx pI))) (fx (fF 1))) aL)))) (ba (aH kK (fx (aH b6 (fx (aH fL (fx (fF 0)) (fx pI))) (fx pI))) (fx pI))))))
  (cg (qk (i:=2) rfl))))
theorem AG:CompSc (au ue) (Gd.kS (Gd.t6 (Gd.nth (d4 ue) 0))) "far" ["house"]:=by ac_rfl
theorem Ld(T:Txt K mg a base):FnOk P w K mg base (eu P w) 1 a.f_bf9 a.d_bf9 ["cell","house","size"] (dO (aJ a K) Dm (KO (aJ a K) (.ct .fz)) m_bf9):=by
 refine T.F_bf9.okX iS (λ_ _ _ _=>aQ) (λ_ _ _ _ _ _ _ _ b h=>?_)
 refine⟨_,(ae (nL (i:=3) rfl iS.nd rfl (.inl rfl) (qC rfl T.z_range (aa ah (aa (pv 2) ac))) AG (ix:=[1]) rfl (λ_ _ _ _=>yg (aK CS (pv 0) (pv 1) (a8 _))) (λ_ _ _ _=>(pv 0)))
  (ae (a7 (i:=4) iS.nd rfl (Or.inl rfl) (bp (aa (pv 1) ac)))
  (ae (a7 (i:=5) iS.nd rfl (Or.inl rfl) (aG bv (pv 0) ah))
  (ae (bO (aK cV (aG bv (aG dU (pv 0) ah) ah) ah (a8 _)) (ai (a7 (i:=5) iS.nd rfl (Or.inl rfl) (pv 2))) aV)
  (ae (a7 (i:=0) iS.nd rfl (Or.inl rfl) (aG dU (pv 0) ah))
  (ae (Cy jQ (PW.pt (Cr (aK yo (pv 5) ah (a8 _)) (yf (aK yo (cU (cL K rfl) rfl T.z_len Gd.kq (aa (pv 3) ac)) ah (a8 _))))) (ae (aC (gO Sq SD SE dh (pv 4) (aa (gO Sq PySem.F.slot_list_pop PySem.F.type_list_pop De (pv 3) (aa (aG bv (pv 0) (cU (cL K rfl) rfl T.z_len Gd.kq (aa (pv 3) ac))) ac)) ac)))
  (ae (a7 (i:=0) iS.nd rfl (Or.inl rfl) (aG dU (pv 0) ah))
  (ai (a7 (i:=5) iS.nd rfl (Or.inl rfl) (aG g9 (pv 5) ah))))))
  (ai (bC (aG wy (pv 4) (bp (aa ah ac))))))))))),?_⟩
 refine bT (Y:=aJ a K) (ms:=Dm) (more:=LH) (body:=wM) ?_ rfl rfl h
 exact(ar (dm (i:=3) (ba (kO (ix:=[1]) (Pu (fx pI) (fx (fF 2))) (by decide) (cw (fx (aH J7 (fx (fF 0)) (fx (fF 1))))) (fF 0))) rfl rfl)
  (ar (dm (i:=4) (ba (bP (ag (fF 1) aL))) rfl rfl)
  (ar (br (i:=5) (ba (aH b6 (fx (fF 0)) (fx pI))) rfl rfl)
  (ar (cQ (ba (cw (fx (aH fM (fx (aH b6 (fx (aH fL (fx (fF 0)) (fx pI))) (fx pI))) (fx pI))))) (br (i:=5) (ba (fF 2)) rfl rfl) bN)
  (ar (br (i:=0) (ba (aH fL (fx (fF 0)) (fx pI))) rfl rfl)
  (ar (Gb 100000 (ba (Cw (cw (fx (aH Ge (fx (fF 5)) (fx pI)))) (cw (fx (aH Ge (fx (qE qy (cx (fC 3)))) (fx pI)))))) (ar (aN (Ah (i:=4) rfl (GH (zW (i:=3) rfl) (fx (aH b6 (fx (fF 0)) (fx (qE qy (cx (fC 3)))))))))
  (ar (br (i:=0) (ba (aH fL (fx (fF 0)) (fx pI))) rfl rfl)
  (br (i:=5) (ba (aH kK (fx (fF 5)) (fx pI))) rfl rfl))))
  (cg (ba (CO (fC 4) (oc (bP (ag pI aL))))))))))))
theorem Lc(T:Txt K mg a base):FnOk P w K mg base (eu P w) 1 a.f_bg9 a.d_bg9 ["cell","good","bad","size"] (dO (aJ a K) Dl (KR (aJ a K) .F) m_bg9):=by
 refine T.F_bg9.okX nH (λ_ _ _ _=>aQ) (λ_ _ _ _ _ _ _ _ b h=>?_)
 refine⟨_,(ae (a7 (i:=4) nH.nd rfl (Or.inl rfl) (aG dW ah (aG bv (pv 1) (aG g9 (pv 3) ah))))
  (ae (a7 (i:=5) nH.nd rfl (Or.inl rfl) (gN (fc K rfl) (bp (aa (bp ac) (aa (bp (aa ah ac)) (aa (bp (aa (pv 1) ac)) (aa (bp (aa (pv 1) (aa (pv 4) ac))) (aa (bp (aa (pv 1) (aa ah (aa ah ac)))) (aa (bp (aa (pv 1) (aa (pv 4) (aa (pv 1) (aa ah ac))))) (aa (bp (aa ah (aa (pv 1) (aa ah ac)))) ac)))))))) (aG bv (pv 0) ah) (λ_ _=>rfl)))
  (ae (bO (aK cV (aG bv (aG dU (pv 0) ah) ah) ah (a8 _)) (ae (a7 (i:=6) nH.nd rfl (Or.inl rfl) (aG bv (aG dU (pv 0) ah) (aG dW (cU (cL K rfl) rfl T.z_len Gd.kq (aa (pv 5) ac)) ah)))
  (ai (a7 (i:=5) nH.nd rfl (Or.inl rfl) (aG wy (aG wy (um (t9 K rfl) (pv 5) yi (yh (pv 6))) (bp (aa (pv 2) ac))) (um (t9 K rfl) (pv 5) (yh (pv 6)) yi))))) aV)
  (ai (bC (pv 5)))))),?_⟩
 refine bg (Y:=aJ a K) (ms:=Dl) (more:=LG) (body:=wL) ?_ rfl rfl (λ_ _ _=>fi) h
 exact(ar (br (i:=4) (ba (aH gh (fx pI) (fx (aH b6 (fx (fF 1)) (fx (aH kK (fx (fF 3)) (fx pI))))))) rfl rfl)
  (ar (br (i:=5) (ba (mf (oc (bP (ag (oF (bP aL)) (ag (oF (bP (ag pI aL))) (ag (oF (bP (ag (fF 1) aL))) (ag (oF (bP (ag (fF 1) (ag (fF 4) aL)))) (ag (oF (bP (ag (fF 1) (ag pI (ag pI aL))))) (ag (oF (bP (ag (fF 1) (ag (fF 4) (ag (fF 1) (ag pI aL)))))) (ag (oF (bP (ag pI (ag (fF 1) (ag pI aL))))) aL))))))))) (fx (aH b6 (fx (fF 0)) (fx pI))))) rfl rfl)
  (ar (cQ (ba (cw (fx (aH fM (fx (aH b6 (fx (aH fL (fx (fF 0)) (fx pI))) (fx pI))) (fx pI))))) (ar (br (i:=6) (ba (aH b6 (fx (aH fL (fx (fF 0)) (fx pI))) (fx (aH gh (fx (qE qy (fx (fF 5)))) (fx pI))))) rfl rfl)
  (br (i:=5) (ba (oF (CO (oc (CO (oc (KU (rc (fF 5)) (fx (fF 6)))) (oc (bP (ag (fF 2) aL))))) (oc (K1 (rc (fF 5)) (fx (fF 6))))))) rfl rfl)) bN)
  (cg (ba (fF 5))))))
theorem La(T:Txt K mg a base):FnOk P w K mg base (eu P w) 1 a.f_bj9 a.d_bj9 ["cell","size"] (dO (aJ a K) Di (KO (aJ a K) (.ct .fz)) m_bj9):=by
 refine T.F_bj9.okX lP (λ_ _ _ _=>aQ) (λ_ _ _ _ _ _ _ _ b h=>?_);have Ar:=Mi.Ar b
 refine⟨_,(ae (a7 (i:=2) lP.nd rfl (Or.inl rfl) (bp ac))
  (ae (bO (aK qG (pv 1) ah (a8 _)) (ai (bC (pv 2))) aV)
  (ae (dP jQ rfl (dg rfl T.z_range (aa (aG bv (pv 0) ah) ac)) (cc (i:=3) lP.nd rfl (Or.inl rfl)) (ae (a7 (i:=0) lP.nd rfl (Or.inl rfl) (aG bv (aG dW (aG nR (pv 0) ah) ah) ah))
  (ae (a7 (i:=4) lP.nd rfl (Or.inl rfl) (aG bv (pv 0) (pv 1)))
  (ae (a7 (i:=5) lP.nd rfl (Or.inl rfl) (aG bv (aG dW (aG dW (pv 4) ah) (aG bv (aG dU (pv 0) ah) (aG g9 (pv 1) ah))) (pv 1)))
  (ai (bO (aK (nQ K rfl Ar) (cN (aa (pv 4) (aa (pv 5) ac))) (pv 2) (by with_unfolding_all rfl)) (ai (aC (gO PySem.F.plainAttrs_list PySem.F.slot_list_append PySem.F.type_list_append dh (pv 2) (aa (cN (aa (pv 4) (aa (pv 5) ac))) ac)))) aV))))))
  (ai (bC (pv 2)))))),?_⟩
 refine bT (Y:=aJ a K) (ms:=Di) (more:=LB) (body:=wI) ?_ rfl rfl h
 exact(ar (dm (i:=2) (ba (bP aL)) rfl rfl)
  (ar (cQ (ba (cw (fx (aH zS (fx (fF 1)) (fx pI))))) (cg (qk (i:=2) rfl)) bN)
  (ar (gK (ba (sr (fx (aH b6 (fx (fF 0)) (fx pI))))) (.inl rfl) (FP (i:=3) rfl rfl) (ar (br (i:=0) (ba (aH b6 (fx (aH gh (fx (aH ud (fx (fF 0)) (fx pI))) (fx pI))) (fx pI))) rfl rfl)
  (ar (br (i:=4) (ba (aH b6 (fx (fF 0)) (fx (fF 1)))) rfl rfl)
  (ar (br (i:=5) (ba (aH b6 (fx (aH gh (fx (aH gh (fx (fF 4)) (fx pI))) (fx (aH b6 (fx (aH fL (fx (fF 0)) (fx pI))) (fx (aH kK (fx (fF 1)) (fx pI))))))) (fx (fF 1)))) rfl rfl)
  (cQ (ba (cw (fx (aH Bz (fx (eV (ag (fF 4) (ag (fF 5) aL)))) (cx (fC 2)))))) (aN (oj (zW (i:=2) rfl) (eV (ag (fF 4) (ag (fF 5) aL))))) bN)))))
  (cg (qk (i:=2) rfl)))))
theorem K9(T:Txt K mg a base):FnOk P w K mg base (eu P w) 1 a.f_bk9 a.d_bk9 ["cell","size"] (dO (aJ a K) Dh (KO (aJ a K) (.ct .fz)) m_bk9):=by
 refine T.F_bk9.okX jO (λ_ _ _ _=>aQ) (λ_ _ _ _ _ _ _ _ b h=>?_)
 refine⟨_,(ae (a7 (i:=2) jO.nd rfl (Or.inl rfl) (aG bv (aG nR (aG bv (aG nR (aG dW (pv 0) ah) ah) ah) ah) ah))
  (ae (a7 (i:=3) jO.nd rfl (Or.inl rfl) (bp ac))
  (ae (a7 (i:=4) jO.nd rfl (Or.inl rfl) ah)
  (ae (dP jQ rfl (dg rfl T.z_range (aa (pv 1) ac)) (cc (i:=5) jO.nd rfl (Or.inl rfl)) (ai (dP jQ rfl (qC rfl T.z_range (aa (aG dW (pv 5) ah) (aa (pv 1) ac))) (cc (i:=6) jO.nd rfl (Or.inl rfl)) (ae (bO (aK cV (aG bv (aG K3 (pv 2) (aG bv (pv 4) ah)) ah) ah (a8 _)) (ai (aC (gO Sq SD SE dh (pv 3) (aa (cN (aa (pv 5) (aa (pv 6) ac))) ac)))) aV)
  (ai (a7 (i:=4) jO.nd rfl (Or.inl rfl) (aG dW (pv 4) ah)))))))
  (ai (bC (pv 3))))))),?_⟩
 refine bT (Y:=aJ a K) (ms:=Dh) (more:=LA) (body:=wH) ?_ rfl rfl h
 exact(ar (br (i:=2) (ba (aH b6 (fx (aH ud (fx (aH b6 (fx (aH ud (fx (aH gh (fx (fF 0)) (fx pI))) (fx pI))) (fx pI))) (fx pI))) (fx pI))) rfl rfl)
  (ar (dm (i:=3) (ba (bP aL)) rfl rfl)
  (ar (br (i:=4) (ba pI) rfl rfl)
  (ar (gK (ba (sr (fx (fF 1)))) (.inl rfl) (FP (i:=5) rfl rfl) (gK (ba (Pu (fx (aH gh (fx (fF 5)) (fx pI))) (fx (fF 1)))) (.inl rfl) (FP (i:=6) rfl rfl) (ar (cQ (ba (cw (fx (aH fM (fx (aH b6 (fx (aH Oe (fx (fF 2)) (fx (aH b6 (fx (fF 4)) (fx pI))))) (fx pI))) (fx pI))))) (aN (oj (zW (i:=3) rfl) (eV (ag (fF 5) (ag (fF 6) aL))))) bN)
  (br (i:=4) (ba (aH gh (fx (fF 4)) (fx pI))) rfl rfl))))
  (cg (qk (i:=3) rfl))))))
theorem Ig(T:Txt K mg a base):FnOk P w K mg base (eu P w) 1 a.f_x9 a.d_x9 ["road"] (dO (aJ a K) Iz (KR (aJ a K) .F) m_x9):=by
 refine T.F_x9.okX NP (λ_ _ _ _=>aQ) (λ_ _ _ _ _ _ _ _ b h=>?_)
 refine⟨_,(ae (bO (aK CT (pv 0) rQ (a8 _)) (ai (bC rQ)) aV)
  (ai (bC (ci (cK K rfl) rfl T.z_list Gd.gx (aa (pv 0) ac))))),?_⟩
 refine bg (Y:=aJ a K) (ms:=Iz) (more:=OQ) (body:=Dz) ?_ rfl rfl (λ_ _ _=>fi) h
 exact(ar (cQ (ba (cw (fx (aH Of (ux (fR 0)) (fx pN))))) (cg (ba pN)) bN)
  (cg (ba (oF (lR (cS (k':= .F) (rc (fR 0))))))))
theorem K8(T:Txt K mg a base):FnOk P w K mg base (eu P w) 1 a.f_bl9 a.d_bl9 ["houses","count"] (dO (aJ a K) Dg (KR (aJ a K) .F) m_bl9):=by
 obtain⟨b,g_SEAT⟩:=T.g_SEAT;refine T.F_bl9.okX JO (λ_ _ _ _=>aQ) (λ_ _ _ _ _ _ _ _ d h=>?_);refine⟨_,(ai (bO (PW.pt (HZ (aK qG (qD (xD K rfl rfl) rfl T.z_min Gd.MW (aa (pv 0) ac) (yj (fJ rfl g_SEAT (v:=.int 0) ⟨_,rfl⟩) CF)) ah (a8 _)) (Cq (aK Ou (qD (xE K rfl rfl) rfl T.z_max Gd.MX (aa (pv 0) ac) (yj (fJ rfl g_SEAT (v:=.int 0) ⟨_,rfl⟩) CF)) (pv 1) (a8 _))))) (ai (fQ g8 rfl rfl T.mgC_NoHouse T.ek_NoHouse (aa jP ac))) aV)),?_⟩;refine bg (Y:=aJ a K) (ms:=Dg) (more:=Lz) (body:=wG) ?_ rfl rfl (λ_ _ _=>fi) h;exact(cQ (ba (H8 (cw (fx (aH zS (fx (KW (ux (fR 0)) (fx pI))) (fx pI)))) (cw (fx (aH Q3 (fx (KY (ux (fR 0)) (fx pI))) (fx (fF 1))))))) (g6 (c:=11)) bN)
theorem kP(T:Txt K mg a base):FnOk P w K mg base (eu P w) 2 a.f_i9 a.d_i9 ["self","houses"] (dO (aJ a K) IP (KR (aJ a K) .F) oi):=by
 refine T.F_i9.okX N5 (λ_ _ _ _=>aQ) (λ_ _ _ _ _ _ _ _ b h=>?_);refine⟨_,(ai (aC (bw (K8 T) b.mm rfl T.m_bl9 T.F_bl9.kp T.b_bl9 .nil aD (aa (pv 1) (aa (aW K rfl (pv 0) rfl) ac))))),?_⟩;refine bg (Y:=aJ a K) (ms:=IP) (more:=O5) (body:=DQ) ?_ rfl rfl (λ_ _ _=>fi) h;exact(aN (ba (dt (af (aU (fR 1)) (af (aF (rS (k:= .X) (ux (dG (c:=0) T.cl_Guild T.n_house_count (rc (fR 0)))))) aA)) rfl)))
theorem Li(T:Txt K mg a base):FnOk P w K mg base (eu P w) 2 a.f_ba9 a.d_ba9 ["cell","size"] (dO (aJ a K) Ds (KO (aJ a K) (.ct .fz)) m_ba9):=by
 refine T.F_ba9.okX nI (λ_ _ _ _=>aQ) (λ_ _ _ _ _ _ _ _ b h=>?_);have c:=gu b
 refine⟨_,(ae (a7 (i:=2) nI.nd rfl (Or.inl rfl) dR)
  (ae (bO (aK qG (pv 1) ah (a8 _)) (ai (bC (pv 2))) aV)
  (ae (dP jQ rfl (dg rfl T.z_range (aa (aG bv (pv 0) ah) ac)) (cc (i:=3) nI.nd rfl (Or.inl rfl)) (ae (a7 (i:=0) nI.nd rfl (Or.inl rfl) (aG bv (aG dW (aG nR (pv 0) ah) ah) ah))
  (ae (a7 (i:=4) nI.nd rfl (Or.inl rfl) (bw (Ld T) b.mm rfl T.m_bf9 T.F_bf9.kp T.b_bf9 .nil aD (aa (aG dU (pv 0) ah) (aa (aG dW ah (aG bv (pv 0) (aG g9 (pv 1) ah))) (aa (pv 1) ac)))))
  (ai (fI c (pv 2) (ci (f9 K rfl) rfl T.z_tuple Gd.p8 (aa (pv 4) ac)) (aG g9 (aG bv (aG dU (pv 0) ah) ah) ah) rfl)))))
  (ai (bC (pv 2)))))),?_⟩
 refine bT (Y:=aJ a K) (ms:=Ds) (more:=LN) (body:=wR) ?_ rfl rfl h
 exact(ar (dm (i:=2) (ba kN) rfl rfl)
  (ar (cQ (ba (cw (fx (aH zS (fx (fF 1)) (fx pI))))) (cg (qk (i:=2) rfl)) bN)
  (ar (gK (ba (sr (fx (aH b6 (fx (fF 0)) (fx pI))))) (.inl rfl) (FP (i:=3) rfl rfl) (ar (br (i:=0) (ba (aH b6 (fx (aH gh (fx (aH ud (fx (fF 0)) (fx pI))) (fx pI))) (fx pI))) rfl rfl)
  (ar (br (i:=4) (ba (oF (gk (af (aF (aH fL (fx (fF 0)) (fx pI))) (af (aF (aH gh (fx pI) (fx (aH b6 (fx (fF 0)) (fx (aH kK (fx (fF 1)) (fx pI))))))) (af (aF (fF 1)) aA))) rfl))) rfl rfl)
  (g7 (zW (i:=2) rfl) (fx (rW (rc (fF 4)))) (ba (aH kK (fx (aH b6 (fx (aH fL (fx (fF 0)) (fx pI))) (fx pI))) (fx pI)))))))
  (cg (qk (i:=2) rfl)))))
theorem Io(T:Txt K mg a base):FnOk P w K mg base (eu P w) 3 a.f_b9 a.d_b9 ["self","a","b"] (dO (aJ a K) IW (KR (aJ a K) .F) GM):=by
 refine T.F_b9.okX Oc (λ_ _ _ _=>aQ) (λ_ _ _ _ _ _ _ _ b h=>?_);have d:=gu b
 refine⟨_,(ae (aC (aE (pv 0) T.cl_Guild T.me_i9 (kP T) b.mm T.b_i9 .nil aD (aa (bp (aa (pv 1) (aa (pv 2) ac))) ac)))
  (ai (bC (KN (wt d (cN (aa (pv 1) (aa (pv 2) ac))) (aW K rfl (pv 0) rfl)))))),?_⟩
 refine bg (Y:=aJ a K) (ms:=IW) (more:=Pc) (body:=DX) ?_ rfl rfl (λ_ _ _=>fi) h
 exact(ar (aN (ba (bQ (c:=0) (aU (fR 0)) (af (aF (oF (bP (ag (fF 1) (ag (fF 2) aL))))) aA) rfl)))
  (cg (ba (CL (fx (eV (ag (fF 1) (ag (fF 2) aL)))) (rc (dG (c:=0) T.cl_Guild T.n_ways (rc (fR 0))))))))
theorem CW(T:Txt K mg a base):FnOk P w K mg base (eu P w) 3 a.f_e9 a.d_e9 ["self","a","b","rank"] (dO (aJ a K) IT (KR (aJ a K) .F) D2):=by
 refine T.F_e9.okX N8 (λ_ _ _ _=>aQ) (λ_ _ _ _ _ _ _ _ b h=>?_);have d:=gu b
 refine⟨_,(ae (aC (aE (pv 0) T.cl_Guild T.me_i9 (kP T) b.mm T.b_i9 .nil aD (aa (bp (aa (pv 1) (aa (pv 2) ac))) ac)))
  (ai (fI d (aW K rfl (pv 0) rfl) (cN (aa (pv 1) (aa (pv 2) ac))) (pv 3) rfl))),?_⟩
 refine bg (Y:=aJ a K) (ms:=IT) (more:=O9) (body:=DU) ?_ rfl rfl (λ_ _ _=>fi) h
 exact(ar (aN (ba (bQ (c:=0) (aX (fO 0)) (af (aF (oF (bP (ag (fF 1) (ag (fF 2) aL))))) aA) rfl)))
  (g7 (mS (c:=0) (i:=0) T.cl_Guild T.n_likings rfl rfl) (fx (eV (ag (fF 1) (ag (fF 2) aL)))) (ba (fF 3))))
theorem yt(T:Txt K mg a base):FnOk P w K mg base (eu P w) 3 a.f_f9 a.d_f9 ["self","a","b"] (dO (aJ a K) IS (KR (aJ a K) .F) Af):=by
 refine T.F_f9.okX N7 (λ_ _ _ _=>aQ) (λ_ _ _ _ _ _ _ _ b h=>?_);have d:=gu b
 refine⟨_,(ae (aC (aE (pv 0) T.cl_Guild T.me_i9 (kP T) b.mm T.b_i9 .nil aD (aa (bp (aa (pv 1) (aa (pv 2) ac))) ac)))
  (ai (bC (CI d (aW K rfl (pv 0) rfl) (cN (aa (pv 1) (aa (pv 2) ac))) ah ⟨rfl,rfl,rfl,rfl⟩)))),?_⟩
 refine bg (Y:=aJ a K) (ms:=IS) (more:=O8) (body:=DT) ?_ rfl rfl (λ_ _ _=>fi) h
 exact(ar (aN (ba (bQ (c:=0) (aU (fR 0)) (af (aF (oF (bP (ag (fF 1) (ag (fF 2) aL))))) aA) rfl)))
  (cg (ba (rS (k:= .X) (ux (Gs (rc (dG (c:=0) T.cl_Guild T.n_likings (rc (fR 0)))) (fx (eV (ag (fF 1) (ag (fF 2) aL)))) (fu pI)))))))
theorem uo(T:Txt K mg a base):FnOk P w K mg base (eu P w) 3 a.f_g9 a.d_g9 ["self","a"] (dO (aJ a K) IR (KO (aJ a K) (.ct .fz)) wZ):=by
 refine T.F_g9.okX N6 (λ_ _ _ _=>aQ) (λ_ _ _ _ _ _ _ _ b h=>?_)
 refine⟨_,(ae (aC (aE (pv 0) T.cl_Guild T.me_i9 (kP T) b.mm T.b_i9 .nil aD (aa (bp (aa (pv 1) ac)) ac)))
  (ai (bC (aE (pv 0) T.cl_Guild T.me_c9 (Im T) b.mm T.b_c9 .nil aD (aa (aW K rfl (pv 0) rfl) (aa (pv 1) ac)))))),?_⟩
 refine bT (Y:=aJ a K) (ms:=IR) (more:=O7) (body:=DS) ?_ rfl rfl h
 exact(ar (aN (ba (bQ (c:=0) (aU (fR 0)) (af (aF (oF (bP (ag (fF 1) aL)))) aA) rfl)))
  (cg (ba (db (c:=0) (aU (fR 0)) (af (aU (dG (c:=0) T.cl_Guild T.n_ways (rc (fR 0)))) (af (aF (fF 1)) aA)) rfl))))
theorem Ik(T:Txt K mg a base):FnOk P w K mg base (eu P w) 3 a.f_j9 a.d_j9 ["self","road"] (dO (aJ a K) IN (KR (aJ a K) .F) GJ):=by
 obtain⟨b,g_SEAT⟩:=T.g_SEAT;refine T.F_j9.okX N0 (λ_ _ _ _=>aQ) (λ_ _ _ _ _ _ _ _ d h=>?_)
 refine⟨_,(ae (aC (aE (pv 0) T.cl_Guild T.me_i9 (kP T) d.mm T.b_i9 .nil aD (aa (pv 1) ac)))
  (ae (bO (aK qG (cU (cL K rfl) rfl T.z_len Gd.kq (aa (pv 1) ac)) ah (a8 _)) (ai (fQ g8 rfl rfl T.mgC_NoRoad T.ek_NoRoad (aa jP ac))) aV)
  (ae (bO (aK CS (gN (fc K rfl) (pv 1) (H9 AY ah) (λ_ _=>rfl)) (fJ rfl g_SEAT (v:=.int 0) ⟨_,rfl⟩) (a8 _)) (ai (fQ g8 rfl rfl T.mgC_NoRoad T.ek_NoRoad (aa jP ac))) aV)
  (ai (bO (aK CS (cU AK rfl T.z_len Gd.kq (aa (ci (xB K rfl rfl) rfl T.z_set Gd.MV (aa (pv 1) ac)) ac)) (cU (cL K rfl) rfl T.z_len Gd.kq (aa (pv 1) ac)) (a8 _)) (ai (fQ g8 rfl rfl T.mgC_NoRoad T.ek_NoRoad (aa jP ac))) aV))))),?_⟩
 refine bg (Y:=aJ a K) (ms:=IN) (more:=O4) (body:=DP) ?_ rfl rfl (λ_ _ _=>fi) h
 exact(ar (aN (ba (bQ (c:=0) (aU (fR 0)) (af (aU (fR 1)) aA) rfl)))
  (ar (cQ (ba (cw (fx (aH zS (fx (qE qy (ux (fR 1)))) (fx pI))))) (g6 (c:=14)) bN)
  (ar (cQ (ba (cw (fx (aH J7 (ux (mf (rc (fR 1)) (fx (KQ HQ (fx pI))))) (fx pI))))) (g6 (c:=14)) bN)
  (cQ (ba (cw (fx (aH J7 (fx (CK (ux (fR 1)))) (fx (qE qy (ux (fR 1)))))))) (g6 (c:=14)) bN))))
theorem Ij(T:Txt K mg a base):FnOk P w K mg base (eu P w) 3 a.f_k9 a.d_k9 ["self","a","b"] (dO (aJ a K) IM (KR (aJ a K) .F) GI):=by
 refine T.F_k9.okX NZ (λ_ _ _ _=>aQ) (λ_ _ _ _ _ _ _ _ b h=>?_)
 refine⟨_,(ae (aC (aE (pv 0) T.cl_Guild T.me_i9 (kP T) b.mm T.b_i9 .nil aD (aa (bp (aa (pv 1) (aa (pv 2) ac))) ac)))
  (ai (bO (aK cV (pv 1) (pv 2) (a8 _)) (ai (fQ g8 rfl rfl T.mgC_NoHouse T.ek_NoHouse (aa jP ac))) aV))),?_⟩
 refine bg (Y:=aJ a K) (ms:=IM) (more:=O3) (body:=DO) ?_ rfl rfl (λ_ _ _=>fi) h
 exact(ar (aN (ba (bQ (c:=0) (aU (fR 0)) (af (aF (oF (bP (ag (fF 1) (ag (fF 2) aL))))) aA) rfl)))
  (cQ (ba (cw (fx (aH fM (fx (fF 1)) (fx (fF 2)))))) (g6 (c:=11)) bN))
theorem yq(T:Txt K mg a base):FnOk P w K mg base (eu P w) 3 a.f_m9 a.d_m9 ["self","a"] (dO (aJ a K) IK (KO (aJ a K) (.ct .fz)) Ad):=by
 refine T.F_m9.okX NX (λ_ _ _ _=>aQ) (λ_ _ _ _ _ _ _ _ b h=>?_)
 refine⟨_,(ae (aC (aE (pv 0) T.cl_Guild T.me_i9 (kP T) b.mm T.b_i9 .nil aD (aa (bp (aa (pv 1) ac)) ac)))
  (ai (bC (aE (pv 0) T.cl_Guild T.me_c9 (Im T) b.mm T.b_c9 .nil aD (aa (aW K rfl (pv 0) rfl) (aa (pv 1) ac)))))),?_⟩
 refine bT (Y:=aJ a K) (ms:=IK) (more:=O1) (body:=DM) ?_ rfl rfl h
 exact(ar (aN (ba (bQ (c:=0) (aU (fR 0)) (af (aF (oF (bP (ag (fF 1) aL)))) aA) rfl)))
  (cg (ba (db (c:=0) (aU (fR 0)) (af (aU (dG (c:=0) T.cl_Guild T.n_shuns (rc (fR 0)))) (af (aF (fF 1)) aA)) rfl))))
theorem OE(T:Txt K mg a base):FnOk P w K mg base (eu P w) 3 a.f_o9 a.d_o9 ["self"] (dO (aJ a K) II (KO (aJ a K) (.ob cj)) wY):=by
 refine T.F_o9.okX HL (λ_ _ _ _=>aQ) (λ_ _ _ _ _ _ _ _ b h=>?_)
 refine⟨_,(ae (a7 (i:=1) HL.nd rfl (Or.inl rfl) (rR T.mk_Guild (Iq T) b.mm rfl T.mgC_Guild T.b_a9 .nil aD (aa (aW K rfl (pv 0) rfl) ac)))
  (ae (aC (gO SQ Td Te jk (aW K rfl (pv 1) rfl) (aa (aW K rfl (pv 0) rfl) ac)))
  (ae (aC (gO SQ Td Te jk (aW K rfl (pv 1) rfl) (aa (aW K rfl (pv 0) rfl) ac)))
  (ae (aC (gO SQ Td Te jk (aW K rfl (pv 1) rfl) (aa (aW K rfl (pv 0) rfl) ac)))
  (ae (aC (gO SQ Td Te jk (aW K rfl (pv 1) rfl) (aa (aW K rfl (pv 0) rfl) ac)))
  (ai (bC (pv 1)))))))),?_⟩
 refine bT (Y:=aJ a K) (ms:=II) (more:=OZ) (body:=DK) ?_ rfl rfl h
 exact(ar (dm (i:=1) (ba (wq (c:=0) (af (aF (rS (k:= .X) (ux (dG (c:=0) T.cl_Guild T.n_house_count (rc (fR 0)))))) aA) rfl)) rfl rfl)
  (ar (aN (kR (mS (c:=0) (i:=1) T.cl_Guild T.n_ways rfl rfl) (dG (c:=0) T.cl_Guild T.n_ways (rc (fR 0)))))
  (ar (aN (kR (mS (c:=0) (i:=1) T.cl_Guild T.n_likings rfl rfl) (dG (c:=0) T.cl_Guild T.n_likings (rc (fR 0)))))
  (ar (aN (kR (mS (c:=0) (i:=1) T.cl_Guild T.n_shuns rfl rfl) (dG (c:=0) T.cl_Guild T.n_shuns (rc (fR 0)))))
  (ar (aN (kR (mS (c:=0) (i:=1) T.cl_Guild T.n_wish_ranks rfl rfl) (dG (c:=0) T.cl_Guild T.n_wish_ranks (rc (fR 0)))))
  (cg (qk (i:=1) rfl)))))))
theorem OB(T:Txt K mg a base):FnOk P w K mg base (eu P w) 3 a.f_t9 a.d_t9 ["self","a"] (dO (aJ a K) ID (KR (aJ a K) .F) LQ):=by
 refine T.F_t9.okX NR (λ_ _ _ _=>aQ) (λ_ _ _ _ _ _ _ _ b h=>?_)
 refine⟨_,(ae (aC (aE (aW K rfl (pv 0) rfl) T.cl_Guild T.me_i9 (kP T) b.mm T.b_i9 .nil aD (aa (bp (aa (pv 1) ac)) ac)))
  (ai (bC (bw (Ig T) b.mm rfl T.m_x9 T.F_x9.kp T.b_x9 .nil aD (aa (gN (fc K rfl) (aW K rfl (pv 0) rfl) (pv 1) (λ_ _=>rfl)) ac))))),?_⟩
 refine bg (Y:=aJ a K) (ms:=ID) (more:=OU) (body:=DD) ?_ rfl rfl (λ_ _ _=>fi) h
 exact(ar (aN (ba (bQ (c:=0) (aU (dG (c:=1) T.cl_Post T.n_guild (rc (fR 0)))) (af (aF (oF (bP (ag (fF 1) aL)))) aA) rfl)))
  (cg (ba (dt (af (aU (mf (rc (dG (c:=1) T.cl_Post T.n_roads (rc (fR 0)))) (fx (fF 1)))) aA) rfl))))
theorem Ih(T:Txt K mg a base):FnOk P w K mg base (eu P w) 3 a.f_u9 a.d_u9 ["self","a","b"] (dO (aJ a K) IC (KR (aJ a K) .F) GG):=by
 refine T.F_u9.okX NQ (λ_ _ _ _=>aQ) (λ_ _ _ _ _ _ _ _ b h=>?_);have d:=gu b
 refine⟨_,(ae (aC (aE (aW K rfl (pv 0) rfl) T.cl_Guild T.me_i9 (kP T) b.mm T.b_i9 .nil aD (aa (bp (aa (pv 1) (aa (pv 2) ac))) ac)))
  (ai (bC (bw (Ig T) b.mm rfl T.m_x9 T.F_x9.kp T.b_x9 .nil aD (aa (nP d (aW K rfl (pv 0) rfl) (cN (aa (pv 1) (aa (pv 2) ac))) ⟨rfl,rfl,rfl,rfl⟩) ac))))),?_⟩
 refine bg (Y:=aJ a K) (ms:=IC) (more:=OT) (body:=DC) ?_ rfl rfl (λ_ _ _=>fi) h
 exact(ar (aN (ba (bQ (c:=0) (aU (dG (c:=1) T.cl_Post T.n_guild (rc (fR 0)))) (af (aF (oF (bP (ag (fF 1) (ag (fF 2) aL))))) aA) rfl)))
  (cg (ba (dt (af (aU (rY (rc (dG (c:=1) T.cl_Post T.n_told_last (rc (fR 0)))) (fx (eV (ag (fF 1) (ag (fF 2) aL)))))) aA) rfl))))
theorem OF(T:Txt K mg a base):FnOk P w K mg base (eu P w) 4 a.f_d9 a.d_d9 ["self","a","b"] (dO (aJ a K) IU (KR (aJ a K) .F) LU):=by
 refine T.F_d9.okX N9 (λ_ _ _ _=>aQ) (λ_ _ _ _ _ _ _ _ d h=>?_);have b:=gu d
 refine⟨_,(ae (aC (aE (pv 0) T.cl_Guild T.me_k9 (Ij T) d.mm T.b_k9 .nil aD (aa (pv 1) (aa (pv 2) ac))))
  (ae (bO (Cu (wt b (cN (aa (pv 1) (aa (pv 2) ac))) (aW K rfl (pv 0) rfl))) (ai (fQ g8 rfl rfl T.mgC_WayThere T.ek_WayThere (aa jP ac))) aV)
  (ae (fI b (aW K rfl (pv 0) rfl) (cN (aa (pv 1) (aa (pv 2) ac))) jB rfl)
  (ai (fI b (aW K rfl (pv 0) rfl) (cN (aa (pv 2) (aa (pv 1) ac))) jB rfl))))),?_⟩
 refine bg (Y:=aJ a K) (ms:=IU) (more:=Pa) (body:=DV) ?_ rfl rfl (λ_ _ _=>fi) h
 exact(ar (aN (ba (bQ (c:=0) (aX (fO 0)) (af (aF (fF 1)) (af (aF (fF 2)) aA)) rfl)))
  (ar (cQ (ba (Ol (fx (CL (fx (eV (ag (fF 1) (ag (fF 2) aL)))) (wv (c:=0) (i:=0) T.cl_Guild T.n_ways rfl rfl))))) (g6 (c:=13)) bN)
  (ar (g7 (mS (c:=0) (i:=0) T.cl_Guild T.n_ways rfl rfl) (fx (eV (ag (fF 1) (ag (fF 2) aL)))) (ba pB))
  (g7 (mS (c:=0) (i:=0) T.cl_Guild T.n_ways rfl rfl) (fx (eV (ag (fF 2) (ag (fF 1) aL)))) (ba pB)))))
theorem Il(T:Txt K mg a base):FnOk P w K mg base (eu P w) 4 a.f_h9 a.d_h9 ["self","road"] (dO (aJ a K) IQ (KR (aJ a K) .F) GK):=by
 refine T.F_h9.okX HM (λ_ _ _ _=>aQ) (λ_ _ _ _ _ _ _ _ b h=>?_);have d:=gu b
 refine⟨_,(ae (aC (aE (pv 0) T.cl_Guild T.me_j9 (Ik T) b.mm T.b_j9 .nil aD (aa (pv 1) ac)))
  (ae (a7 (i:=2) HM.nd rfl (Or.inl rfl) (nP d (aW K rfl (pv 0) rfl) (ci (f9 K rfl) rfl T.z_tuple Gd.p8 (aa (pv 1) ac)) ⟨rfl,rfl,rfl,rfl⟩))
  (ae (bO (aK CT (pv 2) rQ (a8 _)) (ai (bC (aE (pv 0) T.cl_Guild T.me_f9 (yt T) b.mm T.b_f9 .nil aD (aa (gN (fc K rfl) (pv 1) ah (λ_ _=>rfl)) (aa (gN (fc K rfl) (pv 1) ah (λ_ _=>rfl)) ac))))) aV)
  (ai (bC (pv 2)))))),?_⟩
 refine bg (Y:=aJ a K) (ms:=IQ) (more:=O6) (body:=DR) ?_ rfl rfl (λ_ _ _=>fi) h
 exact(ar (aN (ba (bQ (c:=0) (aU (fR 0)) (af (aU (fR 1)) aA) rfl)))
  (ar (br (i:=2) (ba (rS (k:= .X) (ux (rY (rc (dG (c:=0) T.cl_Guild T.n_wish_ranks (rc (fR 0)))) (fx (rW (cS (k':= .F) (rc (fR 1))))))))) rfl rfl)
  (ar (cQ (ba (cw (fx (aH Of (fx (fF 2)) (fx pN))))) (cg (ba (bQ (c:=0) (aU (fR 0)) (af (aF (rS (k:= .X) (ux (mf (rc (fR 1)) (fx pI))))) (af (aF (rS (k:= .X) (ux (mf (rc (fR 1)) (fx pI))))) aA)) rfl))) bN)
  (cg (ba (fF 2))))))
theorem yr(T:Txt K mg a base):FnOk P w K mg base (eu P w) 4 a.f_l9 a.d_l9 ["self","a","b"] (dO (aJ a K) IL (KR (aJ a K) .F) Ae):=by
 refine T.F_l9.okX NY (λ_ _ _ _=>aQ) (λ_ _ _ _ _ _ _ _ b h=>?_);have d:=gu b
 refine⟨_,(ae (aC (aE (pv 0) T.cl_Guild T.me_k9 (Ij T) b.mm T.b_k9 .nil aD (aa (pv 1) (aa (pv 2) ac))))
  (ai (fI d (aW K rfl (pv 0) rfl) (cN (aa (pv 1) (aa (pv 2) ac))) jB rfl))),?_⟩
 refine bg (Y:=aJ a K) (ms:=IL) (more:=O2) (body:=DN) ?_ rfl rfl (λ_ _ _=>fi) h
 exact(ar (aN (ba (bQ (c:=0) (aX (fO 0)) (af (aF (fF 1)) (af (aF (fF 2)) aA)) rfl)))
  (g7 (mS (c:=0) (i:=0) T.cl_Guild T.n_shuns rfl rfl) (fx (eV (ag (fF 1) (ag (fF 2) aL)))) (ba pB)))
theorem CV(T:Txt K mg a base):FnOk P w K mg base (eu P w) 4 a.f_p9 a.d_p9 ["self","road","rank"] (dO (aJ a K) IH (KR (aJ a K) .F) D1):=by
 refine T.F_p9.okX NV (λ_ _ _ _=>aQ) (λ_ _ _ _ _ _ _ _ b h=>?_);have d:=gu b
 refine⟨_,(ae (aC (aE (pv 0) T.cl_Guild T.me_j9 (Ik T) b.mm T.b_j9 .nil aD (aa (pv 1) ac)))
  (ai (fI d (aW K rfl (pv 0) rfl) (ci (f9 K rfl) rfl T.z_tuple Gd.p8 (aa (pv 1) ac)) (pv 2) rfl))),?_⟩
 refine bg (Y:=aJ a K) (ms:=IH) (more:=OY) (body:=DH) ?_ rfl rfl (λ_ _ _=>fi) h
 exact(ar (aN (ba (bQ (c:=0) (aX (fO 0)) (af (aU (fR 1)) aA) rfl)))
  (g7 (mS (c:=0) (i:=0) T.cl_Guild T.n_wish_ranks rfl rfl) (fx (rW (cS (k':= .F) (rc (fR 1))))) (ba (fF 2))))
theorem OC(T:Txt K mg a base):FnOk P w K mg base (eu P w) 4 a.f_s9 a.d_s9 ["self","a"] (dO (aJ a K) IE (KO (aJ a K) (.ct .fz)) LR):=by
 refine T.F_s9.okX NS (λ_ _ _ _=>aQ) (λ_ _ _ _ _ _ _ _ b h=>?_);refine⟨_,(ai (bC (aE (aW K rfl (pv 0) rfl) T.cl_Guild T.me_g9 (uo T) b.mm T.b_g9 .nil aD (aa (pv 1) ac)))),?_⟩;refine bT (Y:=aJ a K) (ms:=IE) (more:=OV) (body:=DE) ?_ rfl rfl h;exact(cg (ba (db (c:=0) (aU (dG (c:=1) T.cl_Post T.n_guild (rc (fR 0)))) (af (aF (fF 1)) aA) rfl)))
theorem Oz(T:Txt K mg a base):FnOk P w K mg base (eu P w) 4 a.f_w9 a.d_w9 ["self","writer"] (dO (aJ a K) IA (KR (aJ a K) .F) og):=by
 refine T.F_w9.okX HI (λ_ _ _ _=>aQ) (λ_ _ _ _ _ _ _ _ b h=>?_);refine⟨_,(ai (dP jQ rfl (dQ K rfl (aE (aW K rfl (pv 0) rfl) T.cl_Guild T.me_g9 (uo T) b.mm T.b_g9 .nil aD (aa (pv 1) ac))) (cc (i:=2) HI.nd rfl (Or.inl rfl)) (ai (aC (aE (pv 0) T.cl_Post T.me_v9 (OA T) b.mm T.b_v9 .nil aD (aa (pv 1) (aa (pv 2) ac))))))),?_⟩;refine bg (Y:=aJ a K) (ms:=IA) (more:=OR) (body:=DA) ?_ rfl rfl (λ_ _ _=>fi) h;exact(gK (ba (nq (oF (db (c:=0) (aX (dG (c:=1) T.cl_Post T.n_guild (rc (fO 0)))) (af (aF (fF 1)) aA) rfl)))) (.inl rfl) (FP (i:=2) rfl rfl) (aN (eD (c:=1) (aO (i:=0)) (af (aF (fF 1)) (af (aF (fF 2)) aA)) ⟨rfl,trivial,trivial,trivial⟩ (by decide) (by decide))))
theorem AF:CompSc (au qz) { kind:=.function,names:=[ (".0",.local),("pair",.local),("list",.globalImplicit)],isGenerator:=false,isCoroutine:=false,more:=[]:PySem.Scope } "pair" []:=by ac_rfl
theorem AE:CompSc (au qz) (Gd.kS (Gd.t6 (Gd.nth (Gd.JG (Gd.nth (d4 qz) 1)) 0))) "b" ["a","guild"]:=by ac_rfl
theorem CY(T:Txt K mg a base):FnOk P w K mg base (eu P w) 4 a.f_bi9 a.d_bi9 ["guild","size"] (dO (aJ a K) Dj (KO (aJ a K) (.ct .fz)) m_bi9):=by
 refine T.F_bi9.okX rF (λ_ _ _ _=>aQ) (λ_ _ _ _ _ _ _ _ b h=>?_)
 refine⟨_,(ae (a7 (i:=2) rF.nd rfl (Or.inl rfl) (bp (aa (ni rfl (dQ K rfl (gM (pv 0) T.cl_Guild T.me_q9 (CU T) b.mm T.b_q9 .nil aD)) AF (ix:=[]) rfl (λ_ _ _ _=>nh) (λ_ _ _ _=>(cN (aa (ci (cK K rfl) rfl T.z_list Gd.gx (aa (gN (kT K rfl) (pv 0) ah (λ_ _=>rfl)) ac)) (aa (gN (kT K rfl) (pv 0) ah (λ_ _=>rfl)) ac))))) ac)))
  (ae (dP jQ rfl (dg rfl T.z_range (aa (pv 1) ac)) (cc (i:=3) rF.nd rfl (Or.inr rfl)) (ae (nL (i:=4) rfl rF.nd rfl (.inl rfl) (dg rfl T.z_range (aa (pv 1) ac)) AE (ix:=[3,0]) rfl (λ_ _ _ _=>nh) (λ_ _ _ _=>(aE (pv 2) T.cl_Guild T.me_f9 (yt T) b.mm T.b_f9 .nil Op (aa (pv 1) (aa (pv 0) ac)))))
  (ai (aC (gO Sq SD SE dh (pv 2) (aa (bp (aa (ci (cK K rfl) rfl T.z_list Gd.gx (aa (aE (pv 0) T.cl_Guild T.me_m9 (yq T) b.mm T.b_m9 .nil aD (aa (pv 3) ac)) ac)) (aa (ci (cK K rfl) rfl T.z_list Gd.gx (aa (aE (pv 0) T.cl_Guild T.me_g9 (uo T) b.mm T.b_g9 .nil aD (aa (pv 3) ac)) ac)) (aa (pv 4) ac)))) ac))))))
  (ai (bC (pv 2))))),?_⟩
 refine bT (Y:=aJ a K) (ms:=Dj) (more:=LC) (body:=wJ) ?_ rfl rfl h
 exact(ar (dm (i:=2) (ba (bP (ag (oF (kO (ix:=[]) (Ey (rc (gF (rP (c:=0) (aU (fR 0)) aA rfl)))) (by decide) rO (eV (ag (oF (lR (rc (yn (rc (fF 0)) (fx pI))))) (ag (yn (rc (fF 0)) (fx pI)) aL))))) aL))) rfl rfl)
  (ar (gK (ba (sr (fx (fF 1)))) (.inl rfl) (FP (i:=3) rfl rfl) (ar (br (i:=4) (ba (oF (kO (ix:=[3,0]) (sr (fx (fF 1))) (by decide) rO (bQ (c:=0) (aU (fR 2)) (af (aF (fF 1)) (af (aF (fF 0)) aA)) rfl)))) rfl rfl)
  (aN (oj (zW (i:=2) rfl) (oF (bP (ag (oF (lR (oc (db (c:=0) (aU (fR 0)) (af (aF (fF 3)) aA) rfl)))) (ag (oF (lR (oc (db (c:=0) (aU (fR 0)) (af (aF (fF 3)) aA) rfl)))) (ag (fF 4) aL)))))))))
  (cg (qk (i:=2) rfl))))
theorem E5:CompSc (au Bx) (Gd.kS (Gd.t6 (Gd.nth (d4 Bx) 6))) "house" []:=by ac_rfl
theorem OD(T:Txt K mg a base):FnOk P w K mg base (eu P w) 5 a.f_r9 a.d_r9 ["self","guild"] (dO (aJ a K) IF (KR (aJ a K) .F) wX):=by
 obtain⟨b,g_SEAT⟩:=T.g_SEAT;refine T.F_r9.okX NT (λ_ _ _ _=>aQ) (λ_ _ _ _ _ _ _ _ d h=>?_)
 refine⟨_,(ae (fS (pv 0) (gM (pv 1) T.cl_Guild T.me_o9 (OE T) d.mm T.b_o9 .nil aD) rfl)
  (ae (fS (pv 0) (aG K4 (bp (aa rQ ac)) (gM (pv 1) T.cl_Guild T.me_n9 (Ii T) d.mm T.b_n9 .nil aD)) rfl)
  (ae (KA (bp (aa (fJ rfl g_SEAT (v:=.int 0) ⟨_,rfl⟩) ac)) (KH (aW K rfl (pv 0) rfl) (fJ rfl g_SEAT (v:=.int 0) ⟨_,rfl⟩) Bv))
  (ae (fS (pv 0) dR rfl)
  (ae (fS (pv 0) dR rfl)
  (ae (fS (pv 0) dR rfl)
  (ae (fS (pv 0) (ni rfl (dg rfl T.z_range (aa (gM (pv 1) T.cl_Guild T.me_n9 (Ii T) d.mm T.b_n9 .nil aD) ac)) E5 (ix:=[]) rfl (λ_ _ _ _=>nh) (λ_ _ _ _=>CH)) rfl)
  (ai (aC (aE (pv 0) T.cl_Post T.me_w9 (Oz T) d.mm T.b_w9 .nil aD (aa (fJ rfl g_SEAT (v:=.int 0) ⟨_,rfl⟩) ac))))))))))),?_⟩
 refine bg (Y:=aJ a K) (ms:=IF) (more:=OW) (body:=DF) ?_ rfl rfl (λ_ _ _=>fi) h
 exact(ar (gC (c:=1) (i:=0) T.cl_Post T.n_guild rfl rfl (ba (db (c:=0) (aU (fR 1)) aA rfl)))
  (ar (gC (c:=1) (i:=0) T.cl_Post T.n_roads rfl rfl (ba (Os (oc (bP (ag pN aL))) (fx (bQ (c:=0) (aU (fR 1)) aA rfl)))))
  (ar (Ke (mS (c:=1) (i:=0) T.cl_Post T.n_roads rfl rfl) (fx pI) (ba (oF (bP (ag pI aL)))))
  (ar (gC (c:=1) (i:=0) T.cl_Post T.n_told_last rfl rfl (ba kN))
  (ar (gC (c:=1) (i:=0) T.cl_Post T.n_written_last rfl rfl (ba kN))
  (ar (gC (c:=1) (i:=0) T.cl_Post T.n_letters rfl rfl (ba kN))
  (ar (gC (c:=1) (i:=0) T.cl_Post T.n_standings rfl rfl (ba (CM (ix:=[]) (sr (fx (bQ (c:=0) (aU (fR 1)) aA rfl))) (by decide) rO Ot)))
  (aN (eD (c:=1) (aO (i:=0)) (af (aF pI) aA) ⟨rfl,trivial,trivial⟩ (by decide) (by decide))))))))))
theorem Lh(T:Txt K mg a base):FnOk P w K mg base (eu P w) 5 a.f_bb9 a.d_bb9 ["guild","kind","good","bad"] (dO (aJ a K) Dr (KR (aJ a K) .F) m_bb9):=by
 refine T.F_bb9.okX JQ (λ_ _ _ _=>aQ) (λ_ _ _ _ _ _ _ _ b h=>?_)
 refine⟨_,(ae (bO (aK cV (pv 1) ah (a8 _)) (ai (aC (aE (pv 0) T.cl_Guild T.me_g9 (uo T) b.mm T.b_g9 .nil aD (aa (pv 3) ac)))) aV)
  (ae (bO (aK cV (pv 1) ah (a8 _)) (ai (aC (aE (pv 0) T.cl_Guild T.me_b9 (Io T) b.mm T.b_b9 .nil aD (aa (pv 3) (aa (pv 2) ac))))) aV)
  (ae (bO (aK cV (pv 1) ah (a8 _)) (ai (aC (aE (pv 0) T.cl_Guild T.me_b9 (Io T) b.mm T.b_b9 .nil aD (aa (pv 2) (aa (pv 3) ac))))) aV)
  (ae (bO (aK cV (pv 1) ah (a8 _)) (ai (aC (aE (pv 0) T.cl_Guild T.me_e9 (CW T) b.mm T.b_e9 .nil aD (aa (pv 3) (aa (pv 2) (aa ah ac)))))) aV)
  (ae (bO (aK cV (pv 1) ah (a8 _)) (ai (aC (aE (pv 0) T.cl_Guild T.me_e9 (CW T) b.mm T.b_e9 .nil aD (aa (pv 2) (aa (pv 3) (aa ah ac)))))) aV)
  (ae (bO (aK cV (pv 1) ah (a8 _)) (ai (aC (aE (pv 0) T.cl_Guild T.me_f9 (yt T) b.mm T.b_f9 .nil aD (aa (pv 3) (aa (pv 2) ac))))) aV)
  (ae (bO (aK cV (pv 1) ah (a8 _)) (ai (aC (aE (pv 0) T.cl_Guild T.me_f9 (yt T) b.mm T.b_f9 .nil aD (aa (pv 2) (aa (pv 3) ac))))) aV)
  (ae (bO (aK cV (pv 1) ah (a8 _)) (ai (aC (aE (pv 0) T.cl_Guild T.me_l9 (yr T) b.mm T.b_l9 .nil aD (aa (pv 3) (aa (pv 2) ac))))) aV)
  (ae (bO (aK cV (pv 1) ah (a8 _)) (ai (aC (aE (pv 0) T.cl_Guild T.me_l9 (yr T) b.mm T.b_l9 .nil aD (aa (pv 2) (aa (pv 3) ac))))) aV)
  (ae (bO (aK cV (pv 1) ah (a8 _)) (ai (aC (aE (pv 0) T.cl_Guild T.me_l9 (yr T) b.mm T.b_l9 .nil aD (aa (pv 2) (aa (pv 2) ac))))) aV)
  (ai (bO (aK cV (pv 1) ah (a8 _)) (ai (aC (aE (pv 0) T.cl_Guild T.me_m9 (yq T) b.mm T.b_m9 .nil aD (aa (pv 3) ac)))) aV)))))))))))),?_⟩
 refine bg (Y:=aJ a K) (ms:=Dr) (more:=LM) (body:=wQ) ?_ rfl rfl (λ_ _ _=>fi) h
 exact(ar (cQ (ba (cw (fx (aH fM (fx (fF 1)) (fx pI))))) (aN (ba (db (c:=0) (aX (fO 0)) (af (aF (fF 3)) aA) rfl))) bN)
  (ar (cQ (ba (cw (fx (aH fM (fx (fF 1)) (fx pI))))) (aN (ba (bQ (c:=0) (aX (fO 0)) (af (aF (fF 3)) (af (aF (fF 2)) aA)) rfl))) bN)
  (ar (cQ (ba (cw (fx (aH fM (fx (fF 1)) (fx pI))))) (aN (ba (bQ (c:=0) (aX (fO 0)) (af (aF (fF 2)) (af (aF (fF 3)) aA)) rfl))) bN)
  (ar (cQ (ba (cw (fx (aH fM (fx (fF 1)) (fx pI))))) (aN (eD (c:=0) (aO (i:=0)) (af (aF (fF 3)) (af (aF (fF 2)) (af (aF pI) aA))) ⟨rfl,trivial,trivial,trivial,trivial⟩ (by decide) (by decide))) bN)
  (ar (cQ (ba (cw (fx (aH fM (fx (fF 1)) (fx pI))))) (aN (eD (c:=0) (aO (i:=0)) (af (aF (fF 2)) (af (aF (fF 3)) (af (aF pI) aA))) ⟨rfl,trivial,trivial,trivial,trivial⟩ (by decide) (by decide))) bN)
  (ar (cQ (ba (cw (fx (aH fM (fx (fF 1)) (fx pI))))) (aN (ba (bQ (c:=0) (aX (fO 0)) (af (aF (fF 3)) (af (aF (fF 2)) aA)) rfl))) bN)
  (ar (cQ (ba (cw (fx (aH fM (fx (fF 1)) (fx pI))))) (aN (ba (bQ (c:=0) (aX (fO 0)) (af (aF (fF 2)) (af (aF (fF 3)) aA)) rfl))) bN)
  (ar (cQ (ba (cw (fx (aH fM (fx (fF 1)) (fx pI))))) (aN (eD (c:=0) (aO (i:=0)) (af (aF (fF 3)) (af (aF (fF 2)) aA)) ⟨rfl,trivial,trivial,trivial⟩ (by decide) (by decide))) bN)
  (ar (cQ (ba (cw (fx (aH fM (fx (fF 1)) (fx pI))))) (aN (eD (c:=0) (aO (i:=0)) (af (aF (fF 2)) (af (aF (fF 3)) aA)) ⟨rfl,trivial,trivial,trivial⟩ (by decide) (by decide))) bN)
  (ar (cQ (ba (cw (fx (aH fM (fx (fF 1)) (fx pI))))) (aN (eD (c:=0) (aO (i:=0)) (af (aF (fF 2)) (af (aF (fF 2)) aA)) ⟨rfl,trivial,trivial,trivial⟩ (by decide) (by decide))) bN)
  (cQ (ba (cw (fx (aH fM (fx (fF 1)) (fx pI))))) (aN (ba (db (c:=0) (aX (fO 0)) (af (aF (fF 3)) aA) rfl))) bN)))))))))))
theorem Lf(T:Txt K mg a base):FnOk P w K mg base (eu P w) 5 a.f_bd9 a.d_bd9 ["size","ways","fond","dear","shy"] (dO (aJ a K) Dp (KO (aJ a K) (.ob cj)) m_bd9):=by
 refine T.F_bd9.okX iT (λ_ _ _ _=>aQ) (λ_ _ _ _ _ _ _ _ b h=>?_);have d:=gu b
 refine⟨_,(ae (a7 (i:=5) iT.nd rfl (Or.inl rfl) (rR T.mk_Guild (Iq T) b.mm rfl T.mgC_Guild T.b_a9 .nil aD (aa (pv 0) ac)))
  (ae (dP jQ rfl (dQ K rfl (pv 1)) (CG rfl (kM (cc (i:=6) iT.nd rfl (Or.inl rfl)) (kM (cc (i:=7) iT.nd rfl (Or.inl rfl)) yl))) (ai (aC (aE (pv 5) T.cl_Guild T.me_d9 (OF T) b.mm T.b_d9 .nil aD (aa (pv 6) (aa (pv 7) ac))))))
  (ae (dP jQ rfl (dQ K rfl (ci (p6 rfl) rfl T.z_list Gd.gx (aa (pv 2) ac))) (cc (i:=8) iT.nd rfl (Or.inl rfl)) (ai (aC (aE (pv 5) T.cl_Guild T.me_e9 (CW T) b.mm T.b_e9 .nil aD (aa (gN (kT K rfl) (pv 8) ah (λ_ _=>rfl)) (aa (gN (kT K rfl) (pv 8) ah (λ_ _=>rfl)) (aa (rT d (pv 2) (pv 8) (λ_ _=>rfl)) ac)))))))
  (ae (dP jQ rfl (dQ K rfl (ci (p6 rfl) rfl T.z_list Gd.gx (aa (pv 3) ac))) (cc (i:=9) iT.nd rfl (Or.inl rfl)) (ai (aC (aE (pv 5) T.cl_Guild T.me_p9 (CV T) b.mm T.b_p9 .nil aD (aa (ci (cK K rfl) rfl T.z_list Gd.gx (aa (pv 9) ac)) (aa (rT d (pv 3) (pv 9) (λ_ _=>rfl)) ac))))))
  (ae (dP jQ rfl (dQ K rfl (pv 4)) (CG rfl (kM (cc (i:=6) iT.nd rfl (Or.inl rfl)) (kM (cc (i:=7) iT.nd rfl (Or.inl rfl)) yl))) (ai (aC (aE (pv 5) T.cl_Guild T.me_l9 (yr T) b.mm T.b_l9 .nil aD (aa (pv 6) (aa (pv 7) ac))))))
  (ai (bC (pv 5)))))))),?_⟩
 refine bT (Y:=aJ a K) (ms:=Dp) (more:=LK) (body:=wO) ?_ rfl rfl h
 exact(ar (dm (i:=5) (ba (wq (c:=0) (af (aF (fF 0)) aA) rfl)) rfl rfl)
  (ar (gK (ba (ss (fR 1))) (.inr rfl) (tg2 (ND (i:=6) rfl rfl) (ND (i:=7) rfl rfl)) (aN (eD (c:=0) (aO (i:=5)) (af (aF (rS (k:= .X) (ux (fR 6)))) (af (aF (rS (k:= .X) (ux (fR 7)))) aA)) ⟨rfl,trivial,trivial,trivial⟩ (by decide) (by decide))))
  (ar (gK (ba (nq (oF (ym (rc (fR 2)))))) (.inl rfl) (NE (i:=8) rfl rfl) (aN (eD (c:=0) (aO (i:=5)) (af (aF (rS (k:= .X) (ux (yn (rc (fR 8)) (fx pI))))) (af (aF (rS (k:= .X) (ux (yn (rc (fR 8)) (fx pI))))) (af (aF (rS (k:= .X) (ux (wx (rc (fR 2)) (ux (fR 8)))))) aA))) ⟨rfl,trivial,trivial,trivial,trivial⟩ (by decide) (by decide))))
  (ar (gK (ba (nq (oF (ym (rc (fR 3)))))) (.inl rfl) (NE (i:=9) rfl rfl) (aN (eD (c:=0) (aO (i:=5)) (af (aF (oF (lR (cS (k':= .F) (rc (fR 9)))))) (af (aF (rS (k:= .X) (ux (wx (rc (fR 3)) (ux (fR 9)))))) aA)) ⟨rfl,trivial,trivial,trivial⟩ (by decide) (by decide))))
  (ar (gK (ba (ss (fR 4))) (.inr rfl) (tg2 (ND (i:=6) rfl rfl) (ND (i:=7) rfl rfl)) (aN (eD (c:=0) (aO (i:=5)) (af (aF (rS (k:= .X) (ux (fR 6)))) (af (aF (rS (k:= .X) (ux (fR 7)))) aA)) ⟨rfl,trivial,trivial,trivial⟩ (by decide) (by decide))))
  (cg (qk (i:=5) rfl)))))))
theorem Lb(T:Txt K mg a base):FnOk P w K mg base (eu P w) 5 a.f_bh9 a.d_bh9 ["guild","post","kind","good","bad"] (dO (aJ a K) Dk (KR (aJ a K) .F) m_bh9):=by
 refine T.F_bh9.okX JP (λ_ _ _ _=>aQ) (λ_ _ _ _ _ _ _ _ b h=>?_)
 refine⟨_,(ae (bO (aK cV (pv 2) ah (a8 _)) (ai (aC (aE (pv 0) T.cl_Guild T.me_p9 (CV T) b.mm T.b_p9 .nil aD (aa (bp (aa (pv 4) (aa ah ac))) (aa ah ac))))) aV)
  (ae (bO (aK cV (pv 2) ah (a8 _)) (ai (aC (aE (pv 0) T.cl_Guild T.me_h9 (Il T) b.mm T.b_h9 .nil aD (aa (bp (aa (pv 3) (aa (pv 4) (aa ah ac)))) ac)))) aV)
  (ae (bO (aK cV (pv 2) ah (a8 _)) (ai (aC (aE (pv 1) T.cl_Post T.me_t9 (OB T) b.mm T.b_t9 .nil aD (aa (pv 4) ac)))) aV)
  (ae (bO (aK cV (pv 2) ah (a8 _)) (ai (aC (aE (pv 1) T.cl_Post T.me_u9 (Ih T) b.mm T.b_u9 .nil aD (aa (pv 4) (aa (pv 3) ac))))) aV)
  (ae (bO (aK cV (pv 2) ah (a8 _)) (ai (aC (aE (pv 1) T.cl_Post T.me_u9 (Ih T) b.mm T.b_u9 .nil aD (aa (pv 3) (aa (pv 4) ac))))) aV)
  (ai (bO (aK cV (pv 2) ah (a8 _)) (ai (aC (aE (pv 1) T.cl_Post T.me_s9 (OC T) b.mm T.b_s9 .nil aD (aa (pv 4) ac)))) aV))))))),?_⟩
 refine bg (Y:=aJ a K) (ms:=Dk) (more:=LD) (body:=wK) ?_ rfl rfl (λ_ _ _=>fi) h
 exact(ar (cQ (ba (cw (fx (aH fM (fx (fF 2)) (fx pI))))) (aN (eD (c:=0) (aO (i:=0)) (af (aF (oF (bP (ag (fF 4) (ag pI aL))))) (af (aF pI) aA)) ⟨rfl,trivial,trivial,trivial⟩ (by decide) (by decide))) bN)
  (ar (cQ (ba (cw (fx (aH fM (fx (fF 2)) (fx pI))))) (aN (ba (bQ (c:=0) (aX (fO 0)) (af (aF (oF (bP (ag (fF 3) (ag (fF 4) (ag pI aL)))))) aA) rfl))) bN)
  (ar (cQ (ba (cw (fx (aH fM (fx (fF 2)) (fx pI))))) (aN (ba (bQ (c:=1) (aU (fR 1)) (af (aF (fF 4)) aA) rfl))) bN)
  (ar (cQ (ba (cw (fx (aH fM (fx (fF 2)) (fx pI))))) (aN (ba (bQ (c:=1) (aU (fR 1)) (af (aF (fF 4)) (af (aF (fF 3)) aA)) rfl))) bN)
  (ar (cQ (ba (cw (fx (aH fM (fx (fF 2)) (fx pI))))) (aN (ba (bQ (c:=1) (aU (fR 1)) (af (aF (fF 3)) (af (aF (fF 4)) aA)) rfl))) bN)
  (cQ (ba (cw (fx (aH fM (fx (fF 2)) (fx pI))))) (aN (ba (db (c:=1) (aU (fR 1)) (af (aF (fF 4)) aA) rfl))) bN))))))
theorem Le(T:Txt K mg a base):FnOk P w K mg base (eu P w) 6 a.f_be9 a.d_be9 ["guild","post","kind","good","bad","row"] (dO (aJ a K) Do (KO (aJ a K) (.ct .fz)) m_be9):=by
 refine T.F_be9.okX rG (λ_ _ _ _=>aQ) (λ_ _ _ _ _ _ _ _ d h=>?_)
 refine⟨_,(ae (a7 (i:=6) rG.nd rfl (Or.inl rfl) (bp ac))
  (ae (Cz (j:=7) (ok:=okL K [.ref a.C_NoHouse,.ref a.C_NoRoad,.type "ValueError"]) rfl rfl (HA (aK cV (pv 2) ah (a8 _)) (rp (xM (pv 0) T.cl_Guild T.me_p9 (CV T) d.mm T.b_p9 .nil (aa (pv 5) (aa ah ac)) )) (HA (aK cV (pv 2) ah (a8 _)) (rp (xM (pv 0) T.cl_Guild T.me_h9 (Il T) d.mm T.b_h9 .nil (aa (pv 5) ac) )) (FQ (xN (Lh T) d.mm rfl T.m_bb9 T.F_bb9.kp T.b_bb9 .nil (aa (pv 0) (aa (pv 2) (aa (pv 3) (aa (pv 4) ac)))) ) (rp (xN (Lb T) d.mm rfl T.m_bh9 T.F_bh9.kp T.b_bh9 .nil (aa (pv 0) (aa (pv 1) (aa (pv 2) (aa (pv 3) (aa (pv 4) ac))))) ))))) rfl T.mgC_GuildError T.ek_GuildError rG.nd rfl rfl (Or.inl rfl) (λk f C e b=>(ai (a7 (i:=6) rG.nd rfl (Or.inl rfl) (bp (aa (cU (p7 (g:=.ref a.C_NoHouse) (c:=.ref a.C_NoHouse) e (λ_ h=>h) b.1 (b.kit 0 rfl)) rfl T.z_isinstance Gd.gG (aa (pv 7) (aa (fJ rfl T.mgC_NoHouse (v:=.ref a.C_NoHouse) rfl) ac))) (aa (cU (p7 (g:=.ref a.C_NoRoad) (c:=.ref a.C_NoRoad) e (λ_ h=>h) b.1 (b.kit 1 rfl)) rfl T.z_isinstance Gd.gG (aa (pv 7) (aa (fJ rfl T.mgC_NoRoad (v:=.ref a.C_NoRoad) rfl) ac))) (aa (cU (p7 (g:=.ty "ValueError") (c:=.type "ValueError") e (λ_ h=>h) b.1 (b.kit 2 rfl)) rfl T.z_isinstance Gd.gG (aa (pv 7) (aa (Gq rfl T.z_ValueError Gd.qm (v:=.ty "ValueError") rfl) ac))) ac))))))))
  (ai (bC (pv 6))))),?_⟩
 refine bT (Y:=aJ a K) (ms:=Do) (more:=LJ) (body:=wN) ?_ rfl rfl h
 exact(ar (dm (i:=6) (ba (bP aL)) rfl rfl)
  (ar (Gc (g:=10) (l:=[10,11,13,14]) (PF (λE=>(ba (cw (fx (aH fM (fx (fF 2)) (fx pI)))))) (xi λE=>(eD (c:=0) (aO (i:=0)) (af (aF (fF 5)) (af (aF pI) aA)) ⟨rfl,trivial,trivial,trivial⟩ (by decide) (by decide))) (PF (λE=>(ba (cw (fx (aH fM (fx (fF 2)) (fx pI)))))) (xi λE=>(ba (bQ (c:=0) (aX (fO 0)) (af (aF (fF 5)) aA) rfl))) (Me (λE=>(Dw (af (aO (i:=0)) (af (aF (fF 2)) (af (aF (fF 3)) (af (aF (fF 4)) aA)))) ⟨rfl,trivial,trivial,trivial,trivial⟩ (by decide) (by decide))) (xi λE=>(Dw (af (aO (i:=0)) (af (aU (fR 1)) (af (aF (fF 2)) (af (aF (fF 3)) (af (aF (fF 4)) aA))))) ⟨rfl,trivial,trivial,trivial,trivial,trivial⟩ (by decide) (by decide)))))) rfl (sw _ T.ek_GuildError T.sb_GuildError_GuildError ⟨T.xa_GuildError,(bA T.kt_GuildError_NoHouse (bA T.kt_GuildError_NoRoad (bA T.kt_GuildError_ValueError i5))).1⟩ (dm (i:=6) (ba (bP (ag pB (ag pB (ag pB aL))))) rfl rfl) (yG (L:=[(.ref a.C_NoHouse,.ref a.C_NoHouse),(.ref a.C_NoRoad,.ref a.C_NoRoad),(.ty "ValueError",.type "ValueError")]) (bl:=[false,false,true]) (bA T.kt_GuildError_NoHouse (bA T.kt_GuildError_NoRoad (bA T.kt_GuildError_ValueError i5))).2) (sw _ T.ek_NoHouse T.sb_NoHouse_GuildError ⟨T.xa_NoHouse,(bA T.kt_NoHouse_NoHouse (bA T.kt_NoHouse_NoRoad (bA T.kt_NoHouse_ValueError i5))).1⟩ (dm (i:=6) (ba (bP (ag pB (ag pB (ag pB aL))))) rfl rfl) (yG (L:=[(.ref a.C_NoHouse,.ref a.C_NoHouse),(.ref a.C_NoRoad,.ref a.C_NoRoad),(.ty "ValueError",.type "ValueError")]) (bl:=[true,false,true]) (bA T.kt_NoHouse_NoHouse (bA T.kt_NoHouse_NoRoad (bA T.kt_NoHouse_ValueError i5))).2) (sw _ T.ek_WayThere T.sb_WayThere_GuildError ⟨T.xa_WayThere,(bA T.kt_WayThere_NoHouse (bA T.kt_WayThere_NoRoad (bA T.kt_WayThere_ValueError i5))).1⟩ (dm (i:=6) (ba (bP (ag pB (ag pB (ag pB aL))))) rfl rfl) (yG (L:=[(.ref a.C_NoHouse,.ref a.C_NoHouse),(.ref a.C_NoRoad,.ref a.C_NoRoad),(.ty "ValueError",.type "ValueError")]) (bl:=[false,false,true]) (bA T.kt_WayThere_NoHouse (bA T.kt_WayThere_NoRoad (bA T.kt_WayThere_ValueError i5))).2) (sw _ T.ek_NoRoad T.sb_NoRoad_GuildError ⟨T.xa_NoRoad,(bA T.kt_NoRoad_NoHouse (bA T.kt_NoRoad_NoRoad (bA T.kt_NoRoad_ValueError i5))).1⟩ (dm (i:=6) (ba (bP (ag pB (ag pB (ag pB aL))))) rfl rfl) (yG (L:=[(.ref a.C_NoHouse,.ref a.C_NoHouse),(.ref a.C_NoRoad,.ref a.C_NoRoad),(.ty "ValueError",.type "ValueError")]) (bl:=[false,true,true]) (bA T.kt_NoRoad_NoHouse (bA T.kt_NoRoad_NoRoad (bA T.kt_NoRoad_ValueError i5))).2) Pv)))))
  (cg (qk (i:=6) rfl))))
theorem Oy(T:Txt K mg a base):FnOk P w K mg base (eu P w) 7 a.f_y9 a.d_y9 ["script"] (dO (aJ a K) Iy (KR (aJ a K) .F) m_y9):=by
 refine T.F_y9.okX eU (λ_ _ _ _=>aQ) (λ_ _ _ _ _ _ _ _ b h=>?_);have d:=b.units;have Ar:=Mi.Ar b
 refine⟨_,(ae (a7 (i:=1) eU.nd rfl (Or.inl rfl) (aG dW ah (aG bv (bw (iE T) b.mm rfl T.m_z9 T.F_z9.kp T.b_z9 .nil aD (aa (pv 0) (aa ah ac))) ah)))
  (ae (a7 (i:=2) eU.nd rfl (Or.inl rfl) (bw (Lg T) b.mm rfl T.m_bc9 T.F_bc9.kp T.b_bc9 .nil aD (aa (bw (iE T) b.mm rfl T.m_z9 T.F_z9.kp T.b_z9 .nil aD (aa (pv 0) (aa ah ac))) (aa (pv 1) ac))))
  (ae (a7 (i:=3) eU.nd rfl (Or.inl rfl) (bw (Li T) b.mm rfl T.m_ba9 T.F_ba9.kp T.b_ba9 .nil aD (aa (bw (iE T) b.mm rfl T.m_z9 T.F_z9.kp T.b_z9 .nil aD (aa (pv 0) (aa ah ac))) (aa (pv 1) ac))))
  (ae (a7 (i:=4) eU.nd rfl (Or.inl rfl) (bw (La T) b.mm rfl T.m_bj9 T.F_bj9.kp T.b_bj9 .nil aD (aa (bw (iE T) b.mm rfl T.m_z9 T.F_z9.kp T.b_z9 .nil aD (aa (pv 0) (aa ah ac))) (aa (pv 1) ac))))
  (ae (a7 (i:=5) eU.nd rfl (Or.inl rfl) (bw (Lf T) b.mm rfl T.m_bd9 T.F_bd9.kp T.b_bd9 .nil aD (aa (pv 1) (aa (bw (K9 T) b.mm rfl T.m_bk9 T.F_bk9.kp T.b_bk9 .nil aD (aa (bw (iE T) b.mm rfl T.m_z9 T.F_z9.kp T.b_z9 .nil aD (aa (pv 0) (aa ah ac))) (aa (pv 1) ac))) (aa (pv 2) (aa (pv 3) (aa (pv 4) ac)))))))
  (ae (a7 (i:=6) eU.nd rfl (Or.inl rfl) (rR T.mk_Post (OD T) b.mm rfl T.mgC_Post T.b_r9 .nil aD (aa (pv 5) ac)))
  (ae (a7 (i:=7) eU.nd rfl (Or.inl rfl) (aG dW ah (aG bv (bw (iE T) b.mm rfl T.m_z9 T.F_z9.kp T.b_z9 .nil aD (aa (pv 0) (aa ah ac))) (aG g9 (pv 1) ah))))
  (ae (a7 (i:=8) eU.nd rfl (Or.inl rfl) (bp (aa (H9 AY ah) (aa (pv 1) (aa (aG g9 (aG g9 ah ah) (aG bv (bw (iE T) b.mm rfl T.m_z9 T.F_z9.kp T.b_z9 .nil aD (aa (pv 0) (aa ah ac))) (aG CQ ah ah))) (aa (aG dW (pv 1) (aG bv (bw (iE T) b.mm rfl T.m_z9 T.F_z9.kp T.b_z9 .nil aD (aa (pv 0) (aa ah ac))) (aG CQ ah ah))) ac))))))
  (ae (a7 (i:=8) eU.nd rfl (Or.inl rfl) (gN (fc K rfl) (pv 8) (aG bv (bw (iE T) b.mm rfl T.m_z9 T.F_z9.kp T.b_z9 .nil aD (aa (pv 0) (aa ah ac))) ah) (λ_ _=>rfl)))
  (ae (a7 (i:=9) eU.nd rfl (Or.inl rfl) (bw (CY T) b.mm rfl T.m_bi9 T.F_bi9.kp T.b_bi9 .nil aD (aa (pv 5) (aa (pv 1) ac))))
  (ae (dP jQ rfl (dQ K rfl (bp (aa (bw (iE T) b.mm rfl T.m_z9 T.F_z9.kp T.b_z9 .nil aD (aa (pv 0) (aa ah ac))) (aa (bw (iE T) b.mm rfl T.m_z9 T.F_z9.kp T.b_z9 .nil aD (aa (pv 0) (aa ah ac))) (aa (bw (iE T) b.mm rfl T.m_z9 T.F_z9.kp T.b_z9 .nil aD (aa (pv 0) (aa ah ac))) ac))))) (cc (i:=10) eU.nd rfl (Or.inl rfl)) (ae (a7 (i:=11) eU.nd rfl (Or.inl rfl) (bw (Lc T) b.mm rfl T.m_bg9 T.F_bg9.kp T.b_bg9 .nil aD (aa (aG dU (pv 10) ah) (aa (pv 7) (aa (pv 8) (aa (pv 1) ac))))))
  (ae (a7 (i:=12) eU.nd rfl (Or.inl rfl) (bp (aa jB (aa jB (aa jB ac)))))
  (ae (bO (PW.pt (Cr (aK yo (aG bv (pv 10) ah) ah (a8 _)) (yf (aK (nQ K rfl Ar) (pv 8) (pv 11) (by with_unfolding_all rfl))))) (ai (a7 (i:=12) eU.nd rfl (Or.inl rfl) (bp (aa jB (aa jB (aa jB ac)))))) aV)
  (ai (bO (aK (Gu K rfl d) (bw (Le T) b.mm rfl T.m_be9 T.F_be9.kp T.b_be9 .nil aD (aa (pv 5) (aa (pv 6) (aa (aG bv (pv 10) ah) (aa (pv 7) (aa (pv 8) (aa (pv 11) ac))))))) (pv 12) (a8 _)) (ai (bC jB)) aV))))))
  (ae (dP jQ rfl (dg rfl T.z_range (aa (pv 1) ac)) (cc (i:=13) eU.nd rfl (Or.inl rfl)) (ae (aC (gO Sq SD SE dh (aE (pv 5) T.cl_Guild T.me_g9 (uo T) b.mm T.b_g9 .nil aD (aa (pv 13) ac)) (aa (pv 8) ac)))
  (ai (aC (gO Sq SD SE dh (aE (pv 5) T.cl_Guild T.me_m9 (yq T) b.mm T.b_m9 .nil aD (aa (pv 13) ac)) (aa (pv 8) ac))))))
  (ae (aC (gO Sq SD SE dh (aE (pv 5) T.cl_Guild T.me_m9 (yq T) b.mm T.b_m9 .nil aD (aa (pv 7) ac)) (aa ah ac)))
  (ae (dP jQ rfl (dQ K rfl (gM (pv 5) T.cl_Guild T.me_q9 (CU T) b.mm T.b_q9 .nil aD)) (cc (i:=14) eU.nd rfl (Or.inl rfl)) (ai (aC (gO Sq SD SE dh (gN (kT K rfl) (pv 14) ah (λ_ _=>rfl)) (aa (pv 8) ac)))))
  (ae (aC (KP Sq PySem.F.slot_list_clear PySem.F.type_list_clear Df (gM (pv 5) T.cl_Guild T.me_q9 (CU T) b.mm T.b_q9 .nil aD)))
  (ai (bC (Gp (yp K rfl d) (bw (CY T) b.mm rfl T.m_bi9 T.F_bi9.kp T.b_bi9 .nil aD (aa (pv 5) (aa (pv 1) ac))) (pv 9) (a8 _))))))))))))))))))),?_⟩
 refine bg (Y:=aJ a K) (ms:=Iy) (more:=OP) (body:=Dy) ?_ rfl rfl (λ_ _ _=>fi) h
 exact(ar (br (i:=1) (ba (aH gh (fx pI) (fx (aH b6 (fx (dt (af (aU (fR 0)) (af (aF pI) aA)) rfl)) (fx pI))))) rfl rfl)
  (ar (br (i:=2) (ba (oF (gk (af (aF (dt (af (aU (fR 0)) (af (aF pI) aA)) rfl)) (af (aF (fF 1)) aA)) rfl))) rfl rfl)
  (ar (br (i:=3) (ba (oF (gk (af (aF (dt (af (aU (fR 0)) (af (aF pI) aA)) rfl)) (af (aF (fF 1)) aA)) rfl))) rfl rfl)
  (ar (br (i:=4) (ba (oF (gk (af (aF (dt (af (aU (fR 0)) (af (aF pI) aA)) rfl)) (af (aF (fF 1)) aA)) rfl))) rfl rfl)
  (ar (dm (i:=5) (ba (gk (af (aF (fF 1)) (af (aF (oF (gk (af (aF (dt (af (aU (fR 0)) (af (aF pI) aA)) rfl)) (af (aF (fF 1)) aA)) rfl))) (af (aF (fF 2)) (af (aF (fF 3)) (af (aF (fF 4)) aA))))) rfl)) rfl rfl)
  (ar (dm (i:=6) (ba (wq (c:=1) (af (aX (fO 5)) aA) rfl)) rfl rfl)
  (ar (br (i:=7) (ba (aH gh (fx pI) (fx (aH b6 (fx (dt (af (aU (fR 0)) (af (aF pI) aA)) rfl)) (fx (aH kK (fx (fF 1)) (fx pI))))))) rfl rfl)
  (ar (br (i:=8) (ba (oF (bP (ag (KQ HQ (fx pI)) (ag (fF 1) (ag (aH kK (fx (aH kK (fx pI) (fx pI))) (fx (aH b6 (fx (dt (af (aU (fR 0)) (af (aF pI) aA)) rfl)) (fx (aH HP (fx pI) (fx pI)))))) (ag (aH gh (fx (fF 1)) (fx (aH b6 (fx (dt (af (aU (fR 0)) (af (aF pI) aA)) rfl)) (fx (aH HP (fx pI) (fx pI)))))) aL))))))) rfl rfl)
  (ar (br (i:=8) (ba (mf (rc (fF 8)) (fx (aH b6 (fx (dt (af (aU (fR 0)) (af (aF pI) aA)) rfl)) (fx pI))))) rfl rfl)
  (ar (br (i:=9) (ba (oF (gk (af (aX (fO 5)) (af (aF (fF 1)) aA)) rfl))) rfl rfl)
  (ar (gK (ba (nq (oF (bP (ag (dt (af (aU (fR 0)) (af (aF pI) aA)) rfl) (ag (dt (af (aU (fR 0)) (af (aF pI) aA)) rfl) (ag (dt (af (aU (fR 0)) (af (aF pI) aA)) rfl) aL))))))) (.inl rfl) (FP (i:=10) rfl rfl) (ar (br (i:=11) (ba (dt (af (aF (aH fL (fx (fF 10)) (fx pI))) (af (aF (fF 7)) (af (aF (fF 8)) (af (aF (fF 1)) aA)))) rfl)) rfl rfl)
  (ar (br (i:=12) (ba (oF (bP (ag pB (ag pB (ag pB aL)))))) rfl rfl)
  (ar (cQ (ba (Cw (cw (fx (aH Ge (fx (aH b6 (fx (fF 10)) (fx pI))) (fx pI)))) (cw (fx (aH Bz (fx (fF 8)) (fx (fF 11))))))) (br (i:=12) (ba (oF (bP (ag pB (ag pB (ag pB aL)))))) rfl rfl) bN)
  (cQ (Ra (mux (mfu (Rb wg (moF (GE (af (aO (i:=5)) (af (aB (i:=6)) (af (aF (aH b6 (fx (fF 10)) (fx pI))) (af (aF (fF 7)) (af (aF (fF 8)) (af (aF (fF 11)) aA)))))) ⟨rfl,trivial,trivial,trivial,trivial,trivial,trivial⟩ (by decide) (by decide))) (ba (fx (fF 12))))))) (cg (ba pB)) bN)))))
  (ar (gK (ba (sr (fx (fF 1)))) (.inl rfl) (FP (i:=13) rfl rfl) (ar (aN (wW (db (c:=0) (aX (fO 5)) (af (aF (fF 13)) aA) rfl) (fF 8)))
  (aN (wW (db (c:=0) (aX (fO 5)) (af (aF (fF 13)) aA) rfl) (fF 8)))))
  (ar (aN (wW (db (c:=0) (aX (fO 5)) (af (aF (fF 7)) aA) rfl) pI))
  (ar (BA (j:=14) (i:=8) (rP (c:=0) (aX (fO 5)) aA rfl) rfl)
  (ar (aN (LP (rP (c:=0) (aX (fO 5)) aA rfl)))
  (cg (ba (aH wg (fx (oF (gk (af (aX (fO 5)) (af (aF (fF 1)) aA)) rfl))) (fx (fF 9))))))))))))))))))))
end K23
namespace K23
open PySem L2 Mi Cl
noncomputable section
structure GΩ where
 hω:Int
 U:(DI Bool)
 lω:(DI Int)
 sω:(DI Bool)
 wω:(DI Int)
def aq:GΩ->D:=λg=>.obj 0 ["house_count","ways","likings","shuns","wish_ranks"] [D.int g.hω,(bR D.bl) g.U,(bR D.int) g.lω,(bR D.bl) g.sω,(bR D.int) g.wω]
structure PostT where
 guild:GΩ
 roads:(List (Option (List Int)))
 told_last:(DI (Option (List Int)))
 written_last:(DI (Option (List Int)))
 letters:(DI (Option (List Int)))
 standings:(List (DJ (Int×Int×(List Int))))
def cu:PostT->D:=λg=>.obj 1 ["guild","roads","told_last","written_last","letters","standings"] [aq g.guild,(eL (eO (eL D.int))) g.roads,(bR (eO (eL D.int))) g.told_last,(bR (eO (eL D.int))) g.written_last,(bR (eO (eL D.int))) g.letters,(eL (PL (eT3 D.int D.int (eL D.int)))) g.standings]
theorem cp(g:GΩ):SimR D.int (cy 0 "house_count" (aq g)) (.ok g.hω):=rfl
theorem eQ(g:GΩ):SimR (bR D.bl) (cy 0 "ways" (aq g)) (.ok g.U):=rfl
theorem gP(g:GΩ):SimR (bR D.int) (cy 0 "likings" (aq g)) (.ok g.lω):=rfl
theorem iY(g:GΩ):SimR (bR D.bl) (cy 0 "shuns" (aq g)) (.ok g.sω):=rfl
theorem gm(g:GΩ):SimR (bR D.int) (cy 0 "wish_ranks" (aq g)) (.ok g.wω):=rfl
theorem eM(g:PostT):SimR aq (cy 1 "guild" (cu g)) (.ok g.guild):=rfl
theorem jC(g:PostT):SimR (eL (eO (eL D.int))) (cy 1 "roads" (cu g)) (.ok g.roads):=rfl
theorem wz(g:PostT):SimR (bR (eO (eL D.int))) (cy 1 "told_last" (cu g)) (.ok g.told_last):=rfl
theorem iX(g:PostT):SimR (bR (eO (eL D.int))) (cy 1 "written_last" (cu g)) (.ok g.written_last):=rfl
def mk_Guild(size:Int):Res GΩ:=if 1<=size/\size<=60 then .ok ⟨size,[],[],[],[]⟩ else .exc 11
theorem jE(size:Int):SimR aq (fV 0 uF [.int size]) (mk_Guild size):=by
 unfold mk_Guild;by_cases h:1<=size/\size<=60
 · rw[RF h];have a:¬ size<1:=by omega
   have b:¬ 60<size:=by omega
   show fV 0 uF [.int size]=_;unfold fV uF Mi.run;rw[uD];simp[ay,gc,aP,Ie,d8,bn,aM,rg,FN,a,b,bH,cX,l9,dD,na,bD];rfl
 · rw[if_neg h];show fV 0 uF [.int size]=.exc 11;unfold fV uF Mi.run;rw[uD];by_cases a:size<1
   ·simp[ay,gc,aP,Ie,d8,bn,aM,rg,FN,a,fk]
   · have b:60<size:=by omega
     simp[ay,gc,aP,Ie,d8,bn,aM,rg,FN,a,b,fk]
structure S_c9 where
 vyq:GΩ
 voq:(DI Bool)
 v0q:Int
def Cf:S_c9->L4:=λs=>[some (aq s.vyq),some ((bR D.bl) s.voq),some (D.int s.v0q)]
abbrev QE:=S_c9->FlC S_c9 (List Int)
def zf:QE:=dq (bj (gW (b8 (iO 0) (b8 (λg=>.ok g.hω) (pC (·.vyq)))) (bc (EU false) (b8 fT (mT (pC λp=>p.2.v0q) (pC λp=>p.1))) (pC λp=>p.2.voq)) (pC λp=>p.1)))
def Fn:QE:=zf
def FE(b:GΩ)(a:DI Bool)(c:Int):OutC S_c9 (List Int):=cF none (Fn ⟨b,a,c⟩)
theorem Qn:Cl.TJ Cf (eL D.int) DW Fn:=bB (am (kY (gw (bo cp xp)) (a9 (ao (C6 false) (dN dk (ce xp xp)) xp)) xp))
theorem Js(b:GΩ)(a:DI Bool)(c:Int):SimO Cf (eL D.int) (GL [aq b,(bR D.bl) a,D.int c]) (FE b a c):=dZ Qn rfl
structure S_n9 where
 vyq:GΩ
def wm:S_n9->L4:=λs=>[some (aq s.vyq)]
abbrev QC:=S_n9->FlC S_n9 Int
def G6:QC:=dq (bj (b8 (λg=>.ok g.hω) (pC (·.vyq))))
def Jv:QC:=G6
def RC(a:GΩ):OutC S_n9 Int:=cF none (Jv ⟨a⟩)
theorem Qb:Cl.TJ wm D.int DL Jv:=bB (am (cY (λ_=>rfl) (bo cp xp)))
theorem Qw(a:GΩ):SimO wm D.int (oh [aq a]) (RC a):=jY Qb rfl
structure S_q9 where
 vyq:GΩ
def BY:S_q9->L4:=λs=>[some (aq s.vyq)]
abbrev QB:=S_q9->FlC S_q9 (List ((List Int)×Int))
def yX:QB:=dq (bj (gW (b8 v9 (b8 (λg=>.ok g.wω) (pC (·.vyq)))) (λ_=>.ok true) (mT (b8 yD (pC λp=>p.1)) (bc Nw (b8 (λg=>.ok g.wω) (pC λp=>p.2.vyq)) (pC λp=>p.1)))))
def Fj:QB:=yX
def xJ(a:GΩ):OutC S_q9 (List ((List Int)×Int)):=cF none (Fj ⟨a⟩)
theorem P8:Cl.TJ BY (eL (mH (eL D.int) D.int)) DG Fj:=bB (am (kY (gv (bo Gy (bo gm xp))) xj (ce (oO (rE (λ_=>rfl)) (bo yu xp)) (cY (λ_=>rfl) (ao wA (bo gm xp) xp)))))
theorem E8(a:GΩ):SimO BY (eL (mH (eL D.int) D.int)) (D0 [aq a]) (xJ a):=dZ P8 rfl
structure S_v9 where
 vyq:PostT
 vDq:Int
 vrq:Int
 vtq:Option (Option (List Int))
def BU:S_v9->L4:=λs=>[some (cu s.vyq),some (D.int s.vDq),some (D.int s.vrq),s.vtq.map (eO (eL D.int))]
abbrev AQ:=S_v9->FlC S_v9 Unit
def sT:AQ:=bU (λa s=>{s with vtq:=some a}) (bj (bc xa (b8 (λg=>.ok g.roads) (pC (·.vyq))) (pC (·.vDq))))
def mK:AQ:=HW ()
def sS:AQ:=iG (bj (bc (jF false) (bc EV (b8 (λg=>.ok g.written_last) (pC (·.vyq))) (b8 fT (mT (pC (·.vDq)) (pC (·.vrq))))) (vC (·.vtq))))
 mK
 bM
def yT:AQ:=jG (λs=>some s.vyq.written_last) (λs y=>{s with vyq:={s.vyq with written_last:=y}}) (b8 fT (mT (pC (·.vDq)) (pC (·.vrq)))) (bj (vC (·.vtq)))
def yS:AQ:=jG (λs=>some s.vyq.letters) (λs y=>{s with vyq:={s.vyq with letters:=y}}) (b8 fT (mT (pC (·.vDq)) (pC (·.vrq)))) (bj (vC (·.vtq)))
def Ff:AQ:=aI sT
 (aI sS
 (aI yT
 yS))
def Hv(c:PostT)(b:Int)(a:Int):OutC S_v9 Unit:=cF (some ()) (Ff ⟨c,b,a,none⟩)
theorem P4:Cl.TJ BU eN DB Ff:=ak (xs (am (ao nV (bo jC xp) xp)))
 (ak (bK (am (a9 (ao (C5 (PU (oR oT) (E3 _)) (by decide) false) (uX (bo iX xp) (dN dk (ce xp xp))) xv)))
 (FO rfl)
 aZ)
 (ak (fD (λ_=>rfl) (λ_ _=>rfl) (dN dk (ce xp xp)) (am xv))
 (fD (λ_=>rfl) (λ_ _=>rfl) (dN dk (ce xp xp)) (am xv))))
theorem Qs(c:PostT)(b:Int)(a:Int):SimO BU eN (LO [cu c,D.int b,D.int a]) (Hv c b a):=f6 (d:=()) rfl P4 rfl
structure S_z9 where
 vvq:(List Int)
 vfq:Int
def BR:S_z9->L4:=λs=>[some (eS s.vvq),some (D.int s.vfq)]
abbrev Ho:=S_z9->FlC S_z9 Int
def mJ:Ho:=dq (bj (bc xa (pC (·.vvq)) (pC (·.vfq))))
def yQ:Ho:=iG (bj (bc Nr (pC (·.vfq)) (b8 si (pC (·.vvq)))))
 mJ
 bM
def yP:Ho:=dq (bj (kC (0:Int)))
def Fc:Ho:=aI yQ
 yP
def jz(a:List Int)(b:Int):OutC S_z9 Int:=cF none (Fc ⟨a,b⟩)
theorem PX:Cl.TJ BR D.int Dx Fc:=ak (bK (am (a9 (ao C1 xp (bo Ll xp))))
 (bB (am (cY (λ_=>rfl) (ao OJ xp xp))))
 aZ)
 (bB (am xk))
theorem iJ(a:List Int)(b:Int):SimO BR D.int (m_z9 [eS a,D.int b]) (jz a b):=jY PX rfl
structure S_bc9 where
 v4q:Int
 vAq:Int
 vaq:Option (DI Int)
 vfq:Option Int
def ya:S_bc9->L4:=λs=>[some (D.int s.v4q),some (D.int s.vAq),s.vaq.map (bR D.int),s.vfq.map D.int]
abbrev qb:=S_bc9->FlC S_bc9 (DI Int)
def vH:qb:=bU (λa s=>{s with vaq:=some a}) (bj (kC ([]:DI Int)))
def pO:qb:=bU (λa s=>{s with v4q:=a}) (bj (bc dC (bc jy (bc Aa (pC (·.v4q)) (kC (48271:Int))) (kC (11:Int))) (kC (2147483647:Int))))
def pM:qb:=jG (λs=>s.vaq) (λs y=>{s with vaq:=some y}) (b8 fT (mT (bc dC (pC (·.v4q)) (pC (·.vAq))) (bc dC (bc iH (pC (·.v4q)) (kC (7:Int))) (pC (·.vAq))))) (bj (bc qg (bc dC (bc iH (pC (·.v4q)) (kC (49:Int))) (kC (7:Int))) (kC (3:Int))))
def pZ:qb:=aI pO
 pM
def vG:qb:=fb (b8 (iO 0) (bc dC (pC (·.v4q)) (kC (5:Int)))) (λa s=>{s with vfq:=some a})
 pZ
def vF:qb:=dq (AT (λs=>s.vaq) (λs=>{s with vaq:=none}))
def xz:qb:=aI vH
 (aI vG
 vF)
def zC(b:Int)(a:Int):OutC S_bc9 (DI Int):=cF none (xz ⟨b,a,none,none⟩)
theorem MB:Cl.TJ ya (bR D.int) wP xz:=ak (xs (am (sF rfl)))
 (ak (c9 (gw (ao b7 xp xk)) (λ_ _=>rfl)
 (ak (xs (am (ao b7 (ao gp (ao uq xp xk) xk) xk)))
 (fD (λ_=>rfl) (λ_ _=>rfl) (dN dk (ce (ao b7 xp xp) (ao b7 (ao fU xp xk) xp))) (am (ao kQ (ao b7 (ao fU xp xk) xk) xk)))))
 (bB (jD (λ_=>rfl) (λ_=>rfl))))
theorem MP(b:Int)(a:Int):SimO ya (bR D.int) (m_bc9 [D.int b,D.int a]) (zC b a):=dZ MB rfl
structure S_bf9 where
 v4q:Int
 vdq:Int
 vAq:Int
 vsq:Option (List Int)
 vtq:Option (List Int)
 vjq:Option Int
def rM:S_bf9->L4:=λs=>[some (D.int s.v4q),some (D.int s.vdq),some (D.int s.vAq),s.vsq.map (eL D.int),s.vtq.map (eL D.int),s.vjq.map D.int]
abbrev gY:=S_bf9->FlC S_bf9 (List Int)
def pK:gY:=bU (λa s=>{s with vsq:=some a}) (bj (gW (bc iO (kC (1:Int)) (pC (·.vAq))) (bc (jF true) (pC λp=>p.1) (pC λp=>p.2.vdq)) (pC λp=>p.1)))
def pJ:gY:=bU (λa s=>{s with vtq:=some a}) (bj (jx (aR (pC (·.vdq)) (dy:_->Res (List Int)))))
def pH:gY:=bU (λa s=>{s with vjq:=some a}) (bj (bc dC (pC (·.v4q)) (kC (4:Int))))
def lu:gY:=bU (λa s=>{s with vjq:=some a}) (bj (pC (·.vAq)))
def pG:gY:=iG (bj (bc (jF false) (bc dC (bc iH (pC (·.v4q)) (kC (4:Int))) (kC (8:Int))) (kC (3:Int))))
 lu
 bM
def pF:gY:=bU (λa s=>{s with v4q:=a}) (bj (bc iH (pC (·.v4q)) (kC (4:Int))))
def pE:gY:=bb (M5 (λs=>s.vtq) (λs y=>{s with vtq:=some y}) (Pn (λs=>s.vsq) (λs y=>{s with vsq:=some y}) CC (bc dC (pC (·.v4q)) (b8 si (vC (·.vsq))))))
def pD:gY:=bU (λa s=>{s with v4q:=a}) (bj (bc iH (pC (·.v4q)) (kC (5:Int))))
def pA:gY:=bU (λa s=>{s with vjq:=some a}) (bj (bc qg (vC (·.vjq)) (kC (1:Int))))
def pY:gY:=aI pE
 (aI pD
 pA)
def vt:gY:=Jx (bj (Hl (bc Nv (vC (·.vjq)) (kC (0:Int))) (bc Nv (b8 si (vC (·.vsq))) (kC (0:Int)))))
 pY 100000
def vq:gY:=dq (bj (bc tM (vC (·.vtq)) (jx (aR (kC (0:Int)) (dy:_->Res (List Int))))))
def xw:gY:=aI pK
 (aI pJ
 (aI pH
 (aI pG
 (aI pF
 (aI vt
 vq)))))
def zA(c:Int)(a:Int)(b:Int):OutC S_bf9 (List Int):=cF none (xw ⟨c,a,b,none,none,none⟩)
theorem My:Cl.TJ rM (eL D.int) wM xw:=ak (xs (am (kY (xl xk xp) (a9 (ao (cD true) xp xp)) xp)))
 (ak (xs (am (bF (aw xp bE))))
 (ak (xs (am (ao b7 xp xk)))
 (ak (bK (am (a9 (ao (cD false) (ao b7 (ao fU xp xk) xk) xk)))
 (xs (am xp))
 aZ)
 (ak (xs (am (ao fU xp xk)))
 (ak (A7 (rep:=rM) (am (yK (a9 (ao Lm xv xk)) (a9 (ao Lm (bo nT xv) xk))))
 (ak (az (Lw (λ_=>rfl) (λ_ _=>rfl) (Da (λ_=>rfl) (λ_ _=>rfl) PD (ao b7 xp (bo nT xv)))))
 (ak (xs (am (ao fU xp xk)))
 (xs (am (ao kQ xv xk))))) 100000)
 (bB (am (ao C7 xv (bF (aw xk bE))))))))))
theorem MM(c:Int)(a:Int)(b:Int):SimO rM (eL D.int) (m_bf9 [D.int c,D.int a,D.int b]) (zA c a b):=dZ My rfl
structure S_bg9 where
 v4q:Int
 vbq:Int
 v3q:Int
 vAq:Int
 v9q:Option Int
 vuq:Option (List Int)
 v1q:Option Int
def x8:S_bg9->L4:=λs=>[some (D.int s.v4q),some (D.int s.vbq),some (D.int s.v3q),some (D.int s.vAq),s.v9q.map D.int,s.vuq.map (eL D.int),s.v1q.map D.int]
abbrev qa:=S_bg9->FlC S_bg9 (List Int)
def pz:qa:=bU (λa s=>{s with v9q:=some a}) (bj (bc jy (kC (1:Int)) (bc dC (pC (·.vbq)) (bc qg (pC (·.vAq)) (kC (1:Int))))))
def pw:qa:=bU (λa s=>{s with vuq:=some a}) (bj (bc xa (jx (aR (jx (dy:_->Res (List Int))) (aR (jx (aR (kC (0:Int)) (dy:_->Res (List Int)))) (aR (jx (aR (pC (·.vbq)) (dy:_->Res (List Int)))) (aR (jx (aR (pC (·.vbq)) (aR (vC (·.v9q)) (dy:_->Res (List Int))))) (aR (jx (aR (pC (·.vbq)) (aR (kC (0:Int)) (aR (kC (0:Int)) (dy:_->Res (List Int)))))) (aR (jx (aR (pC (·.vbq)) (aR (vC (·.v9q)) (aR (pC (·.vbq)) (aR (kC (0:Int)) (dy:_->Res (List Int))))))) (aR (jx (aR (kC (0:Int)) (aR (pC (·.vbq)) (aR (kC (0:Int)) (dy:_->Res (List Int)))))) (dy:_->Res (List (List Int))))))))))) (bc dC (pC (·.v4q)) (kC (7:Int)))))
def ir:qa:=bU (λa s=>{s with v1q:=some a}) (bj (bc dC (bc iH (pC (·.v4q)) (kC (14:Int))) (bc jy (b8 si (vC (·.vuq))) (kC (1:Int)))))
def iq:qa:=bU (λa s=>{s with vuq:=some a}) (bj (bc tM (bc tM (bc Bb (vC (·.vuq)) (vC (·.v1q))) (jx (aR (pC (·.v3q)) (dy:_->Res (List Int))))) (bc EQ (vC (·.vuq)) (vC (·.v1q)))))
def lq:qa:=iG (bj (bc (jF false) (bc dC (bc iH (pC (·.v4q)) (kC (7:Int))) (kC (2:Int))) (kC (1:Int))))
 (aI ir
 iq)
 bM
def pq:qa:=dq (bj (vC (·.vuq)))
def xu:qa:=aI pz
 (aI pw
 (aI lq
 pq))
def zz(c:Int)(b:Int)(d:Int)(a:Int):OutC S_bg9 (List Int):=cF none (xu ⟨c,b,d,a,none,none,none⟩)
theorem Mx:Cl.TJ x8 (eL D.int) wL xu:=ak (xs (am (ao gp xk (ao b7 xp (ao kQ xp xk)))))
 (ak (xs (am (ao nV (bF (aw (bF bE) (aw (bF (aw xk bE)) (aw (bF (aw xp bE)) (aw (bF (aw xp (aw xv bE))) (aw (bF (aw xp (aw xk (aw xk bE)))) (aw (bF (aw xp (aw xv (aw xp (aw xk bE))))) (aw (bF (aw xk (aw xp (aw xk bE)))) bE)))))))) (ao b7 xp xk))))
 (ak (bK (am (a9 (ao (cD false) (ao b7 (ao fU xp xk) xk) xk)))
 (ak (xs (am (ao b7 (ao fU xp xk) (ao gp (bo nT xv) xk))))
 (xs (am (ao C7 (ao C7 (ao Lj xv xv) (bF (aw xp bE))) (ao Ln xv xv)))))
 aZ)
 (bB (am xv))))
theorem ML(c:Int)(b:Int)(d:Int)(a:Int):SimO x8 (eL D.int) (m_bg9 [D.int c,D.int b,D.int d,D.int a]) (zz c b d a):=jY Mx rfl
structure S_bj9 where
 v4q:Int
 vAq:Int
 vzq:Option L3
 vfq:Option Int
 v0q:Option Int
 v2q:Option Int
def xY:S_bj9->L4:=λs=>[some (D.int s.v4q),some (D.int s.vAq),s.vzq.map (eL (mH D.int D.int)),s.vfq.map D.int,s.v0q.map D.int,s.v2q.map D.int]
abbrev iL:=S_bj9->FlC S_bj9 L3
def pe:iL:=bU (λa s=>{s with vzq:=some a}) (bj (jx (dy:_->Res L3)))
def k8:iL:=dq (AT (λs=>s.vzq) (λs=>{s with vzq:=none}))
def o9:iL:=iG (bj (bc Nr (pC (·.vAq)) (kC (2:Int))))
 k8
 bM
def ke:iL:=bU (λa s=>{s with v4q:=a}) (bj (bc dC (bc jy (bc Aa (pC (·.v4q)) (kC (48271:Int))) (kC (23:Int))) (kC (2147483647:Int))))
def kc:iL:=bU (λa s=>{s with v0q:=some a}) (bj (bc dC (pC (·.v4q)) (pC (·.vAq))))
def ka:iL:=bU (λa s=>{s with v2q:=some a}) (bj (bc dC (bc jy (bc jy (vC (·.v0q)) (kC (1:Int))) (bc dC (bc iH (pC (·.v4q)) (kC (7:Int))) (bc qg (pC (·.vAq)) (kC (1:Int))))) (pC (·.vAq))))
def jd:iL:=bb (Pn (λs=>s.vzq) (λs y=>{s with vzq:=some y}) tR (mT (vC (·.v0q)) (vC (·.v2q))))
def j9:iL:=iG (bj (bc (Rf true) (mT (vC (·.v0q)) (vC (·.v2q))) (vC (·.vzq))))
 jd
 bM
def lI:iL:=aI ke
 (aI kc
 (aI ka
 j9))
def vm:iL:=fb (b8 (iO 0) (bc dC (pC (·.v4q)) (kC (3:Int)))) (λa s=>{s with vfq:=some a})
 lI
def vk:iL:=dq (AT (λs=>s.vzq) (λs=>{s with vzq:=none}))
def tJ:iL:=aI pe
 (aI o9
 (aI vm
 vk))
def vZ(b:Int)(a:Int):OutC S_bj9 L3:=cF none (tJ ⟨b,a,none,none,none,none⟩)
theorem Mu:Cl.TJ xY (eL (mH D.int D.int)) wI tJ:=ak (xs (am (bF bE)))
 (ak (bK (am (a9 (ao C1 xp xk)))
 (bB (jD (λ_=>rfl) (λ_=>rfl)))
 aZ)
 (ak (c9 (gw (ao b7 xp xk)) (λ_ _=>rfl)
 (ak (xs (am (ao b7 (ao gp (ao uq xp xk) xk) xk)))
 (ak (xs (am (ao b7 xp xp)))
 (ak (xs (am (ao b7 (ao gp (ao gp xv xk) (ao b7 (ao fU xp xk) (ao kQ xp xk))) xp)))
 (bK (am (a9 (ao (C0 (E2 oT oT) (by decide)) (ce xv xv) xv)))
 (az (Da (λ_=>rfl) (λ_ _=>rfl) EI (ce xv xv)))
 aZ)))))
 (bB (jD (λ_=>rfl) (λ_=>rfl)))))
theorem MI(b:Int)(a:Int):SimO xY (eL (mH D.int D.int)) (m_bj9 [D.int b,D.int a]) (vZ b a):=dZ Mu rfl
structure S_bk9 where
 v4q:Int
 vAq:Int
 vwq:Option Int
 vBq:Option L3
 vfq:Option Int
 v0q:Option Int
 v2q:Option Int
def xX:S_bk9->L4:=λs=>[some (D.int s.v4q),some (D.int s.vAq),s.vwq.map D.int,s.vBq.map (eL (mH D.int D.int)),s.vfq.map D.int,s.v0q.map D.int,s.v2q.map D.int]
abbrev ji:=S_bk9->FlC S_bk9 L3
def vh:ji:=bU (λa s=>{s with vwq:=some a}) (bj (bc dC (bc Aa (bc dC (bc Aa (bc jy (pC (·.v4q)) (kC (1:Int))) (kC (48271:Int))) (kC (2147483647:Int))) (kC (16807:Int))) (kC (2147483647:Int))))
def vg:ji:=bU (λa s=>{s with vBq:=some a}) (bj (jx (dy:_->Res L3)))
def vf:ji:=bU (λa s=>{s with vfq:=some a}) (bj (kC (0:Int)))
def gS:ji:=bb (Pn (λs=>s.vBq) (λs y=>{s with vBq:=some y}) tR (mT (vC (·.v0q)) (vC (·.v2q))))
def ip:ji:=iG (bj (bc (jF false) (bc dC (bc NN (vC (·.vwq)) (bc dC (vC (·.vfq)) (kC (29:Int)))) (kC (2:Int))) (kC (1:Int))))
 gS
 bM
def io:ji:=bU (λa s=>{s with vfq:=some a}) (bj (bc jy (vC (·.vfq)) (kC (1:Int))))
def iz:ji:=aI ip
 io
def j8:ji:=fb (bc iO (bc jy (vC (·.v0q)) (kC (1:Int))) (pC (·.vAq))) (λa s=>{s with v2q:=some a})
 iz
def ve:ji:=fb (b8 (iO 0) (pC (·.vAq))) (λa s=>{s with v0q:=some a})
 j8
def vd:ji:=dq (AT (λs=>s.vBq) (λs=>{s with vBq:=none}))
def xq:ji:=aI vh
 (aI vg
 (aI vf
 (aI ve
 vd)))
def zw(b:Int)(a:Int):OutC S_bk9 L3:=cF none (xq ⟨b,a,none,none,none,none,none⟩)
theorem Mt:Cl.TJ xX (eL (mH D.int D.int)) wH xq:=ak (xs (am (ao b7 (ao uq (ao b7 (ao uq (ao gp xp xk) xk) xk) xk) xk)))
 (ak (xs (am (bF bE)))
 (ak (xs (am xk))
 (ak (c9 (gw xp) (λ_ _=>rfl)
 (c9 (xl (ao gp xv xk) xp) (λ_ _=>rfl)
 (ak (bK (am (a9 (ao (cD false) (ao b7 (ao OG xv (ao b7 xv xk)) xk) xk)))
 (az (Da (λ_=>rfl) (λ_ _=>rfl) EI (ce xv xv)))
 aZ)
 (xs (am (ao gp xv xk))))))
 (bB (jD (λ_=>rfl) (λ_=>rfl))))))
theorem MH(b:Int)(a:Int):SimO xX (eL (mH D.int D.int)) (m_bk9 [D.int b,D.int a]) (zw b a):=dZ Mt rfl
structure S_x9 where
 vtq:(Option (List Int))
def BS:S_x9->L4:=λs=>[some ((eO (eL D.int)) s.vtq)]
abbrev Hq:=S_x9->FlC S_x9 (Option (List Int))
def u9:Hq:=dq (λs=>Fq ((bj (kC ())) s) λa s=>bndO ((Iv:Unit->Res (Option (List Int))) a) s λb=>.ok b s)
def G2:Hq:=iG (bj (b8 (L9 false Lp) (pC (·.vtq))))
 u9
 bM
def G1:Hq:=dq (λs=>Fq ((bj (b8 yD (b8 K2 (pC (·.vtq))))) s) λa s=>bndO (HH a) s λb=>.ok b s)
def Ju:Hq:=aI G2
 G1
def Nn(a:Option (List Int)):OutC S_x9 (Option (List Int)):=cF (some none) (Ju ⟨a⟩)
theorem PZ:Cl.TJ BS (eO (eL D.int)) Dz Ju:=ak (bK (am (a9 (EM (I9 (λ_=>rfl)) xp)))
 (bB (uu Hi (am xk)))
 aZ)
 (bB (uu M0 (am (bo rZ (dN zt (oO (JM (rE (λ_=>rfl))) xp))))))
theorem Jn(a:Option (List Int)):SimO BS (eO (eL D.int)) (m_x9 [(eO (eL D.int)) a]) (Nn a):=f6 (d:=none) rfl PZ rfl
structure S_bl9 where
 veq:(List Int)
 v5q:Int
def xW:S_bl9->L4:=λs=>[some ((eL D.int) s.veq),some (D.int s.v5q)]
abbrev Fv:=S_bl9->FlC S_bl9 Unit
def k7:Fv:=eB 11
def o8:Fv:=iG (bj (orC (bc Nr (bc D8 (pC (·.veq)) (kC (0:Int))) (kC (0:Int))) (bc geC (bc IY (pC (·.veq)) (kC (0:Int))) (pC (·.v5q)))))
 k7
 bM
def tI:Fv:=o8
def rj(a:List Int)(b:Int):OutC S_bl9 Unit:=cF (some ()) (tI ⟨a,b⟩)
theorem Ms:Cl.TJ xW eN wG tI:=bK (am (Mm (a9 (ao C1 (ao Gz xp xk) xk)) (a9 (ao Q9 (ao Lk xp xk) xp))))
 gI
 aZ
theorem MG(a:List Int)(b:Int):SimO xW eN (m_bl9 [(eL D.int) a,D.int b]) (rj a b):=f6 (d:=()) rfl Ms rfl
structure S_i9 where
 vyq:GΩ
 veq:(List Int)
def B9:S_i9->L4:=λs=>[some (aq s.vyq),some ((eL D.int) s.veq)]
abbrev QD:=S_i9->FlC S_i9 Unit
def tz:QD:=bb (bj (cf rj (pC (·.veq)) (b8 (λg=>.ok g.hω) (pC (·.vyq)))))
def zm:QD:=tz
def lM(b:GΩ)(a:List Int):OutC S_i9 Unit:=cF (some ()) (zm ⟨b,a⟩)
theorem Qh:Cl.TJ B9 eN DQ zm:=az (am (cG (λb a=>MG b a) xp (cY (λ_=>rfl) (bo cp xp))))
theorem lJ(b:GΩ)(a:List Int):SimO B9 eN (oi [aq b,(eL D.int) a]) (lM b a):=f6 (d:=()) rfl Qh rfl
structure S_ba9 where
 v4q:Int
 vAq:Int
 v6q:Option (DI Int)
 vfq:Option Int
 vtq:Option (List Int)
def yc:S_ba9->L4:=λs=>[some (D.int s.v4q),some (D.int s.vAq),s.v6q.map (bR D.int),s.vfq.map D.int,s.vtq.map (eL D.int)]
abbrev jJ:=S_ba9->FlC S_ba9 (DI Int)
def pT:jJ:=bU (λa s=>{s with v6q:=some a}) (bj (kC ([]:DI Int)))
def lG:jJ:=dq (AT (λs=>s.v6q) (λs=>{s with v6q:=none}))
def pS:jJ:=iG (bj (bc Nr (pC (·.vAq)) (kC (2:Int))))
 lG
 bM
def pR:jJ:=bU (λa s=>{s with v4q:=a}) (bj (bc dC (bc jy (bc Aa (pC (·.v4q)) (kC (48271:Int))) (kC (17:Int))) (kC (2147483647:Int))))
def pQ:jJ:=bU (λa s=>{s with vtq:=some a}) (bj (jw zA (bc iH (pC (·.v4q)) (kC (9:Int))) (bc jy (kC (1:Int)) (bc dC (pC (·.v4q)) (bc qg (pC (·.vAq)) (kC (1:Int))))) (pC (·.vAq))))
def pP:jJ:=jG (λs=>s.v6q) (λs y=>{s with v6q:=some y}) (b8 yD (vC (·.vtq))) (bj (bc qg (bc dC (bc iH (pC (·.v4q)) (kC (5:Int))) (kC (9:Int))) (kC (4:Int))))
def p1:jJ:=aI pR
 (aI pQ
 pP)
def vJ:jJ:=fb (b8 (iO 0) (bc dC (pC (·.v4q)) (kC (4:Int)))) (λa s=>{s with vfq:=some a})
 p1
def vI:jJ:=dq (AT (λs=>s.v6q) (λs=>{s with v6q:=none}))
def tL:jJ:=aI pT
 (aI pS
 (aI vJ
 vI))
def v1(b:Int)(a:Int):OutC S_ba9 (DI Int):=cF none (tL ⟨b,a,none,none,none⟩)
theorem ME:Cl.TJ yc (bR D.int) wR tL:=ak (xs (am (sF rfl)))
 (ak (bK (am (a9 (ao C1 xp xk)))
 (bB (jD (λ_=>rfl) (λ_=>rfl)))
 aZ)
 (ak (c9 (gw (ao b7 xp xk)) (λ_ _=>rfl)
 (ak (xs (am (ao b7 (ao gp (ao uq xp xk) xk) xk)))
 (ak (xs (am (Mj (λc b a=>MM c b a) (ao fU xp xk) (ao gp xk (ao b7 xp (ao kQ xp xk))) xp)))
 (fD (λ_=>rfl) (λ_ _=>rfl) (bo CZ xv) (am (ao kQ (ao b7 (ao fU xp xk) xk) xk))))))
 (bB (jD (λ_=>rfl) (λ_=>rfl)))))
theorem MR(b:Int)(a:Int):SimO yc (bR D.int) (m_ba9 [D.int b,D.int a]) (v1 b a):=dZ ME rfl
structure S_b9 where
 vyq:GΩ
 v0q:Int
 v2q:Int
def Cg:S_b9->L4:=λs=>[some (aq s.vyq),some (D.int s.v0q),some (D.int s.v2q)]
abbrev Nh:=S_b9->FlC S_b9 Bool
def zg:Nh:=bb (bj (cf lM (pC (·.vyq)) (jx (aR (pC (·.v0q)) (aR (pC (·.v2q)) (dy:_->Res (List Int)))))))
def Ha:Nh:=dq (bj (bc (EU false) (b8 fT (mT (pC (·.v0q)) (pC (·.v2q)))) (b8 (λg=>.ok g.U) (pC (·.vyq)))))
def Fo:Nh:=aI zg
 Ha
def FF(a:GΩ)(c:Int)(b:Int):OutC S_b9 Bool:=cF none (Fo ⟨a,c,b⟩)
theorem Qo:Cl.TJ Cg D.bl DX Fo:=ak (az (am (bY (λ_=>rfl) (λb a=>lJ b a) xp (bF (aw xp (aw xp bE))))))
 (bB (am (ao (C6 false) (dN dk (ce xp xp)) (bo eQ xp))))
theorem Jt(a:GΩ)(c:Int)(b:Int):SimO Cg D.bl (GM [aq a,D.int c,D.int b]) (FF a c b):=jY Qo rfl
structure S_e9 where
 vyq:GΩ
 v0q:Int
 v2q:Int
 vqq:Int
def Cd:S_e9->L4:=λs=>[some (aq s.vyq),some (D.int s.v0q),some (D.int s.v2q),some (D.int s.vqq)]
abbrev Ng:=S_e9->FlC S_e9 Unit
def tF:Ng:=bb (bj (cf lM (pC (·.vyq)) (jx (aR (pC (·.v0q)) (aR (pC (·.v2q)) (dy:_->Res (List Int)))))))
def za:Ng:=jG (λs=>some s.vyq.lω) (λs y=>{s with vyq:={s.vyq with lω:=y}}) (b8 fT (mT (pC (·.v0q)) (pC (·.v2q)))) (bj (pC (·.vqq)))
def zp:Ng:=aI tF
 za
def vY(a:GΩ)(d:Int)(c:Int)(b:Int):OutC S_e9 Unit:=cF (some ()) (zp ⟨a,d,c,b⟩)
theorem Ql:Cl.TJ Cd eN DU zp:=ak (az (am (bY (λ_=>rfl) (λb a=>lJ b a) xp (bF (aw xp (aw xp bE))))))
 (fD (λ_=>rfl) (λ_ _=>rfl) (dN dk (ce xp xp)) (am xp))
theorem Fa(a:GΩ)(e:Int)(c:Int)(b:Int):SimO Cd eN (D2 [aq a,D.int e,D.int c,D.int b]) (vY a e c b):=f6 (d:=()) rfl Ql rfl
structure S_f9 where
 vyq:GΩ
 v0q:Int
 v2q:Int
def Cc:S_f9->L4:=λs=>[some (aq s.vyq),some (D.int s.v0q),some (D.int s.v2q)]
abbrev Nf:=S_f9->FlC S_f9 Int
def tE:Nf:=bb (bj (cf lM (pC (·.vyq)) (jx (aR (pC (·.v0q)) (aR (pC (·.v2q)) (dy:_->Res (List Int)))))))
def y9:Nf:=dq (bj (Jg (b8 (λg=>.ok g.lω) (pC (·.vyq))) (b8 fT (mT (pC (·.v0q)) (pC (·.v2q)))) (kC (0:Int))))
def zo:Nf:=aI tE
 y9
def qp(a:GΩ)(c:Int)(b:Int):OutC S_f9 Int:=cF none (zo ⟨a,c,b⟩)
theorem Qk:Cl.TJ Cc D.int DT zo:=ak (az (am (bY (λ_=>rfl) (λb a=>lJ b a) xp (bF (aw xp (aw xp bE))))))
 (bB (am (cY (λ_=>rfl) (GY (bo gP xp) (dN dk (ce xp xp)) xk))))
theorem zj(a:GΩ)(c:Int)(b:Int):SimO Cc D.int (Af [aq a,D.int c,D.int b]) (qp a c b):=jY Qk rfl
structure S_g9 where
 vyq:GΩ
 v0q:Int
def Cb:S_g9->L4:=λs=>[some (aq s.vyq),some (D.int s.v0q)]
abbrev Nd:=S_g9->FlC S_g9 (List Int)
def tD:Nd:=bb (bj (cf lM (pC (·.vyq)) (jx (aR (pC (·.v0q)) (dy:_->Res (List Int))))))
def y8:Nd:=dq (bj (jw FE (pC (·.vyq)) (b8 (λg=>.ok g.U) (pC (·.vyq))) (pC (·.v0q))))
def zn:Nd:=aI tD
 y8
def qo(a:GΩ)(b:Int):OutC S_g9 (List Int):=cF none (zn ⟨a,b⟩)
theorem Qj:Cl.TJ Cb (eL D.int) DS zn:=ak (az (am (bY (λ_=>rfl) (λb a=>lJ b a) xp (bF (aw xp bE)))))
 (bB (am (fw (λ_=>rfl) (λb a c=>Js b a c) xp (bo eQ xp) xp)))
theorem vM(a:GΩ)(b:Int):SimO Cb (eL D.int) (wZ [aq a,D.int b]) (qo a b):=dZ Qj rfl
structure S_j9 where
 vyq:GΩ
 vtq:(List Int)
def B8:S_j9->L4:=λs=>[some (aq s.vyq),some ((eL D.int) s.vtq)]
abbrev vW:=S_j9->FlC S_j9 Unit
def ju:vW:=bb (bj (cf lM (pC (·.vyq)) (pC (·.vtq))))
def mP:vW:=eB 14
def k6:vW:=iG (bj (bc Nr (b8 si (pC (·.vtq))) (kC (2:Int))))
 mP
 bM
def mO:vW:=eB 14
def nA:vW:=iG (bj (bc (jF true) (bc xa (pC (·.vtq)) (b8 Ly (kC (1:Int)))) (kC (0:Int))))
 mO
 bM
def mM:vW:=eB 14
def tu:vW:=iG (bj (bc (jF true) (b8 sf (pC (·.vtq))) (b8 si (pC (·.vtq)))))
 mM
 bM
def p5:vW:=aI ju
 (aI k6
 (aI nA
 tu))
def iD(a:GΩ)(b:List Int):OutC S_j9 Unit:=cF (some ()) (p5 ⟨a,b⟩)
theorem Qg:Cl.TJ B8 eN DP p5:=ak (az (am (bY (λ_=>rfl) (λb a=>lJ b a) xp xp)))
 (ak (bK (am (a9 (ao C1 (bo nT xp) xk)))
 gI
 aZ)
 (ak (bK (am (a9 (ao (cD true) (ao nV xp (bo Iu xk)) xk)))
 gI
 aZ)
 (bK (am (a9 (ao (cD true) (bo C2 xp) (bo nT xp))))
 gI
 aZ)))
theorem Jq(a:GΩ)(b:List Int):SimO B8 eN (GJ [aq a,(eL D.int) b]) (iD a b):=f6 (d:=()) rfl Qg rfl
structure S_k9 where
 vyq:GΩ
 v0q:Int
 v2q:Int
def B7:S_k9->L4:=λs=>[some (aq s.vyq),some (D.int s.v0q),some (D.int s.v2q)]
abbrev Hr:=S_k9->FlC S_k9 Unit
def nz:Hr:=bb (bj (cf lM (pC (·.vyq)) (jx (aR (pC (·.v0q)) (aR (pC (·.v2q)) (dy:_->Res (List Int)))))))
def mL:Hr:=eB 11
def tq:Hr:=iG (bj (bc (jF false) (pC (·.v0q)) (pC (·.v2q))))
 mL
 bM
def vP:Hr:=aI nz
 tq
def tV(a:GΩ)(c:Int)(b:Int):OutC S_k9 Unit:=cF (some ()) (vP ⟨a,c,b⟩)
theorem Qf:Cl.TJ B7 eN DO vP:=ak (az (am (bY (λ_=>rfl) (λb a=>lJ b a) xp (bF (aw xp (aw xp bE))))))
 (bK (am (a9 (ao (cD false) xp xp)))
 gI
 aZ)
theorem Jp(a:GΩ)(c:Int)(b:Int):SimO B7 eN (GI [aq a,D.int c,D.int b]) (tV a c b):=f6 (d:=()) rfl Qf rfl
structure S_m9 where
 vyq:GΩ
 v0q:Int
def B5:S_m9->L4:=λs=>[some (aq s.vyq),some (D.int s.v0q)]
abbrev Nb:=S_m9->FlC S_m9 (List Int)
def tm:Nb:=bb (bj (cf lM (pC (·.vyq)) (jx (aR (pC (·.v0q)) (dy:_->Res (List Int))))))
def yZ:Nb:=dq (bj (jw FE (pC (·.vyq)) (b8 (λg=>.ok g.sω) (pC (·.vyq))) (pC (·.v0q))))
def zl:Nb:=aI tm
 yZ
def tU(a:GΩ)(b:Int):OutC S_m9 (List Int):=cF none (zl ⟨a,b⟩)
theorem Qc:Cl.TJ B5 (eL D.int) DM zl:=ak (az (am (bY (λ_=>rfl) (λb a=>lJ b a) xp (bF (aw xp bE)))))
 (bB (am (fw (λ_=>rfl) (λb a c=>Js b a c) xp (bo iY xp) xp)))
theorem zh(a:GΩ)(b:Int):SimO B5 (eL D.int) (Ad [aq a,D.int b]) (tU a b):=dZ Qc rfl
structure S_o9 where
 vyq:GΩ
 vlq:Option GΩ
def rL:S_o9->L4:=λs=>[some (aq s.vyq),s.vlq.map aq]
abbrev xI:=S_o9->FlC S_o9 GΩ
def tj:xI:=bU (λa s=>{s with vlq:=some a}) (bj (Gn mk_Guild (b8 (λg=>.ok g.hω) (pC (·.vyq)))))
def sZ:xI:=bb (rn (λs=>s.vlq.map (·.U)) (λs y=>{s with vlq:=s.vlq.map λo=>{o with U:=y}}) (b8 (λg=>.ok g.U) (pC (·.vyq))))
def sY:xI:=bb (rn (λs=>s.vlq.map (·.lω)) (λs y=>{s with vlq:=s.vlq.map λo=>{o with lω:=y}}) (b8 (λg=>.ok g.lω) (pC (·.vyq))))
def sX:xI:=bb (rn (λs=>s.vlq.map (·.sω)) (λs y=>{s with vlq:=s.vlq.map λo=>{o with sω:=y}}) (b8 (λg=>.ok g.sω) (pC (·.vyq))))
def sW:xI:=bb (rn (λs=>s.vlq.map (·.wω)) (λs y=>{s with vlq:=s.vlq.map λo=>{o with wω:=y}}) (b8 (λg=>.ok g.wω) (pC (·.vyq))))
def G5:xI:=dq (AT (λs=>s.vlq) (λs=>{s with vlq:=none}))
def Fk:xI:=aI tj
 (aI sZ
 (aI sY
 (aI sX
 (aI sW
 G5))))
def FC(a:GΩ):OutC S_o9 GΩ:=cF none (Fk ⟨a,none⟩)
theorem Qa:Cl.TJ rL aq DK Fk:=ak (xs (am (xn jE (cY (λ_=>rfl) (bo cp xp)))))
 (ak (az (r6 (λs=>by cases s with|mk b a=>cases a<;>rfl) (λs y=>by cases s with|mk b a=>cases a<;>rfl) (λ_=>rfl) (bo eQ xp)))
 (ak (az (r6 (λs=>by cases s with|mk b a=>cases a<;>rfl) (λs y=>by cases s with|mk b a=>cases a<;>rfl) (λ_=>rfl) (bo gP xp)))
 (ak (az (r6 (λs=>by cases s with|mk b a=>cases a<;>rfl) (λs y=>by cases s with|mk b a=>cases a<;>rfl) (λ_=>rfl) (bo iY xp)))
 (ak (az (r6 (λs=>by cases s with|mk b a=>cases a<;>rfl) (λs y=>by cases s with|mk b a=>cases a<;>rfl) (λ_=>rfl) (bo gm xp)))
 (bB (jD (λ_=>rfl) (λ_=>rfl)))))))
theorem Qv(a:GΩ):SimO rL aq (wY [aq a]) (FC a):=dZ Qa rfl
structure S_t9 where
 vyq:PostT
 v0q:Int
def BW:S_t9->L4:=λs=>[some (cu s.vyq),some (D.int s.v0q)]
abbrev M9:=S_t9->FlC S_t9 (Option (List Int))
def yV:M9:=bb (bj (cf lM (b8 (λg=>.ok g.guild) (pC (·.vyq))) (jx (aR (pC (·.v0q)) (dy:_->Res (List Int))))))
def G4:M9:=dq (bj (rV Nn (bc xa (b8 (λg=>.ok g.roads) (pC (·.vyq))) (pC (·.v0q)))))
def Fh:M9:=aI yV
 G4
def Hw(a:PostT)(b:Int):OutC S_t9 (Option (List Int)):=cF (some none) (Fh ⟨a,b⟩)
theorem P6:Cl.TJ BW (eO (eL D.int)) DD Fh:=ak (az (am (bY (λ_=>rfl) (λa b=>lJ a b) (bo eM xp) (bF (aw xp bE)))))
 (bB (am (EL (λa=>Jn a) (ao nV (bo jC xp) xp))))
theorem Qt(a:PostT)(b:Int):SimO BW (eO (eL D.int)) (LQ [cu a,D.int b]) (Hw a b):=f6 (d:=none) rfl P6 rfl
structure S_u9 where
 vyq:PostT
 v0q:Int
 v2q:Int
def BV:S_u9->L4:=λs=>[some (cu s.vyq),some (D.int s.v0q),some (D.int s.v2q)]
abbrev M8:=S_u9->FlC S_u9 (Option (List Int))
def yU:M8:=bb (bj (cf lM (b8 (λg=>.ok g.guild) (pC (·.vyq))) (jx (aR (pC (·.v0q)) (aR (pC (·.v2q)) (dy:_->Res (List Int)))))))
def G3:M8:=dq (bj (rV Nn (bc EV (b8 (λg=>.ok g.told_last) (pC (·.vyq))) (b8 fT (mT (pC (·.v0q)) (pC (·.v2q)))))))
def Fg:M8:=aI yU
 G3
def FB(a:PostT)(c:Int)(b:Int):OutC S_u9 (Option (List Int)):=cF (some none) (Fg ⟨a,c,b⟩)
theorem P5:Cl.TJ BV (eO (eL D.int)) DC Fg:=ak (az (am (bY (λ_=>rfl) (λa b=>lJ a b) (bo eM xp) (bF (aw xp (aw xp bE))))))
 (bB (am (EL (λa=>Jn a) (uX (bo wz xp) (dN dk (ce xp xp))))))
theorem Jo(a:PostT)(c:Int)(b:Int):SimO BV (eO (eL D.int)) (GG [cu a,D.int c,D.int b]) (FB a c b):=f6 (d:=none) rfl P5 rfl
structure S_d9 where
 vyq:GΩ
 v0q:Int
 v2q:Int
def Ce:S_d9->L4:=λs=>[some (aq s.vyq),some (D.int s.v0q),some (D.int s.v2q)]
abbrev AS:=S_d9->FlC S_d9 Unit
def ze:AS:=bb (bj (jw tV (pC (·.vyq)) (pC (·.v0q)) (pC (·.v2q))))
def vc:AS:=eB 13
def zd:AS:=iG (bj (bc (EU false) (b8 fT (mT (pC (·.v0q)) (pC (·.v2q)))) (b8 (λg=>.ok g.U) (pC (·.vyq)))))
 vc
 bM
def zc:AS:=jG (λs=>some s.vyq.U) (λs y=>{s with vyq:={s.vyq with U:=y}}) (b8 fT (mT (pC (·.v0q)) (pC (·.v2q)))) (bj (kC true))
def zb:AS:=jG (λs=>some s.vyq.U) (λs y=>{s with vyq:={s.vyq with U:=y}}) (b8 fT (mT (pC (·.v2q)) (pC (·.v0q)))) (bj (kC true))
def Fm:AS:=aI ze
 (aI zd
 (aI zc
 zb))
def Hz(a:GΩ)(c:Int)(b:Int):OutC S_d9 Unit:=cF (some ()) (Fm ⟨a,c,b⟩)
theorem Qm:Cl.TJ Ce eN DV Fm:=ak (az (am (fw (λ_=>rfl) (λc b a=>Jp c b a) xp xp xp)))
 (ak (bK (am (a9 (ao (C6 false) (dN dk (ce xp xp)) (bo eQ xp))))
 gI
 aZ)
 (ak (fD (λ_=>rfl) (λ_ _=>rfl) (dN dk (ce xp xp)) (am xk))
 (fD (λ_=>rfl) (λ_ _=>rfl) (dN dk (ce xp xp)) (am xk))))
theorem Qx(a:GΩ)(c:Int)(b:Int):SimO Ce eN (LU [aq a,D.int c,D.int b]) (Hz a c b):=f6 (d:=()) rfl Qm rfl
structure S_h9 where
 vyq:GΩ
 vtq:(List Int)
 vCq:Option (Option Int)
def Ca:S_h9->L4:=λs=>[some (aq s.vyq),some ((eL D.int) s.vtq),s.vCq.map (eO D.int)]
abbrev AR:=S_h9->FlC S_h9 Int
def y7:AR:=bb (bj (cf iD (pC (·.vyq)) (pC (·.vtq))))
def G9:AR:=bU (λa s=>{s with vCq:=some a}) (bj (bc PR (b8 (λg=>.ok g.wω) (pC (·.vyq))) (b8 yD (pC (·.vtq)))))
def va:AR:=dq (bj (jw qp (pC (·.vyq)) (bc xa (pC (·.vtq)) (kC (0:Int))) (bc xa (pC (·.vtq)) (kC (1:Int)))))
def G8:AR:=iG (bj (b8 (L9 false Lp) (vC (·.vCq))))
 va
 bM
def G7:AR:=dq (λs=>Fq ((bj (vC (·.vCq))) s) λa s=>bndO (K2 a) s λb=>.ok b s)
def Fl:AR:=aI y7
 (aI G9
 (aI G8
 G7))
def FD(a:GΩ)(b:List Int):OutC S_h9 Int:=cF none (Fl ⟨a,b,none⟩)
theorem Qi:Cl.TJ Ca D.int DR Fl:=ak (az (am (bY (λ_=>rfl) (λb a=>Jq b a) xp xp)))
 (ak (xs (am (cY (Es (λ_=>rfl)) (GZ (bo gm xp) (bo CZ (oO (rE (λ_=>rfl)) xp))))))
 (ak (bK (am (a9 (EM (I9 (λ_=>rfl)) xv)))
 (bB (am (fw (λ_=>rfl) (λb a c=>zj b a c) xp (cY (λ_=>rfl) (ao nV xp xk)) (cY (λ_=>rfl) (ao nV xp xk)))))
 aZ)
 (bB (uu zt (am xv)))))
theorem Jr(a:GΩ)(b:List Int):SimO Ca D.int (GK [aq a,(eL D.int) b]) (FD a b):=jY Qi rfl
structure S_l9 where
 vyq:GΩ
 v0q:Int
 v2q:Int
def B6:S_l9->L4:=λs=>[some (aq s.vyq),some (D.int s.v0q),some (D.int s.v2q)]
abbrev Nc:=S_l9->FlC S_l9 Unit
def ny:Nc:=bb (bj (jw tV (pC (·.vyq)) (pC (·.v0q)) (pC (·.v2q))))
def y0:Nc:=jG (λs=>some s.vyq.sω) (λs y=>{s with vyq:={s.vyq with sω:=y}}) (b8 fT (mT (pC (·.v0q)) (pC (·.v2q)))) (bj (kC true))
def vO:Nc:=aI ny
 y0
def qd(a:GΩ)(c:Int)(b:Int):OutC S_l9 Unit:=cF (some ()) (vO ⟨a,c,b⟩)
theorem Qd:Cl.TJ B6 eN DN vO:=ak (az (am (fw (λ_=>rfl) (λc b a=>Jp c b a) xp xp xp)))
 (fD (λ_=>rfl) (λ_ _=>rfl) (dN dk (ce xp xp)) (am xk))
theorem zi(a:GΩ)(c:Int)(b:Int):SimO B6 eN (Ae [aq a,D.int c,D.int b]) (qd a c b):=f6 (d:=()) rfl Qd rfl
structure S_p9 where
 vyq:GΩ
 vtq:(List Int)
 vqq:Int
def BZ:S_p9->L4:=λs=>[some (aq s.vyq),some ((eL D.int) s.vtq),some (D.int s.vqq)]
abbrev Na:=S_p9->FlC S_p9 Unit
def sV:Na:=bb (bj (cf iD (pC (·.vyq)) (pC (·.vtq))))
def yY:Na:=jG (λs=>some s.vyq.wω) (λs y=>{s with vyq:={s.vyq with wω:=y}}) (b8 yD (pC (·.vtq))) (bj (pC (·.vqq)))
def zk:Na:=aI sV
 yY
def vX(a:GΩ)(b:List Int)(c:Int):OutC S_p9 Unit:=cF (some ()) (zk ⟨a,b,c⟩)
theorem P9:Cl.TJ BZ eN DH zk:=ak (az (am (bY (λ_=>rfl) (λb a=>Jq b a) xp xp)))
 (fD (λ_=>rfl) (λ_ _=>rfl) (bo CZ (oO (rE (λ_=>rfl)) xp)) (am xp))
theorem E9(a:GΩ)(b:List Int)(c:Int):SimO BZ eN (D1 [aq a,(eL D.int) b,D.int c]) (vX a b c):=f6 (d:=()) rfl P9 rfl
structure S_s9 where
 vyq:PostT
 v0q:Int
def BX:S_s9->L4:=λs=>[some (cu s.vyq),some (D.int s.v0q)]
abbrev QA:=S_s9->FlC S_s9 (List Int)
def yW:QA:=dq (bj (cf qo (b8 (λg=>.ok g.guild) (pC (·.vyq))) (pC (·.v0q))))
def Fi:QA:=yW
def Hy(a:PostT)(b:Int):OutC S_s9 (List Int):=cF none (Fi ⟨a,b⟩)
theorem P7:Cl.TJ BX (eL D.int) DE Fi:=bB (am (bY (λ_=>rfl) (λb a=>vM b a) (bo eM xp) xp))
theorem Qu(a:PostT)(b:Int):SimO BX (eL D.int) (LR [cu a,D.int b]) (Hy a b):=dZ P7 rfl
structure S_w9 where
 vyq:PostT
 vDq:Int
 vrq:Option Int
def rK:S_w9->L4:=λs=>[some (cu s.vyq),some (D.int s.vDq),s.vrq.map D.int]
abbrev M7:=S_w9->FlC S_w9 Unit
def l4:M7:=bb (qj Hv (λs' s=>{s with vyq:=s'.vyq}) (pC (·.vyq)) (pC (·.vDq)) (vC (·.vrq)))
def yR:M7:=fb (cf qo (b8 (λg=>.ok g.guild) (pC (·.vyq))) (pC (·.vDq))) (λa s=>{s with vrq:=some a})
 l4
def Fe:M7:=yR
def FA(b:PostT)(a:Int):OutC S_w9 Unit:=cF (some ()) (Fe ⟨b,a,none⟩)
theorem P0:Cl.TJ rK eN DA Fe:=c9 (gv (bY (λ_=>rfl) (λb a=>vM b a) (bo eM xp) xp)) (λ_ _=>rfl)
 (az (hV (λ_=>rfl) (λ_ _=>rfl) (λb a c=>Qs b a c) xp xp xv))
theorem Qr(b:PostT)(a:Int):SimO rK eN (og [cu b,D.int a]) (FA b a):=f6 (d:=()) rfl P0 rfl
structure S_bi9 where
 vcq:GΩ
 vAq:Int
 vmq:Option ((List ((List Int)×Int))×List (List (List Int)))
 v0q:Option Int
 viq:Option (List Int)
def xZ:S_bi9->L4:=λs=>[some (aq s.vcq),some (D.int s.vAq),s.vmq.map (Jk (eL (mH (eL D.int) D.int)) (eL (eL D.int))),s.v0q.map D.int,s.viq.map (eL D.int)]
abbrev p9:=S_bi9->FlC S_bi9 ((List ((List Int)×Int))×List (List (List Int)))
def pj:p9:=bU (λa s=>{s with vmq:=some a}) (bj (mT (gW (rV xJ (pC (·.vcq))) (λ_=>.ok true) (mT (b8 yD (b8 Mc (pC λp=>p.1))) (b8 JK (pC λp=>p.1)))) (λ_=>.ok [])))
def kg:p9:=bU (λa s=>{s with viq:=some a}) (bj (gW (b8 (iO 0) (pC (·.vAq))) (λ_=>.ok true) (jw qp (pC λp=>p.2.vcq) (vC λp=>p.2.v0q) (pC λp=>p.1))))
def ph:p9:=bb (Ft (λs=>s.vmq) (λs y=>{s with vmq:=some y}) (jx (aR (b8 yD (cf tU (pC (·.vcq)) (vC (·.v0q)))) (aR (b8 yD (cf qo (pC (·.vcq)) (vC (·.v0q)))) (aR (vC (·.viq)) (dy:_->Res (List (List Int))))))))
def pX:p9:=aI kg
 ph
def pi:p9:=fb (b8 (iO 0) (pC (·.vAq))) (λa s=>{s with v0q:=some a})
 pX
def vn:p9:=dq (AT (λs=>s.vmq) (λs=>{s with vmq:=none}))
def xr:p9:=aI pj
 (aI pi
 vn)
def v0(a:GΩ)(b:Int):OutC S_bi9 ((List ((List Int)×Int))×List (List (List Int))):=cF none (xr ⟨a,b,none,none,none⟩)
theorem Mv:Cl.TJ xZ (Jk (eL (mH (eL D.int) D.int)) (eL (eL D.int))) wJ xr:=ak (xs (am (GX (kY (gv (xm (λ_=>rfl) (λa=>E8 a) xp)) xj (ce (bo rZ (Jj Q8 xp)) (Jj Q7 xp))))))
 (ak (c9 (gw xp) (λ_ _=>rfl)
 (ak (xs (am (kY (gw xp) xj (fw (λ_=>rfl) (λa b c=>zj a b c) xp xv xp))))
 (az (Lx (λ_=>rfl) (λ_ _=>rfl) (bF (aw (bo rZ (bY (λ_=>rfl) (λa b=>zh a b) xp xv)) (aw (bo rZ (bY (λ_=>rfl) (λa b=>vM a b) xp xv)) (aw xv bE))))))))
 (bB (jD (λ_=>rfl) (λ_=>rfl))))
theorem Fb(a:GΩ)(b:Int):SimO xZ (Jk (eL (mH (eL D.int) D.int)) (eL (eL D.int))) (m_bi9 [aq a,D.int b]) (v0 a b):=dZ Mv rfl
def eC(t:GΩ)(n:Nat):PostT:=⟨t,(List.replicate n none).set 0 (some [0]),[],[],[],List.replicate n []⟩
noncomputable def mk_Post(g:GΩ):Res PostT:=match FC g with
 | .ok t _=>if 1<=g.hω/\g.hω<=60 then (match FA (eC t g.hω.toNat) 0 with
   |.ok _ s=>.ok s.vyq
   |.exc c _=>.exc c
   |.bad=>.bad) else .bad
 |.exc c _=>.exc c
 |.bad=>.bad
theorem zT{n:Nat}:∀k,bL (λ_=>.ok true) (aM (.dK [] [])) [] ((List.range k).map λi:Nat=>D.int (n+i))=.ok (List.replicate k (.dK [] [])):=by
 intro k
 have a:∀l:List D,bL (λ_=>.ok true) (aM (.dK [] [])) [] l=.ok (List.replicate l.length (.dK [] [])):=by
  intro l
  induction l with
  |nil=>rfl
  |cons d l b=>rw[bL,b];rfl
 rw[a,RH,T1]
theorem sv(g:GΩ):SimR cu (fV 1 wX [aq g]) (mk_Post g):=by
 have a:=Qv g;have hsz:oh [aq g]=.ok (.int g.hω) (wm ⟨g⟩):=Qw g;have j:cA 0 "twin" (aq g)=true:=rfl;have b:cA 0 "size" (aq g)=true:=rfl;unfold mk_Post;cases q:FC g with
 |bad=>trivial
 |exc c s=>
   rw[q]at a;have a:wY [aq g]=.exc c (rL s):=a;show fV 1 wX [aq g]=.exc c;unfold fV wX Mi.run;rw[uC];simp[ay,cX,aP,pm,vr,rg,a6,gb,a,j]
 |ok t s=>
   rw[q]at a;have a:wY [aq g]=.ok (aq t) (rL s):=a;dsimp only;by_cases C:1<=g.hω/\g.hω<=60
   · rw[RF C];obtain⟨n,l⟩:∃n:Nat,g.hω=n:=⟨g.hω.toNat,by omega⟩;have K:1<=n:=by omega
     have J:n<=60:=by omega
     have A:1<=aj:=by decide +kernel
     have E:60<aj:=by decide +kernel
     have X:cX 1 "guild" 0 (aP (pm 0 "twin" wY (vr 1) a6)) [some (.obj 1 [] []),some (aq g)]=.nx [some (.obj 1 ["guild"] [aq t]),some (aq g)]:=by
      simp[cX,aP,pm,vr,rg,a6,gb,a,j,l9,dD]
     have W:cX 1 "roads" 0 (aP (bn wn (gH (ax (aM .non) a6)) (pm 0 "size" oh (vr 1) a6))) [some (.obj 1 ["guild"] [aq t]),some (aq g)]=.nx [some (.obj 1 ["guild","roads"] [aq t,.lst (List.replicate n .non)]),some (aq g)]:=by
      have I:wn (.lst [.non]) (.int g.hω)=.ok (.lst (List.replicate n .non)):=by
       have this:=OH (e:=eN) [()] g.hω;rw[B0 (by omega) (by omega) (by rw[Sv];omega)]at this;have this:wn (.lst [.non]) (.int g.hω)=.ok (eL eN _):=this;rw[this,l];show Res.ok (D.lst _)=Res.ok (D.lst _);rw[show(Int.toNat (n:Int))=n from rfl]
       have r:∀k:Nat,((List.replicate k [()]).flatten.map eN)=List.replicate k D.non:=λk=>by
        induction k with
        |zero=>rfl
        |succ k G=>rw[Sw,SL,Sm,G];rfl
       rw[r]
      simp[cX,aP,pm,vr,rg,a6,ax,gH,bn,aM,gb,hsz,b,I,l9,dD,A];decide
     have V:uG (i7 1 "roads" 0) (iM "roads" 0) (aM (.int 0)) (aP (gH (ax (aM (.int 0)) a6))) [some (.obj 1 ["guild","roads"] [aq t,.lst (List.replicate n .non)]),some (aq g)]=.nx [some (.obj 1 ["guild","roads"] [aq t,.lst ((List.replicate n .non).set 0 (.lst [.int 0]))]),some (aq g)]:=by
      have hi:kU n 0=some 0:=by unfold kU;simp;omega
      have v:¬ (Str.ofString "guild" = Str.ofString "roads"):=by decide
      simp[uG,i7,iM,D4,aP,rg,a6,ax,gH,aM,A,cP,fN,v,hi]
     have z:∀(ns:List Str) (vs:List D) (f:Str),ns.length<900->dD ns f=false->cX 1 f 0 (aP (aM (.dT [] []))) [some (.obj 1 ns vs),some (aq g)]=.nx [some (.obj 1 (ns++[f]) (vs++[.dT [] []])),some (aq g)]:=by
      intro ns vs f y w;simp only[cX,aP,aM,Res.up,gJ,rg,l9];simp[y,w]
     have U:∀(ns:List Str) (vs:List D) (f:Str),ns.length<900->dD ns f=false->cX 1 f 0 (aP (ko (fA (pm 0 "size" oh (vr 1) a6)) [] (λ_=>.ok true) (aM (.dK [] [])))) [some (.obj 1 ns vs),some (aq g)]=.nx [some (.obj 1 (ns++[f]) (vs++[.lst (List.replicate n (.dK [] []))])),some (aq g)]:=by
      intro ns vs f y w
      have M:ko (fA (pm 0 "size" oh (vr 1) a6)) [] (λ_=>.ok true) (aM (.dK [] [])) [some (.obj 1 ns vs),some (aq g)]=.ok (.lst (List.replicate n (.dK [] []))):=by
       have H:fA (pm 0 "size" oh (vr 1) a6) [some (.obj 1 ns vs),some (aq g)]=.ok (rng 0 n):=by
        simp[fA,zJ,pm,vr,rg,a6,gb,hsz,b,aM,l];omega
       unfold ko;rw[H];have L:(rng 0 (n:Int)).length=n:=by unfold rng;simp
       show(if (rng 0 (n:Int)).length<aj then (bL _ _ [] (rng 0 (n:Int))).bind λys=>Res.ok (D.lst ys) else .bad)=_;rw[L,RF (by omega)]
       have:=zT (n:=0) n
       unfold rng;rw[show((n:Int)-0).toNat=n by omega];have Y:((List.range n).map λi:Nat=>D.int ((0:Int)+i))=(List.range n).map λi:Nat=>D.int (((0:Nat):Int)+i):=rfl;rw[Y,this];rfl
      simp only[cX,aP,M,Res.up,gJ,rg,l9];simp[y,w]
     have N:cu (eC t n)=.obj 1 ["guild","roads","told_last","written_last","letters","standings"] [aq t,.lst ((List.replicate n .non).set 0 (.lst [.int 0])),.dT [] [],.dT [] [],.dT [] [],.lst (List.replicate n (.dK [] []))]:=by
      show D.obj 1 _ [aq t,.lst (((List.replicate n none).set 0 (some [0])).map (eO (eL D.int))),.dT [] [],.dT [] [],.dT [] [],.lst ((List.replicate n []).map (PL eK))]=_;rw[List.map_set,List.map_replicate,List.map_replicate];rfl
     have m:=Qr (eC t n) 0;have p:cA 1 "write_to_all" (cu (eC t n))=true:=rfl
     have P:∀o x:D,cA 1 "write_to_all" o=true->aT (mm 1 "write_to_all" [(.O 0),.F] og (vr 0) (ax (aM (.int 0)) a6)) [some o,some x]=(match og [o,.int 0] with | .ok d T=>.nx (d7 [(.O 0),.F] 0 T [some o,some x]) | .exc c T=>.exc c (d7 [(.O 0),.F] 0 T [some o,some x]) | .bad=>.bad):=by
      intro o x h;simp[aT,mm,vr,rg,ax,a6,aM,h,fg];cases og [o,.int 0]<;>rfl
     have S:fV 1 wX [aq g]=(match og [cu (eC t n),.int 0] with | .ok d T=>(match rg (d7 [(.O 0),.F] 0 T [some (cu (eC t n)),some (aq g)]) 0 with|some d=>.ok d|none=>.bad) | .exc c _=>.exc c | .bad=>.bad):=by
      unfold fV wX Mi.run;rw[uC];have R:([D.obj 1 [] [],aq g].map some++List.replicate (2-[D.obj 1 [] [],aq g].length) none)=[some (.obj 1 [] []),some (aq g)]:=rfl;rw[R];simp only[ay,X,W,V];rw[z _ _ _ (by decide) (by decide)];dsimp only;rw[z _ _ _ (by decide) (by decide)];dsimp only;rw[z _ _ _ (by decide) (by decide)];dsimp only;rw[U _ _ _ (by decide) (by decide)];have Q:(D.obj 1 (((((["guild","roads"]:List Str)++[("told_last" : Str)])++[("written_last" : Str)])++[("letters" : Str)])++[("standings" : Str)]) (((([aq t,D.lst ((List.replicate n .non).set 0 (.lst [.int 0]))]++[.dT [] []])++[.dT [] []])++[.dT [] []])++[.lst (List.replicate n (.dK [] []))]))=cu (eC t n):=N.symm;dsimp only;rw[Q];rw[P _ _ p];cases og [cu (eC t n),.int 0] with
      |ok d T=>rfl
      |exc c T=>rfl
      |bad=>rfl
     rw[S,show g.hω.toNat=n by omega];cases B:FA (eC t n) 0 with
     |bad=>trivial
     |exc c s=>
       rw[B]at m;rw[show og [cu (eC t n),.int 0]=_ from m];exact rfl
     |ok u s=>
       rw[B]at m;rw[show og [cu (eC t n),.int 0]=_ from m];exact rfl
   ·rw[RE C];trivial
structure S_bb9 where
 vcq:GΩ
 vhq:Int
 vbq:Int
 v3q:Int
def yb:S_bb9->L4:=λs=>[some (aq s.vcq),some (D.int s.vhq),some (D.int s.vbq),some (D.int s.v3q)]
abbrev c8:=S_bb9->FlC S_bb9 Unit
def lF:c8:=bb (bj (cf qo (pC (·.vcq)) (pC (·.v3q))))
def cB:c8:=iG (bj (bc (jF false) (pC (·.vhq)) (kC (0:Int))))
 lF
 bM
def lE:c8:=bb (bj (jw FF (pC (·.vcq)) (pC (·.v3q)) (pC (·.vbq))))
def cJ:c8:=iG (bj (bc (jF false) (pC (·.vhq)) (kC (1:Int))))
 lE
 bM
def lD:c8:=bb (bj (jw FF (pC (·.vcq)) (pC (·.vbq)) (pC (·.v3q))))
def cZ:c8:=iG (bj (bc (jF false) (pC (·.vhq)) (kC (2:Int))))
 lD
 bM
def lC:c8:=bb (Ac vY (λs' s=>{s with vcq:=s'.vyq}) (pC (·.vcq)) (pC (·.v3q)) (pC (·.vbq)) (kC (1:Int)))
def dI:c8:=iG (bj (bc (jF false) (pC (·.vhq)) (kC (3:Int))))
 lC
 bM
def lB:c8:=bb (Ac vY (λs' s=>{s with vcq:=s'.vyq}) (pC (·.vcq)) (pC (·.vbq)) (pC (·.v3q)) (kC (1:Int)))
def d5:c8:=iG (bj (bc (jF false) (pC (·.vhq)) (kC (4:Int))))
 lB
 bM
def lA:c8:=bb (bj (jw qp (pC (·.vcq)) (pC (·.v3q)) (pC (·.vbq))))
def fe:c8:=iG (bj (bc (jF false) (pC (·.vhq)) (kC (5:Int))))
 lA
 bM
def ly:c8:=bb (bj (jw qp (pC (·.vcq)) (pC (·.vbq)) (pC (·.v3q))))
def f8:c8:=iG (bj (bc (jF false) (pC (·.vhq)) (kC (6:Int))))
 ly
 bM
def lx:c8:=bb (qj qd (λs' s=>{s with vcq:=s'.vyq}) (pC (·.vcq)) (pC (·.v3q)) (pC (·.vbq)))
def gU:c8:=iG (bj (bc (jF false) (pC (·.vhq)) (kC (7:Int))))
 lx
 bM
def lw:c8:=bb (qj qd (λs' s=>{s with vcq:=s'.vyq}) (pC (·.vcq)) (pC (·.vbq)) (pC (·.v3q)))
def jf:c8:=iG (bj (bc (jF false) (pC (·.vhq)) (kC (8:Int))))
 lw
 bM
def jI:c8:=bb (qj qd (λs' s=>{s with vcq:=s'.vyq}) (pC (·.vcq)) (pC (·.vbq)) (pC (·.vbq)))
def jv:c8:=iG (bj (bc (jF false) (pC (·.vhq)) (kC (9:Int))))
 jI
 bM
def jH:c8:=bb (bj (cf tU (pC (·.vcq)) (pC (·.v3q))))
def l5:c8:=iG (bj (bc (jF false) (pC (·.vhq)) (kC (10:Int))))
 jH
 bM
def tK:c8:=aI cB
 (aI cJ
 (aI cZ
 (aI dI
 (aI d5
 (aI fe
 (aI f8
 (aI gU
 (aI jf
 (aI jv
 l5)))))))))
def rl(a:GΩ)(b:Int)(c:Int)(d:Int):OutC S_bb9 Unit:=cF (some ()) (tK ⟨a,b,c,d⟩)
theorem MC:Cl.TJ yb eN wQ tK:=ak (bK (am (a9 (ao (cD false) xp xk)))
 (az (am (bY (λ_=>rfl) (λb a=>vM b a) xp xp)))
 aZ)
 (ak (bK (am (a9 (ao (cD false) xp xk)))
 (az (am (fw (λ_=>rfl) (λb a c=>Jt b a c) xp xp xp)))
 aZ)
 (ak (bK (am (a9 (ao (cD false) xp xk)))
 (az (am (fw (λ_=>rfl) (λb a c=>Jt b a c) xp xp xp)))
 aZ)
 (ak (bK (am (a9 (ao (cD false) xp xk)))
 (az (wE (λ_=>rfl) (λ_ _=>rfl) (λb a c d=>Fa b a c d) xp xp xp xk))
 aZ)
 (ak (bK (am (a9 (ao (cD false) xp xk)))
 (az (wE (λ_=>rfl) (λ_ _=>rfl) (λb a c d=>Fa b a c d) xp xp xp xk))
 aZ)
 (ak (bK (am (a9 (ao (cD false) xp xk)))
 (az (am (fw (λ_=>rfl) (λb a c=>zj b a c) xp xp xp)))
 aZ)
 (ak (bK (am (a9 (ao (cD false) xp xk)))
 (az (am (fw (λ_=>rfl) (λb a c=>zj b a c) xp xp xp)))
 aZ)
 (ak (bK (am (a9 (ao (cD false) xp xk)))
 (az (hV (λ_=>rfl) (λ_ _=>rfl) (λb a c=>zi b a c) xp xp xp))
 aZ)
 (ak (bK (am (a9 (ao (cD false) xp xk)))
 (az (hV (λ_=>rfl) (λ_ _=>rfl) (λb a c=>zi b a c) xp xp xp))
 aZ)
 (ak (bK (am (a9 (ao (cD false) xp xk)))
 (az (hV (λ_=>rfl) (λ_ _=>rfl) (λb a c=>zi b a c) xp xp xp))
 aZ)
 (bK (am (a9 (ao (cD false) xp xk)))
 (az (am (bY (λ_=>rfl) (λb a=>zh b a) xp xp)))
 aZ))))))))))
theorem MQ(a:GΩ)(b:Int)(c:Int)(e:Int):SimO yb eN (m_bb9 [aq a,D.int b,D.int c,D.int e]) (rl a b c e):=f6 (d:=()) rfl MC rfl
structure S_bd9 where
 vAq:Int
 vBq:L3
 vaq:(DI Int)
 v6q:(DI Int)
 vzq:L3
 vcq:Option GΩ
 v0q:Option Int
 v2q:Option Int
 vnq:Option (List Int)
 vgq:Option (List Int)
def x9:S_bd9->L4:=λs=>[some (D.int s.vAq),some ((eL (mH D.int D.int)) s.vBq),some ((bR D.int) s.vaq),some ((bR D.int) s.v6q),some ((eL (mH D.int D.int)) s.vzq),s.vcq.map aq,s.v0q.map D.int,s.v2q.map D.int,s.vnq.map (lY D.int),s.vgq.map (lY D.int)]
abbrev jj:=S_bd9->FlC S_bd9 GΩ
def pL:jj:=bU (λa s=>{s with vcq:=some a}) (bj (Gn mk_Guild (pC (·.vAq))))
def kn:jj:=bb (qj Hz (λs' s=>{s with vcq:=some s'.vyq}) (vC (·.vcq)) (vC (·.v0q)) (vC (·.v2q)))
def vE:jj:=fb (pC (·.vBq)) (λa s=>{s with v0q:=some a.1,v2q:=some a.2})
 kn
def km:jj:=bb (Ac vY (λs' s=>{s with vcq:=some s'.vyq}) (vC (·.vcq)) (bc xa (vC (·.vnq)) (kC (0:Int))) (bc xa (vC (·.vnq)) (kC (1:Int))) (bc Nw (pC (·.vaq)) (vC (·.vnq))))
def vD:jj:=fb (b8 Eo (pC (·.vaq))) (λa s=>{s with vnq:=some a})
 km
def kj:jj:=bb (qj vX (λs' s=>{s with vcq:=some s'.vyq}) (vC (·.vcq)) (b8 yD (vC (·.vgq))) (bc Nw (pC (·.v6q)) (vC (·.vgq))))
def vB:jj:=fb (b8 Eo (pC (·.v6q))) (λa s=>{s with vgq:=some a})
 kj
def kh:jj:=bb (qj qd (λs' s=>{s with vcq:=some s'.vyq}) (vC (·.vcq)) (vC (·.v0q)) (vC (·.v2q)))
def vA:jj:=fb (pC (·.vzq)) (λa s=>{s with v0q:=some a.1,v2q:=some a.2})
 kh
def vz:jj:=dq (AT (λs=>s.vcq) (λs=>{s with vcq:=none}))
def xy:jj:=aI pL
 (aI vE
 (aI vD
 (aI vB
 (aI vA
 vz))))
def zB(b:Int)(a:L3)(c:DI Int)(d:DI Int)(e:L3):OutC S_bd9 GΩ:=cF none (xy ⟨b,a,c,d,e,none,none,none,none,none⟩)
theorem MA:Cl.TJ x9 aq wO xy:=ak (xs (am (xn jE xp)))
 (ak (c9 (gv xp) (λ_ _=>rfl)
 (az (hV (λ_=>rfl) (λ_ _=>rfl) (λc b a=>Qx c b a) xv (cY (λ_=>rfl) xv) (cY (λ_=>rfl) xv))))
 (ak (c9 (gv (bo C3 xp)) (λ_ _=>rfl)
 (az (wE (λ_=>rfl) (λ_ _=>rfl) (λc b a d=>Fa c b a d) xv (cY (λ_=>rfl) (ao C4 xv xk)) (cY (λ_=>rfl) (ao C4 xv xk)) (cY (λ_=>rfl) (ao wA xp xv)))))
 (ak (c9 (gv (bo C3 xp)) (λ_ _=>rfl)
 (az (hV (λ_=>rfl) (λ_ _=>rfl) (λc b a=>E9 c b a) xv (bo yu (oO (Ga (λ_=>rfl)) xv)) (cY (λ_=>rfl) (ao wA xp xv)))))
 (ak (c9 (gv xp) (λ_ _=>rfl)
 (az (hV (λ_=>rfl) (λ_ _=>rfl) (λc b a=>zi c b a) xv (cY (λ_=>rfl) xv) (cY (λ_=>rfl) xv))))
 (bB (jD (λ_=>rfl) (λ_=>rfl)))))))
theorem MO(b:Int)(a:L3)(c:DI Int)(d:DI Int)(e:L3):SimO x9 aq (m_bd9 [D.int b,(eL (mH D.int D.int)) a,(bR D.int) c,(bR D.int) d,(eL (mH D.int D.int)) e]) (zB b a c d e):=dZ MA rfl
structure S_bh9 where
 vcq:GΩ
 vpq:PostT
 vhq:Int
 vbq:Int
 v3q:Int
def x6:S_bh9->L4:=λs=>[some (aq s.vcq),some (cu s.vpq),some (D.int s.vhq),some (D.int s.vbq),some (D.int s.v3q)]
abbrev gX:=S_bh9->FlC S_bh9 Unit
def lj:gX:=bb (qj vX (λs' s=>{s with vcq:=s'.vyq}) (pC (·.vcq)) (jx (aR (pC (·.v3q)) (aR (kC (0:Int)) (dy:_->Res (List Int))))) (kC (1:Int)))
def f7:gX:=iG (bj (bc (jF false) (pC (·.vhq)) (kC (11:Int))))
 lj
 bM
def lh:gX:=bb (bj (cf FD (pC (·.vcq)) (jx (aR (pC (·.vbq)) (aR (pC (·.v3q)) (aR (kC (0:Int)) (dy:_->Res (List Int))))))))
def gT:gX:=iG (bj (bc (jF false) (pC (·.vhq)) (kC (12:Int))))
 lh
 bM
def lg:gX:=bb (bj (cf Hw (pC (·.vpq)) (pC (·.v3q))))
def je:gX:=iG (bj (bc (jF false) (pC (·.vhq)) (kC (13:Int))))
 lg
 bM
def lb:gX:=bb (bj (jw FB (pC (·.vpq)) (pC (·.v3q)) (pC (·.vbq))))
def lc:gX:=iG (bj (bc (jF false) (pC (·.vhq)) (kC (14:Int))))
 lb
 bM
def la:gX:=bb (bj (jw FB (pC (·.vpq)) (pC (·.vbq)) (pC (·.v3q))))
def pp:gX:=iG (bj (bc (jF false) (pC (·.vhq)) (kC (15:Int))))
 la
 bM
def k9:gX:=bb (bj (cf Hy (pC (·.vpq)) (pC (·.v3q))))
def vp:gX:=iG (bj (bc (jF false) (pC (·.vhq)) (kC (16:Int))))
 k9
 bM
def xt:gX:=aI f7
 (aI gT
 (aI je
 (aI lc
 (aI pp
 vp))))
def zx(a:GΩ)(b:PostT)(c:Int)(d:Int)(e:Int):OutC S_bh9 Unit:=cF (some ()) (xt ⟨a,b,c,d,e⟩)
theorem Mw:Cl.TJ x6 eN wK xt:=ak (bK (am (a9 (ao (cD false) xp xk)))
 (az (hV (λ_=>rfl) (λ_ _=>rfl) (λb a c=>E9 b a c) xp (bF (aw xp (aw xk bE))) xk))
 aZ)
 (ak (bK (am (a9 (ao (cD false) xp xk)))
 (az (am (bY (λ_=>rfl) (λb a=>Jr b a) xp (bF (aw xp (aw xp (aw xk bE)))))))
 aZ)
 (ak (bK (am (a9 (ao (cD false) xp xk)))
 (az (am (bY (λ_=>rfl) (λb a=>Qt b a) xp xp)))
 aZ)
 (ak (bK (am (a9 (ao (cD false) xp xk)))
 (az (am (fw (λ_=>rfl) (λb a c=>Jo b a c) xp xp xp)))
 aZ)
 (ak (bK (am (a9 (ao (cD false) xp xk)))
 (az (am (fw (λ_=>rfl) (λb a c=>Jo b a c) xp xp xp)))
 aZ)
 (bK (am (a9 (ao (cD false) xp xk)))
 (az (am (bY (λ_=>rfl) (λb a=>Qu b a) xp xp)))
 aZ)))))
theorem MK(a:GΩ)(b:PostT)(c:Int)(e:Int)(f:Int):SimO x6 eN (m_bh9 [aq a,cu b,D.int c,D.int e,D.int f]) (zx a b c e f):=f6 (d:=()) rfl Mw rfl
structure S_be9 where
 vcq:GΩ
 vpq:PostT
 vhq:Int
 vbq:Int
 v3q:Int
 vuq:(List Int)
 vkq:Option (List Bool)
 v8q:Option Int
def rN:S_be9->L4:=λs=>[some (aq s.vcq),some (cu s.vpq),some (D.int s.vhq),some (D.int s.vbq),some (D.int s.v3q),some ((eL D.int) s.vuq),s.vkq.map (eL D.bl),s.v8q.map D.int]
abbrev zu:=S_be9->FlC S_be9 (List Bool)
def vw:zu:=bU (λa s=>{s with vkq:=some a}) (bj (jx (dy:_->Res (List Bool))))
def lv:zu:=A6 (λs=>ft (rN s) (some 7)) (MU [10,11,13,14]) (iG (bj (bc (jF false) (pC (·.vhq)) (kC (17:Int)))) (bb (qj vX (λs' s=>{s with vcq:=s'.vyq}) (pC (·.vcq)) (pC (·.vuq)) (kC (1:Int)))) (iG (bj (bc (jF false) (pC (·.vhq)) (kC (18:Int)))) (bb (bj (cf FD (pC (·.vcq)) (pC (·.vuq))))) (aI (bb (Ac rl (λs' s=>{s with vcq:=s'.vcq}) (pC (·.vcq)) (pC (·.vhq)) (pC (·.vbq)) (pC (·.v3q)))) (bb (Pg zx (λs' s=>{s with vcq:=s'.vcq}) (pC (·.vcq)) (pC (·.vpq)) (pC (·.vhq)) (pC (·.vbq)) (pC (·.v3q))))))) λc=>(bU (λa s=>{s with vkq:=some a}) (bj (jx (aR (kC (match c with|10=>false|11=>true|13=>false|14=>false|_=>false)) (aR (kC (match c with|10=>false|11=>false|13=>false|14=>true|_=>false)) (aR (kC (match c with|10=>true|11=>true|13=>true|14=>true|_=>false)) (dy:_->Res (List Bool))))))))
def vv:zu:=dq (AT (λs=>s.vkq) (λs=>{s with vkq:=none}))
def xx:zu:=aI vw
 (aI lv
 vv)
def rk(a:GΩ)(b:PostT)(c:Int)(d:Int)(f:Int)(e:List Int):OutC S_be9 (List Bool):=cF none (xx ⟨a,b,c,d,f,e,none,none⟩)
theorem Mz:Cl.TJ rN (eL D.bl) wN xx:=ak (xs (am (bF bE)))
 (ak (Jz (bK (am (a9 (ao (cD false) xp xk))) (az (hV (λ_=>rfl) (λ_ _=>rfl) (λb a c=>E9 b a c) xp xp xk)) (bK (am (a9 (ao (cD false) xp xk))) (az (am (bY (λ_=>rfl) (λb a=>Jr b a) xp xp))) (ak (az (Lv (λ_ _=>rfl) (λb a c d=>MQ b a c d) xp xp xp xp)) (az (Lu (λ_ _=>rfl) (λb a c d e=>MK b a c d e) xp xp xp xp xp))))) λ_=>(xs (am (bF (aw xk (aw xk (aw xk bE)))))))
 (bB (jD (λ_=>rfl) (λ_=>rfl))))
theorem MN(a:GΩ)(b:PostT)(c:Int)(d:Int)(f:Int)(e:List Int):SimO rN (eL D.bl) (m_be9 [aq a,cu b,D.int c,D.int d,D.int f,(eL D.int) e]) (rk a b c d f e):=dZ Mz rfl
structure S_y9 where
 vvq:(List Int)
 vAq:Option Int
 vaq:Option (DI Int)
 v6q:Option (DI Int)
 vzq:Option L3
 vcq:Option GΩ
 vpq:Option PostT
 vbq:Option Int
 v3q:Option ((List Int) ⊕ Int)
 vxq:Option ((List ((List Int)×Int))×List (List (List Int)))
 v4q:Option Int
 vuq:Option (List Int)
 v7q:Option (List Bool)
 v0q:Option Int
 vnq:Option ((List Int)×Int)
def rJ:S_y9->L4:=λs=>[some (eS s.vvq),s.vAq.map D.int,s.vaq.map (bR D.int),s.v6q.map (bR D.int),s.vzq.map (eL (mH D.int D.int)),s.vcq.map aq,s.vpq.map cu,s.vbq.map D.int,s.v3q.map (PM (eL D.int) D.int),s.vxq.map (Jk (eL (mH (eL D.int) D.int)) (eL (eL D.int))),s.v4q.map D.int,s.vuq.map (eL D.int),s.v7q.map (eL D.bl),s.v0q.map D.int,s.vnq.map (mH (eL D.int) D.int)]
abbrev eG:=S_y9->FlC S_y9 Bool
def sR:eG:=bU (λa s=>{s with vAq:=some a}) (bj (bc jy (kC (2:Int)) (bc dC (cf jz (pC (·.vvq)) (kC (0:Int))) (kC (8:Int)))))
def sQ:eG:=bU (λa s=>{s with vaq:=some a}) (bj (cf zC (cf jz (pC (·.vvq)) (kC (2:Int))) (vC (·.vAq))))
def sP:eG:=bU (λa s=>{s with v6q:=some a}) (bj (cf v1 (cf jz (pC (·.vvq)) (kC (3:Int))) (vC (·.vAq))))
def sO:eG:=bU (λa s=>{s with vzq:=some a}) (bj (cf vZ (cf jz (pC (·.vvq)) (kC (4:Int))) (vC (·.vAq))))
def sN:eG:=bU (λa s=>{s with vcq:=some a}) (bj (Om zB (vC (·.vAq)) (cf zw (cf jz (pC (·.vvq)) (kC (1:Int))) (vC (·.vAq))) (vC (·.vaq)) (vC (·.v6q)) (vC (·.vzq))))
def sM:eG:=bU (λa s=>{s with vpq:=some a}) (bj (Gn mk_Post (vC (·.vcq))))
def sL:eG:=bU (λa s=>{s with vbq:=some a}) (bj (bc jy (kC (1:Int)) (bc dC (cf jz (pC (·.vvq)) (kC (5:Int))) (bc qg (vC (·.vAq)) (kC (1:Int))))))
def sK:eG:=bU (λa s=>{s with v3q:=some a}) (λs=>Fq ((bj (jx (aR (b8 Ly (kC (1:Int))) (aR (vC (·.vAq)) (aR (bc qg (bc qg (kC (0:Int)) (kC (1:Int))) (bc dC (cf jz (pC (·.vvq)) (kC (6:Int))) (bc KD (kC (10:Int)) (kC (9:Int))))) (aR (bc jy (vC (·.vAq)) (bc dC (cf jz (pC (·.vvq)) (kC (6:Int))) (bc KD (kC (10:Int)) (kC (9:Int))))) (dy:_->Res (List Int)))))))) s) λa s=>bndO ((Ps:(List Int)->Res ((List Int) ⊕ Int)) a) s λb=>.ok b s)
def jt:eG:=bU (λa s=>{s with v3q:=some a}) (λs=>Fq ((bj (bc xa (b8 Ic (vC (·.v3q))) (bc dC (cf jz (pC (·.vvq)) (kC (7:Int))) (kC (4:Int))))) s) λa s=>bndO ((Pr:Int->Res ((List Int) ⊕ Int)) a) s λb=>.ok b s)
def o7:eG:=bU (λa s=>{s with vxq:=some a}) (bj (cf v0 (vC (·.vcq)) (vC (·.vAq))))
def j7:eG:=bU (λa s=>{s with vuq:=some a}) (bj (On zz (bc iH (vC (·.v4q)) (kC (19:Int))) (vC (·.vbq)) (b8 qF (vC (·.v3q))) (vC (·.vAq))))
def j6:eG:=bU (λa s=>{s with v7q:=some a}) (bj (jx (aR (kC true) (aR (kC false) (aR (kC true) (dy:_->Res (List Bool)))))))
def jc:eG:=bU (λa s=>{s with v7q:=some a}) (bj (jx (aR (kC false) (aR (kC true) (aR (kC true) (dy:_->Res (List Bool)))))))
def dM:eG:=iG (bj (Hl (bc Nv (bc dC (vC (·.v4q)) (kC (19:Int))) (kC (16:Int))) (bc (Rf true) (b8 qF (vC (·.v3q))) (vC (·.vuq)))))
 jc
 bM
def o3:eG:=dq (bj (kC false))
def im:eG:=iG (Qy (jF true) (Pe rk (λs' s=>{s with vcq:=some s'.vcq}) (vC (·.vcq)) (vC (·.vpq)) (bc dC (vC (·.v4q)) (kC (19:Int))) (vC (·.vbq)) (b8 qF (vC (·.v3q))) (vC (·.vuq))) (bj (vC (·.v7q))))
 o3
 bM
def lH:eG:=aI j7
 (aI j6
 (aI dM
 im))
def o4:eG:=fb (jx (aR (cf jz (pC (·.vvq)) (kC (8:Int))) (aR (cf jz (pC (·.vvq)) (kC (9:Int))) (aR (cf jz (pC (·.vvq)) (kC (10:Int))) (dy:_->Res (List Int)))))) (λa s=>{s with v4q:=some a})
 lH
def oZ:eG:=bb (A9 (cf qo (vC (·.vcq)) (vC (·.v0q))) (b8 qF (vC (·.v3q))))
def oY:eG:=bb (A9 (cf tU (vC (·.vcq)) (vC (·.v0q))) (b8 qF (vC (·.v3q))))
def pW:eG:=aI oZ
 oY
def o0:eG:=fb (b8 (iO 0) (vC (·.vAq))) (λa s=>{s with v0q:=some a})
 pW
def oX:eG:=bb (A9 (cf tU (vC (·.vcq)) (vC (·.vbq))) (kC (0:Int)))
def oW:eG:=GD (λs=>ft (rJ s) (some 14)) (λs=>(rg (rJ s) 8).isSome) (rV xJ (vC (·.vcq)))
def oV:eG:=bb (JD (rV xJ (vC (·.vcq))))
def u8:eG:=dq (bj (bc (jF false) (cf v0 (vC (·.vcq)) (vC (·.vAq))) (vC (·.vxq))))
def Fd:eG:=aI sR
 (aI sQ
 (aI sP
 (aI sO
 (aI sN
 (aI sM
 (aI sL
 (aI sK
 (aI jt
 (aI o7
 (aI o4
 (aI o0
 (aI oX
 (aI oW
 (aI oV
 u8))))))))))))))
def Nm(a:List Int):OutC S_y9 Bool:=cF none (Fd ⟨a,none,none,none,none,none,none,none,none,none,none,none,none,none,none⟩)
theorem PY:Cl.TJ rJ D.bl Dy Fd:=ak (xs (am (ao gp xk (ao b7 (cG (λa b=>iJ a b) xp xk) xk))))
 (ak (xs (am (cG (λa b=>MP a b) (cG (λa b=>iJ a b) xp xk) xv)))
 (ak (xs (am (cG (λa b=>MR a b) (cG (λa b=>iJ a b) xp xk) xv)))
 (ak (xs (am (cG (λa b=>MI a b) (cG (λa b=>iJ a b) xp xk) xv)))
 (ak (xs (am (Mg (λa b d c e=>MO a b d c e) xv (cG (λa b=>MH a b) (cG (λa b=>iJ a b) xp xk) xv) xv xv xv)))
 (ak (xs (am (xn sv xv)))
 (ak (xs (am (ao gp xk (ao b7 (cG (λa b=>iJ a b) xp xk) (ao kQ xv xk)))))
 (ak (xs (uu M4 (am (bF (aw (bo Iu xk) (aw xv (aw (ao kQ (ao kQ xk xk) (ao b7 (cG (λa b=>iJ a b) xp xk) (ao Ir xk xk))) (aw (ao gp xv (ao b7 (cG (λa b=>iJ a b) xp xk) (ao Ir xk xk))) bE))))))))
 (ak (xs (uu M3 (am (ao nV (dN Hh xv) (ao b7 (cG (λa b=>iJ a b) xp xk) xk)))))
 (ak (xs (am (cG (λa b=>Fb a b) xv xv)))
 (ak (c9 (gv (bF (aw (cG (λa b=>iJ a b) xp xk) (aw (cG (λa b=>iJ a b) xp xk) (aw (cG (λa b=>iJ a b) xp xk) bE))))) (λ_ _=>rfl)
 (ak (xs (am (Mh (λa b d c=>ML a b d c) (ao fU xv xk) xv (dN lL xv) xv)))
 (ak (xs (am (bF (aw xk (aw xk (aw xk bE))))))
 (ak (bK (am (yK (a9 (ao Lm (ao b7 xv xk) xk)) (a9 (ao (C0 oT (by decide)) (dN lL xv) xv))))
 (xs (am (bF (aw xk (aw xk (aw xk bE))))))
 aZ)
 (bK (Lq (OL (C5 (oR PV) (by decide) true) (Ls (λ_ _=>rfl) (λa b d c e f=>MN a b d c e f) xv xv (ao b7 xv xk) xv (dN lL xv) xv) (am xv)))
 (bB (am xk))
 aZ)))))
 (ak (c9 (gw xv) (λ_ _=>rfl)
 (ak (az (wD (bY (λ_=>rfl) (λa b=>vM a b) xv xv) (dN lL xv)))
 (az (wD (bY (λ_=>rfl) (λa b=>zh a b) xv xv) (dN lL xv)))))
 (ak (az (wD (bY (λ_=>rfl) (λa b=>zh a b) xv xv) xk))
 (ak (JB (λ_=>rfl) (λ_=>rfl) (xm (λ_=>rfl) (λa=>E8 a) xv))
 (ak (az (Lr (xm (λ_=>rfl) (λa=>E8 a) xv)))
 (bB (am (ao (C5 (Mp (oR (E2 (oR oT) oT)) (oR (oR oT))) (by decide) false) (cG (λa b=>Fb a b) xv xv) xv)))))))))))))))))
theorem Qq(a:List Int):SimO rJ D.bl (m_y9 [eS a]) (Nm a):=jY PY rfl
end
def bG(ns:List Int)(k:Int):Int:=(ns[k.toNat]?).getD 0
theorem F7(ns:List Int)(k:Int)(a:0<=k):(jz ns k).res=.ok (bG ns k):=by
 unfold jz Fc yQ yP mJ bG;by_cases h:k<ns.length
 ·obtain⟨v,e⟩:∃v,ns[k.toNat]?=some v:=⟨_,R7 (by omega)⟩;simp[h,tQ ns a,e]
 ·have e:ns[k.toNat]?=none:=R6 (by omega);simp[h,e]
def PairOk(sz:Int)(k:List Int):Prop:=∃a b,k=[a,b]/\0<=a/\a<sz/\0<=b/\b<sz
theorem F5(c sz:Int)(d:0<sz):∃F:DI Int,(zC c sz).res=.ok F/\F.length<=5/\DI.nd F/\∀p∈F,PairOk sz p.1:=by
 have l:0<=c%5/\c%5<5:=⟨Sf _ (by omega),Sg _ (by omega)⟩
 obtain⟨s',e,b,k,F,rfl,i,f,hF⟩:=dH (u:=λa s=>{s with vfq:=some a}) (c:=pZ) (λp (s:S_bc9)=>∃b k F,s=⟨b,sz,some F,k⟩/\F.length<=p.length/\DI.nd F/\∀p∈F,PairOk sz p.1)
  (cM 0 (c%5)) ⟨c,sz,some [],none⟩ ⟨c,none,[],rfl,by simp,by simp[DI.nd],λ_ h=>(nomatch h)⟩ (by
    rintro p a r s j ⟨b,k,F,rfl,i,f,hF⟩
    have hp:p.length<5:=by
     have:=b9 0 (c%5)
     rw[j,RK,RL]at this;omega
    have g:F.length<aj:=by unfold aj;omega
    refine⟨_,.inl ?_,(b*48271+11)%2147483647,some a,F.put [(b*48271+11)%2147483647%sz,(b*48271+11)%2147483647 / 7%sz] ((b*48271+11)%2147483647 / 49%7-3),rfl,?_,hZ f,fG hF ⟨_,_,rfl,Sf _ (by omega),Sg _ d,Sf _ (by omega),Sg _ d⟩⟩
    ·simp[pZ,pO,pM,d,g]
    ·rw[RK];exact Su gj (by simp;omega))
 refine⟨F,?_,?_,f,hF⟩
 ·unfold zC xz vH vG vF;simp[eI (lo:=0) (hi:=c%5) (by omega) (by omega) (by omega) (by omega),e]
 ·have:=b9 0 (c%5);omega
theorem fy{W:Type}:∀{l:List W} {j:Nat} (h:j<l.length),(l[j]::l.eraseIdx j).Perm l
 |x::l,0,h=>Ur _
 | x::l,j+1,h=>by
   have a:=fy (l:=l) (j:=j) (by simpa using h);rw[S0,List.getElem_cons_succ];exact(List.Perm.swap x _ _).trans (a.cons x)
structure RoadOk (sz:Int) (r:List Int):Prop where
 two:2<=r.length
 last:r.getLast?=some 0
 nd:r.Nodup
 all:∀x∈r,0<=x/\x<sz
theorem KE{W:Type}{l:List W}{i:Int}(h0:0<=i)(a:i<l.length)(b:l.length<=20000):∃(h:i.toNat<l.length),CC l i=some (l[i.toNat],l.eraseIdx i.toNat):=by
 have h:i.toNat<l.length:=by omega
 refine⟨h,?_⟩;unfold CC;rw[if_pos ⟨h0,a,by unfold aj;omega⟩,List.getElem?_eq_getElem h];rfl
theorem xH{W:Type}{l:List W}{x:W}(h:l.length<aj):tR l x=some ((),l++[x]):=by unfold tR;rw[if_pos h]
theorem MS{W:Type}{l m:List W}(h:l.length+m.length<=aj):tM l m=.ok (l++m):=by unfold tM;rw[if_pos h]
theorem F1(c h sz:Int)(N:1<=h)(M:h<sz)(W:sz<=1000):∃r,(zA c h sz).res=.ok r/\RoadOk sz r/\(∃t,r=h::t)/\r.length<=1001:=by
 have E:gW (bc iO (kC (1:Int)) (pC (·.vAq))) (bc (jF true) (pC λp=>p.1) (pC λp=>p.2.vdq)) (pC λp=>p.1) (⟨c,h,sz,none,none,none⟩:S_bf9)=.ok ((cM 1 sz).filter λx=>!decide (x=h)):=by
  rw[tG (l:=cM 1 sz) (λx=>!decide (x=h)) (λx=>x) (by simp[eI (lo:=1) (hi:=sz) (by omega) (by omega) (by omega) (by omega)]) (by rw[b9];unfold aj;omega) (λa _=>by simp) (λa _ _=>by simp)];simp
 have y:∀x∈(cM 1 sz).filter (λx=>!decide (x=h)),1<=x/\x<sz/\x≠h:=λx g=>by
  obtain⟨H,G⟩:=Tq.mp g
  have:=eZ.mp H
  exact⟨this.1,this.2,by simpa using G⟩
 have i:((cM 1 sz).filter λx=>!decide (x=h)).Nodup:=(wB 1 sz).filter _;have A:((cM 1 sz).filter λx=>!decide (x=h)).length<=999:=Su (UU _ _) (by rw[b9];omega);generalize (cM 1 sz).filter (λx=>!decide (x=h))=d at E y i A
 have F:=xL (t:=bj (Hl (bc Nv (vC (·.vjq)) (kC (0:Int))) (bc Nv (b8 si (vC (·.vsq))) (kC (0:Int))))) (c:=pY)
  (λn (s:S_bf9)=>∃f m bX mid,s=⟨f,h,sz,some bX,some (h::mid),some m⟩/\bX.length=n/\(h::mid++bX).Nodup/\(∀x∈h::mid++bX,1<=x/\x<sz)/\(h::mid++bX).length<=1000)
  (λs=>∃f m bX mid,s=⟨f,h,sz,some bX,some (h::mid),some m⟩/\(h::mid).Nodup/\(∀x∈h::mid,1<=x/\x<sz)/\(h::mid).length<=1000) (by
    rintro n s ⟨f,m,bX,mid,rfl,rfl,nd,w,B⟩;have I:mid.length+bX.length+1<=1000:=by simpa using B
    by_cases C:0<m/\0<bX.length
    · have K:0<=f%(bX.length:Int):=Sf _ (by omega);have J:f%(bX.length:Int)<bX.length:=Sg _ (by omega);obtain⟨k,hp⟩:=KE K J (by omega);have V:(0:Int)<bX.length:=by omega
      generalize (f%(bX.length:Int)).toNat=j at k hp;have D:=xH (l:=h::mid) (x:=bX[j]) (by simp only[List.length_cons];unfold aj;omega);refine .inr ⟨by simp[C.1,C.2],(bX.eraseIdx j).length,_,by rw[List.length_eraseIdx,if_pos k];omega,.inl (by simp[pY,pE,pD,pA,C.2,hp,D]),f / 5,m-1,bX.eraseIdx j,mid++[bX[j]],rfl,rfl,?_,?_,?_⟩
      · have v:(h::(mid++[bX[j]])++bX.eraseIdx j).Perm (h::mid++bX):=by
         have:(bX[j]::bX.eraseIdx j).Perm bX:=fy k
         simpa using(UV (h::mid) this)
        exact v.nodup_iff.mpr nd
      · intro x g;refine w x ?_
        have v:(h::(mid++[bX[j]])++bX.eraseIdx j).Perm (h::mid++bX):=by
         have:(bX[j]::bX.eraseIdx j).Perm bX:=fy k
         simpa using(UV (h::mid) this)
        exact v.mem_iff.mp g
      ·simp[List.length_eraseIdx,k];omega
    · refine .inl ⟨?_,f,m,bX,mid,rfl,(Sz.mp nd).1,λx g=>w x (RX _ g),by simp;omega⟩;by_cases o:0<m
      ·have T:bX=[]:=SG.mp (by omega);subst T;simp[o]
      ·simp[o])
 obtain⟨s',e,f,m,bX,mid,rfl,nd,w,B⟩:=F 100000 d.length ⟨c / 4,h,sz,some d,some [h],some (if c / 4%8=3 then sz else c%4)⟩
  ⟨c / 4,_,d,[],rfl,rfl,RZ.mpr ⟨λz=>(y h z).2.2 rfl,i⟩,λx g=>by
   rcases RO.mp g with z|z
   ·rw[z];exact⟨N,M⟩
   ·exact⟨(y x z).1,(y x z).2.1⟩,by show(h::d).length<=1000;rw[RL];omega⟩ (by omega)
 have U:mid.length+1<=1000:=by simpa using B
 have u:=MS (l:=h::mid) (m:=[(0:Int)]) (by simp only[List.length_cons,List.length_nil];unfold aj;omega);refine⟨h::mid++[0],?_,⟨by simp,List.getLast?_concat ..,?_,λx g=>?_⟩,⟨_,rfl⟩,by simp;omega⟩
 · have v:pK ⟨c,h,sz,none,none,none⟩=.nx ⟨c,h,sz,some d,none,none⟩:=by
    unfold pK bU bj;rw[E];rfl
   have S:pJ ⟨c,h,sz,some d,none,none⟩=.nx ⟨c,h,sz,some d,some [h],none⟩:=by simp[pJ,aj]
   have R:pH ⟨c,h,sz,some d,some [h],none⟩=.nx ⟨c,h,sz,some d,some [h],some (c%4)⟩:=by simp[pH]
   have Q:pG ⟨c,h,sz,some d,some [h],some (c%4)⟩=.nx ⟨c,h,sz,some d,some [h],some (if c / 4%8=3 then sz else c%4)⟩:=by
    by_cases q:c / 4%8=3<;>simp[pG,lu,q]
   have P:∀x,pF ⟨c,h,sz,some d,some [h],x⟩=.nx ⟨c / 4,h,sz,some d,some [h],x⟩:=λx=>by simp[pF]
   have O:vt ⟨c / 4,h,sz,some d,some [h],some (if c / 4%8=3 then sz else c%4)⟩=_:=e;unfold zA xw;simp only[aI,v,S,R,Q,P,O];simp[vq,u,aj,-tM]
 · exact Sz.mpr ⟨nd,by simp,λa D b L=>by
    rw[RV.mp L]
    have:=(w a D).1
    omega⟩
 · rcases RW.mp g with z|z
   ·have:=w x z;omega
   ·rw[RV.mp z];omega
theorem mj:∀(n:Nat) (l:List Int),l.Nodup->(∀x∈l,0<=x/\x<n)->l.length<=n:=by
 intro n
 induction n with
 |zero=>
   intro l nd a;cases l with
   |nil=>exact RU _
   |cons x l=>have:=a x RG;omega
 |succ n d=>
   intro l nd a
   have c:=d (l.erase n) (nd.erase _) λx e=>by
    have b:=(nd.mem_erase_iff).mp e
    have:=a x b.2
    have f:=b.1;omega
   rw[List.length_erase]at c;split at c<;>omega
theorem RoadOk.len{sz:Int}{r:List Int}(h:RoadOk sz r):(r.length:Int)<=sz:=by
 have:=mj sz.toNat r h.nd λx a=>by have:=h.all x a;omega
 obtain⟨x,a⟩:=List.exists_mem_of_ne_nil r (λz=>by have:=h.two;rw[z]at this;simp at this)
 have:=h.all x a
 omega
theorem F6(c sz:Int)(z:1<=sz)(q:sz<=1000):∃F:DI Int,(v1 c sz).res=.ok F/\F.length<=4/\DI.nd F/\∀p∈F,RoadOk sz p.1:=by
 by_cases j:sz<2
 ·refine⟨[],?_,by simp,by simp[DI.nd],λ_ h=>(nomatch h)⟩;simp[v1,tL,pT,pS,lG,j]
 · have y:0<=c%4/\c%4<4:=⟨Sf _ (by omega),Sg _ (by omega)⟩
   obtain⟨s',e,f,k,F,r,rfl,n,i,hF⟩:=dH (u:=λa s=>{s with vfq:=some a}) (c:=p1) (λp (s:S_ba9)=>∃f k F r,s=⟨f,sz,some F,k,r⟩/\F.length<=p.length/\DI.nd F/\∀p∈F,RoadOk sz p.1)
    (cM 0 (c%4)) ⟨c,sz,some [],none,none⟩ ⟨c,none,[],none,rfl,by simp,by simp[DI.nd],λ_ h=>(nomatch h)⟩ (by
      rintro p a r s o ⟨f,k,F,rd,rfl,n,i,hF⟩
      have hp:p.length<4:=by
       have:=b9 0 (c%4)
       rw[o,RK,RL]at this;omega
      have l:F.length<aj:=by unfold aj;omega
      have g:1<sz:=by omega
      generalize v:(f*48271+17)%2147483647=b;have x:0<=b%(sz-1):=Sf _ (by omega);have w:b%(sz-1)<sz-1:=Sg _ (by omega);obtain⟨d,t,m,_,_⟩:=F1 (b / 9) (1+b%(sz-1)) sz (by omega) (by omega) q;refine⟨_,.inl ?_,b,some a,F.put d (b / 5%9-4),some d,rfl,?_,hZ i,fG hF m⟩
      ·simp[p1,pR,pQ,pP,v,l,g,t]
      ·rw[RK];exact Su gj (by simp;omega))
   refine⟨F,?_,?_,i,hF⟩
   ·unfold v1 tL;simp[pT,pS,vJ,vI,j,eI (lo:=0) (hi:=c%4) (by omega) (by omega) (by omega) (by omega),e]
   ·have:=b9 0 (c%4);omega
def zv(sz:Int)(p:Int×Int):Prop:=0<=p.1/\p.1<sz/\0<=p.2/\p.2<sz/\p.1≠p.2
theorem nY{W:Type}{l:List W}{a:W}(h:l.Nodup)(d:a∉l):(l++[a]).Nodup:=
 Sz.mpr ⟨h,by simp,λx c y b=>by rw[RV.mp b];rintro rfl;exact d c⟩
theorem zF{a x sz:Int}(e:0<=a)(d:a<sz)(c:0<=x)(b:x<sz-1):a≠(a+1+x)%sz:=by
 by_cases q:a+1+x<sz
 ·rw[Ux (by omega) q];omega
 · have:(a+1+x)%sz=a+1+x-sz:=by
    rw[<-Int.sub_emod_right,Ux (by omega) (by omega)]
   rw[this];omega
theorem JI(c sz:Int)(L:1<=sz):∃W:L3,(vZ c sz).res=.ok W/\W.length<=3/\W.Nodup/\∀p∈W,zv sz p:=by
 by_cases C:sz<2
 ·refine⟨[],?_,by simp,by simp,λ_ h=>(nomatch h)⟩;simp[vZ,tJ,pe,o9,k8,C,aj]
 · have K:0<=c%3/\c%3<3:=⟨Sf _ (by omega),Sg _ (by omega)⟩;have g:1<sz:=by omega
   have f:0<sz:=by omega
   obtain⟨s',e,m,k,y,w,W,rfl,H,i,j⟩:=dH (u:=λa s=>{s with vfq:=some a}) (c:=lI) (λp (s:S_bj9)=>∃m k y w W,s=⟨m,sz,some W,k,y,w⟩/\W.length<=p.length/\W.Nodup/\∀p∈W,zv sz p)
    (cM 0 (c%3)) ⟨c,sz,some [],none,none,none⟩ ⟨c,none,none,none,[],rfl,by simp,by simp,λ_ h=>(nomatch h)⟩ (by
      rintro p x r s I ⟨m,k,y,w,W,rfl,H,i,j⟩
      have hp:p.length<3:=by
       have:=b9 0 (c%3)
       rw[I,RK,RL]at this;omega
      generalize D:(m*48271+23)%2147483647=d;have q:0<=d%sz:=Sf _ (by omega);have o:d%sz<sz:=Sg _ f;have G:0<=d / 7%(sz-1):=Sf _ (by omega);have F:d / 7%(sz-1)<sz-1:=Sg _ (by omega);have B:0<=(d%sz+1+d / 7%(sz-1))%sz:=Sf _ (by omega);have A:(d%sz+1+d / 7%(sz-1))%sz<sz:=Sg _ f;have n:=zF q o G F;generalize v:(d%sz+1+d / 7%(sz-1))%sz=b at B A n;generalize E:d%sz=a at q o n v;by_cases t:(a,b)∈W
      ·refine⟨_,.inl ?_,d,some x,some a,some b,W,rfl,by rw[RK];omega,i,j⟩;simp[lI,ke,kc,ka,j9,D,f,g,E,v,t]
      · have J:=xH (l:=W) (x:=(a,b)) (by unfold aj;omega);refine⟨_,.inl ?_,d,some x,some a,some b,W++[(a,b)],rfl,by rw[List.length_append,List.length_append];simp;omega,nY i t,λp hp=>?_⟩
        ·simp[lI,ke,kc,ka,j9,jd,D,f,g,E,v,t,J]
        · rcases RW.mp hp with z|z
          ·exact j p z
          ·rw[RV.mp z];exact⟨q,o,B,A,n⟩)
   refine⟨W,?_,?_,i,j⟩
   ·unfold vZ tJ;simp[pe,o9,vm,vk,C,eI (lo:=0) (hi:=c%3) (by omega) (by omega) (by omega) (by omega),e,aj]
   ·have:=b9 0 (c%3);omega
structure WaysOk (sz:Int) (W:L3):Prop where
 nd:W.Nodup
 all:∀p∈W,0<=p.1/\p.1<p.2/\p.2<sz
 len:W.length<=10000
theorem FX(c sz:Int)(P:1<=sz)(O:sz<=60):∃W:L3,(zw c sz).res=.ok W/\WaysOk sz W:=by
 generalize j:(c+1)*48271%2147483647*16807%2147483647=d
 obtain⟨s',e,k,C,g,W,rfl,y,n,m,v⟩:=dH (u:=λa s=>{s with v0q:=some a}) (c:=j8) (λp (s:S_bk9)=>∃k C g W,s=⟨c,sz,some d,some W,some k,C,g⟩/\0<=k/\W.Nodup/\(∀q∈W,0<=q.1/\q.1<q.2/\q.2<sz/\q.1<(p.length:Int))/\W.length<=p.length*100)
  (cM 0 sz) ⟨c,sz,some d,some [],some 0,none,none⟩ ⟨0,none,none,[],rfl,by omega,by simp,λ_ h=>(nomatch h),by simp⟩ (by
    rintro p a r s G ⟨k,C,g,W,rfl,y,n,m,v⟩;have N:=xT G;have E:(p.length:Int)=a:=by omega
    obtain⟨s2,H,k2,I,J,rfl,w,t,B,F⟩:=dH (u:=λa s=>{s with v2q:=some a}) (c:=iz) (λq (s:S_bk9)=>∃k g W,s=⟨c,sz,some d,some W,some k,some a,g⟩/\0<=k/\W.Nodup/\(∀x∈W,0<=x.1/\x.1<x.2/\x.2<sz/\(x.1<a\/x.1=a/\x.2<a+1+(q.length:Int)))/\W.length<=p.length*100+q.length)
     (cM (a+1) sz) ⟨c,sz,some d,some W,some k,some a,g⟩ ⟨k,g,W,rfl,y,n,λx i=>by have:=m x i;omega,by simpa using v⟩ (by
       rintro q b K s o ⟨k,g,W,rfl,y,n,m,v⟩;have M:=xT o
       have L:q.length<60:=by
        have:=b9 (a+1) sz
        rw[o,RK,RL]at this;omega
       have f:0<=k%29:=Sf _ (by omega);by_cases D:d / 2 ^ (k%29).toNat%2=1
       · have A:=xH (l:=W) (x:=(a,b)) (by unfold aj;omega);refine⟨_,.inl ?_,k+1,some b,W++[(a,b)],rfl,by omega,nY n (λz=>by have:=m _ z;omega),λx i=>?_,by rw[List.length_append,List.length_append];simp;omega⟩
         ·simp[iz,ip,gS,io,f,D,A]
         · rw[RK];rcases RW.mp i with z|z
           ·have:=m x z;simp;omega
           ·rw[RV.mp z];simp;omega
       · refine⟨_,.inl ?_,k+1,some b,W,rfl,by omega,n,λx i=>?_,by rw[RK];omega⟩
         ·simp[iz,ip,io,f,D]
         ·have:=m x i;rw[RK];simp;omega)
    refine⟨_,.inl ?_,k2,some a,I,J,rfl,w,t,λx i=>?_,?_⟩
    ·simp only[j8,fb,bc,jy,vC,pC,kC,Res.bind];rw[eI (by omega) (by omega) (by omega) (by omega)];exact H
    ·have:=B x i;rw[RK];simp;omega
    ·have:=b9 (a+1) sz;rw[RK];simp;omega)
 refine⟨W,?_,n,λp hp=>by have:=m p hp;omega,by have:=b9 0 sz;omega⟩;unfold zw xq;simp[vh,vg,vf,ve,vd,j,aj,eI (lo:=0) (hi:=sz) (by omega) (by omega) (by omega) (by omega),e]
theorem uK(l:List Int)(m:Int):0<=dL l m↔0<=m/\∀x∈l,0<=x:=by
 obtain⟨e,f,d⟩:=i4 l m;constructor
 ·intro h;exact⟨by omega,λx c=>by have:=d x c;omega⟩
 · rintro⟨a,b⟩;rcases e with z|z
   ·omega
   ·exact b _ z
theorem zK(b:List Int)(n:Int)(h:∀x∈b,0<=x/\x<n)(h0:0<n):(rj b n).res=.ok ():=by
 unfold rj tI
 first | unfold o8 | skip
 cases b with
 |nil=>
   have q:¬ n<=0:=by omega
   simp[q]
 |cons a l=>
   have g:0<=dL l a:=(uK l a).mpr ⟨(h a RG).1,λx e=>(h x (on _ e)).1⟩
   have f:gq l a<n:=by
    obtain⟨z|z,_⟩:=ie l a
    ·rw[z];exact(h a RG).2
    ·exact(h _ (on _ z)).2
   have d:¬ dL l a<0:=by omega
   have c:¬ n<=gq l a:=by omega
   simp[d,c]
theorem gA(g:GΩ)(a:List Int)(h:∀x∈a,0<=x/\x<g.hω)(h0:0<g.hω):(lM g a).res=.ok ():=by
 have e:=zK a g.hω h h0;unfold lM zm
 first | unfold tz | skip
 simp[e]
theorem in1{a n:Int}(c:0<=a/\a<n):∀x∈[a],0<=x/\x<n:=λx b=>by rw[RV.mp b];exact c
theorem QR{a b n:Int}(e:0<=a/\a<n)(d:0<=b/\b<n):∀x∈[a,b],0<=x/\x<n:=λx c=>by
 rcases RO.mp c with z|z
 ·rw[z];exact e
 ·rw[RV.mp z];exact d
theorem Bq(g:GΩ)(a b:Int)(f:0<=a/\a<g.hω)(d:0<=b/\b<g.hω)(c:a≠b):(tV g a b).res=.ok ():=by
 have e:=gA g [a,b] (QR f d) (by omega);unfold tV vP;simp[nz,tq,e,c,aj]
theorem zL(g:GΩ)(a b:Int)(d:0<=a/\a<g.hω)(c:0<=b/\b<g.hω):(qp g a b).res=.ok ((g.lω.get [a,b]).getD 0):=by
 have e:=gA g [a,b] (QR d c) (by omega);unfold qp zo;simp[tE,y9,e,aj]
theorem F3(g:GΩ)(r:List Int)(a:RoadOk g.hω r)(h:g.hω<=1000):(iD g r).res=.ok ():=by
 have f:=a.len;have two:=a.two;have e:=gA g r a.all (by omega);have d:¬ (r.length:Int)<2:=by omega
 have b:r.length<4000:=by omega
 have c:=a.last;unfold iD p5;simp[ju,k6,nA,tu,e,d,b,Cl.lK,c,EY a.nd]
def Kx(L Q:DI Int)(r:List Int):Int:=(Q.get r).getD (match r with|a::b::_=>(L.get [a,b]).getD 0|_=>0)
def mB(L Q:DI Int)(r:List Int):Int×Int×List Int:=(0-Kx L Q r,(r.length:Int),r)
theorem Rp{W:Type}(a b:W)(t:List W):iK (a::b::t) 0=some a:=by rw[tQ _ (by omega)];rfl
theorem at1{W:Type}(a b:W)(t:List W):iK (a::b::t) 1=some b:=by rw[tQ _ (by omega)];rfl
theorem F4(g:GΩ)(a b v:Int)(f:0<=a/\a<g.hω)(d:0<=b/\b<g.hω)(c:g.lω.length<aj):vY g a b v=.ok () ⟨{g with lω:=g.lω.put [a,b] v},a,b,v⟩:=by
 have e:=gA g [a,b] (QR f d) (by omega);unfold vY zp;simp[tF,za,e,c,aj]<;>(unfold aj at c;simp[c])
theorem FZ(g:GΩ)(a b:Int)(h:0<=a/\a<g.hω)(f:0<=b/\b<g.hω)(c:a≠b)(d:g.sω.length<aj):qd g a b=.ok () ⟨{g with sω:=g.sω.put [a,b] true},a,b⟩:=by
 have e:=Bq g a b h f c;unfold qd vO;simp[ny,y0,e,d]
theorem FW(g:GΩ)(r:List Int)(v:Int)(a:RoadOk g.hω r)(c:g.hω<=1000)(b:g.wω.length<aj):vX g r v=.ok () ⟨{g with wω:=g.wω.put r v},r,v⟩:=by
 have e:=F3 g r a c;unfold vX zk;simp[sV,yY,e,b]
theorem JJ(g:GΩ)(a b:Int)(j:0<=a/\a<g.hω)(i:0<=b/\b<g.hω)(c:a≠b)(f:g.U.get [a,b]=none)(h:g.U.length+1<aj):Hz g a b=.ok () ⟨{g with U:=(g.U.put [a,b] true).put [b,a] true},a,b⟩:=by
 have e:=Bq g a b j i c;have d:g.U.length<aj:=by omega
 have l2:(g.U.put [a,b] true).length<aj:=Nat.lt_of_le_of_lt gj h;unfold Hz Fm;simp[ze,zd,zc,zb,e,f,d,l2]
structure GuildIs (g:GΩ) (sz:Int) (U:L3) (Z Y:DI Int) (V:L3):Prop where
 count:g.hω=sz
 way:∀x y,(g.U.get [x,y]).isSome=true↔(x,y)∈U\/(y,x)∈U
 lik:∀k,g.lω.get k=Z.get k
 wsh:∀k,g.wω.get k=Y.get k
 shn:∀x y,(g.sω.get [x,y]).isSome=true↔(x,y)∈V
def Few(g:GΩ):Prop:=g.U.length<=30000/\g.lω.length<=30000/\g.wω.length<=30000/\g.sω.length<=30000
structure DrawOk (sz:Int) (U:L3) (Z Y:DI Int) (V:L3):Prop where
 size:1<=sz/\sz<=60
 U:WaysOk sz U
 Z:Z.length<=100/\DI.nd Z/\∀p∈Z,PairOk sz p.1
 Y:Y.length<=100/\DI.nd Y/\∀p∈Y,RoadOk sz p.1
 V:V.length<=100/\V.Nodup/\∀p∈V,zv sz p
theorem yI{X:Type}(k:List Int):DI.get ([]:DI X) k=none:=rfl
theorem nj{X:Type}{F:DI X}(a:DI.nd F){k:List Int}(b:k∈F.map (·.1)):∃v,F.get k=some v/\(k,v)∈F:=by
 obtain⟨p,hp,rfl⟩:=Sn.mp b;exact⟨p.2,xg a hp,hp⟩
theorem mE{X:Type}{F:DI X}{k:List Int}(a:k∉F.map (·.1)):F.get k=none:=by
 cases q:F.get k with
 |none=>rfl
 |some v=>exact absurd (Sn.mpr ⟨(k,v),uR q,rfl⟩) a
structure Wf (sz:Int) (g:GΩ):Prop where
 count:g.hω=sz
 U:DI.nd g.U/\∀p∈g.U,PairOk sz p.1
 lik:DI.nd g.lω/\∀p∈g.lω,PairOk sz p.1
 shn:DI.nd g.sω/\∀p∈g.sω,PairOk sz p.1
 wsh:DI.nd g.wω/\∀p∈g.wω,RoadOk sz p.1
theorem Wf.lay{sz:Int}{g:GΩ}(h:Wf sz g){a b:Int}(d:0<=a/\a<sz)(c:0<=b/\b<sz):Wf sz {g with U:=(g.U.put [a,b] true).put [b,a] true}:=
 ⟨h.count,⟨hZ (hZ h.U.1),fG (P:=PairOk sz) (fG (P:=PairOk sz) h.U.2 ⟨a,b,rfl,d.1,d.2,c.1,c.2⟩) ⟨b,a,rfl,c.1,c.2,d.1,d.2⟩⟩,h.lik,h.shn,h.wsh⟩
theorem Wf.like{sz:Int}{g:GΩ}(h:Wf sz g){a b:Int}(v:Int)(d:0<=a/\a<sz)(c:0<=b/\b<sz):Wf sz {g with lω:=g.lω.put [a,b] v}:=
 ⟨h.count,h.U,⟨hZ h.lik.1,fG (P:=PairOk sz) h.lik.2 ⟨a,b,rfl,d.1,d.2,c.1,c.2⟩⟩,h.shn,h.wsh⟩
theorem Wf.shun{sz:Int}{g:GΩ}(h:Wf sz g){a b:Int}(d:0<=a/\a<sz)(c:0<=b/\b<sz):Wf sz {g with sω:=g.sω.put [a,b] true}:=
 ⟨h.count,h.U,h.lik,⟨hZ h.shn.1,fG (P:=PairOk sz) h.shn.2 ⟨a,b,rfl,d.1,d.2,c.1,c.2⟩⟩,h.wsh⟩
theorem Wf.wish{sz:Int}{g:GΩ}(h:Wf sz g){k:List Int}(v:Int)(a:RoadOk sz k):Wf sz {g with wω:=g.wω.put k v}:=
 ⟨h.count,h.U,h.lik,h.shn,⟨hZ h.wsh.1,fG (P:=RoadOk sz) h.wsh.2 a⟩⟩
theorem Wf.new{sz:Int}:Wf sz ⟨sz,[],[],[],[]⟩:=⟨rfl,⟨by unfold DI.nd;simp,by simp⟩,⟨by unfold DI.nd;simp,by simp⟩,⟨by unfold DI.nd;simp,by simp⟩,⟨by unfold DI.nd;simp,by simp⟩⟩
theorem Ct{F:DI Bool}{a b x y:Int}{p:L3}(h:(F.get [x,y]).isSome=true↔(x,y)∈p\/(y,x)∈p):((((F.put [a,b] true).put [b,a] true).get [x,y])).isSome=true↔(x,y)∈p++[(a,b)]\/(y,x)∈p++[(a,b)]:=by
 rw[nv,nv,RW,RW,RV,RV];by_cases e:[x,y]=[b,a]
 ·rw[RF e];injection e with e c;injection c with c;subst e c;simp
 · rw[RE e];by_cases c:[x,y]=[a,b]
   ·rw[RF c];injection c with c d;injection d with d;subst c d;simp
   · rw[RE c,h];constructor
     · rintro(z|z)
       ·exact .inl (.inl z)
       ·exact .inr (.inl z)
     · rintro((z|z) | (z|z))
       ·exact .inl z
       ·injection z with d f;subst d f;exact absurd rfl c
       ·exact .inr z
       ·injection z with d f;subst d f;exact absurd rfl e
theorem Cs{F:DI Bool}{a b x y:Int}{p:L3}(h:(F.get [x,y]).isSome=true↔(x,y)∈p):((F.put [a,b] true).get [x,y]).isSome=true↔(x,y)∈p++[(a,b)]:=by
 rw[nv,RW,RV];by_cases c:[x,y]=[a,b]
 ·rw[RF c];injection c with c d;injection d with d;subst c d;simp
 · rw[RE c,h];constructor
   ·exact .inl
   · rintro(z|z)
     ·exact z
     ·injection z with f e;subst f e;exact absurd rfl c
theorem uS{F G:DI Int}{p:List (List Int)}{k:List Int}{v:Int}(h:∀j,F.get j=if j∈p then G.get j else none)(e:G.get k=some v)(j:List Int):(F.put k v).get j=if j∈p++[k] then G.get j else none:=by
 rw[nv,h j];by_cases z:j=k
 ·subst z;rw[RF rfl,RF (by simp),e]
 · rw[RE z];by_cases b:j∈p
   ·rw[RF b,RF (RX _ b)]
   · rw[RE b,RE (λa=>by
      rcases RW.mp a with a|a
      ·exact b a
      ·exact z (RV.mp a))]
theorem zM{sz:Int}{U:L3}{Z Y:DI Int}{V:L3}(h:DrawOk sz U Z Y V):∃g,(zB sz U Z Y V).res=.ok g/\GuildIs g sz U Z Y V/\Few g/\Wf sz g:=by
 obtain⟨X,W⟩:=h.size
 have e1:pL ⟨sz,U,Z,Y,V,none,none,none,none,none⟩=.nx ⟨sz,U,Z,Y,V,some ⟨sz,[],[],[],[]⟩,none,none,none,none⟩:=by
  simp[pL,mk_Guild,X,W]
 obtain⟨s2,e2,g2,C,B,rfl,c2,l2,w2,n2,y2,len2⟩:=dH (u:=λa s=>{s with v0q:=some a.1,v2q:=some a.2}) (c:=kn) (λp (s:S_bd9)=>∃g N M,s=⟨sz,U,Z,Y,V,some g,N,M,none,none⟩/\Wf sz g/\g.lω=[]/\g.wω=[]/\g.sω=[]/\(∀x y,(g.U.get [x,y]).isSome=true↔(x,y)∈p\/(y,x)∈p)/\g.U.length<=2*p.length)
  U ⟨sz,U,Z,Y,V,some ⟨sz,[],[],[],[]⟩,none,none,none,none⟩ ⟨_,none,none,rfl,Wf.new,rfl,rfl,rfl,λx y=>by simp[yI],by simp⟩ (by
   rintro p ⟨a,b⟩ r s d ⟨g,N,M,rfl,f,hl,T,K,i,l⟩;have P:=f.count;have n:(a,b)∈U:=by rw[d];simp
   have A:=h.U.all _ n;have J:=h.U.nd;rw[d]at J;have S:=Sz.mp J;have hp1:(a,b)∉p:=λz=>S.2.2 _ z _ RG rfl
   have hp2:(b,a)∉p:=λz=>by
    have:(b,a)∈U:=by rw[d];exact RX _ z
    have:=h.U.all _ this
    simp only at A this;omega
   have m:p.length<=10000:=by
    have:=h.U.len
    rw[d,RK]at this;omega
   simp only at A
   have gn:g.U.get [a,b]=none:=by
    cases q:g.U.get [a,b] with
    |none=>rfl
    |some v=>
      rcases(i a b).mp (by rw[q];rfl) with z|z
      ·exact absurd z hp1
      ·exact absurd z hp2
   have sp:=JJ g a b (by omega) (by omega) (by omega) gn (by unfold aj;omega);refine⟨_,.inl (by simp[kn,sp]),{g with U:=(g.U.put [a,b] true).put [b,a] true},some a,some b,rfl,f.lay (by omega) (by omega),hl,T,K,λx y=>?_,?_⟩
   ·exact Ct (i x y)
   · show((g.U.put [a,b] true).put [b,a] true).length<=_
     have:=gj (F:=g.U.put [a,b] true) (k:=[b,a]) (v:=true)
     have:=gj (F:=g.U) (k:=[a,b]) (v:=true)
     rw[RK];simp;omega)
 have hwl:=h.U.len
 obtain⟨s3,e3,g3,O,rfl,c3,w3,n3,q3,y3,k3,G⟩:=dH (u:=λa s=>{s with vnq:=some a}) (c:=km) (λp (s:S_bd9)=>∃g p0,s=⟨sz,U,Z,Y,V,some g,C,B,p0,none⟩/\Wf sz g/\g.wω=[]/\g.sω=[]/\g.U.length<=30000/\(∀x y,(g.U.get [x,y]).isSome=true↔(x,y)∈U\/(y,x)∈U)/\(∀k,g.lω.get k=if k∈p then Z.get k else none)/\g.lω.length<=p.length)
  (Z.map (·.1)) ⟨sz,U,Z,Y,V,some g2,C,B,none,none⟩ ⟨g2,none,rfl,c2,w2,n2,by omega,y2,λk=>by rw[l2];rfl,by rw[l2];simp⟩ (by
    rintro p k r s d ⟨g,p0,rfl,f,T,K,I,i,L,l⟩;have P:=f.count;obtain⟨v,H,n⟩:=nj h.Z.2.1 (k:=k) (by rw[d];simp);obtain⟨a,b,rfl,ha1,ha2,hb1,hb2⟩:=h.Z.2.2 _ n
    have m:p.length<=100:=by
     have:=h.Z.1
     have e:(Z.map (·.1)).length=Z.length:=RH ..;rw[d,RK]at e;omega
    have sp:=F4 g a b v (by omega) (by omega) (by unfold aj;omega);refine⟨_,.inl (by simp[km,Rp,at1,H,sp]),{g with lω:=g.lω.put [a,b] v},some [a,b],rfl,f.like v (by omega) (by omega),T,K,I,i,λj=>?_,?_⟩
    ·exact uS L H j
    · show(g.lω.put [a,b] v).length<=_
      rw[RK];exact Su gj (by simp;omega))
 obtain⟨s4,e4,g4,p4,rfl,c4,n4,q4,y4,k4,E,f4,w⟩:=dH (u:=λa s=>{s with vgq:=some a}) (c:=kj) (λp (s:S_bd9)=>∃g k0,s=⟨sz,U,Z,Y,V,some g,C,B,O,k0⟩/\Wf sz g/\g.sω=[]/\g.U.length<=30000/\(∀x y,(g.U.get [x,y]).isSome=true↔(x,y)∈U\/(y,x)∈U)/\(∀k,g.wω.get k=if k∈p then Y.get k else none)/\g.wω.length<=p.length/\(∀k,g.lω.get k=Z.get k)/\g.lω.length<=30000)
  (Y.map (·.1)) ⟨sz,U,Z,Y,V,some g3,C,B,O,none⟩ ⟨g3,none,rfl,c3,n3,q3,y3,λk=>by rw[w3];rfl,by rw[w3];simp,λk=>by
    rw[k3 k];by_cases z:k∈Z.map (·.1)
    ·rw[RF z]
    ·rw[RE z,mE z],by have:=h.Z.1;rw[RH]at G;omega⟩ (by
    rintro p k r s d ⟨g,k0,rfl,f,K,I,i,L,l,hf,o⟩;have P:=f.count;obtain⟨v,H,n⟩:=nj h.Y.2.1 (k:=k) (by rw[d];simp);have hr:=h.Y.2.2 _ n
    have m:p.length<=100:=by
     have:=h.Y.1
     have e:(Y.map (·.1)).length=Y.length:=RH ..;rw[d,RK]at e;omega
    have sp:=FW g k v (by rw[P];exact hr) (by omega) (by unfold aj;omega);refine⟨_,.inl (by simp[kj,H,sp]),{g with wω:=g.wω.put k v},some k,rfl,f.wish v hr,K,I,i,λj=>?_,?_,hf,o⟩
    ·exact uS L H j
    · show(g.wω.put k v).length<=_
      rw[RK];exact Su gj (by simp;omega))
 obtain⟨s5,e5,g5,a5,b5,rfl,c5,q5,y5,k5,D,f5,t,R,Q⟩:=dH (u:=λa s=>{s with v0q:=some a.1,v2q:=some a.2}) (c:=kh) (λp (s:S_bd9)=>∃g N M,s=⟨sz,U,Z,Y,V,some g,N,M,O,p4⟩/\Wf sz g/\g.U.length<=30000/\(∀x y,(g.U.get [x,y]).isSome=true↔(x,y)∈U\/(y,x)∈U)/\(∀k,g.wω.get k=Y.get k)/\g.wω.length<=30000/\(∀k,g.lω.get k=Z.get k)/\g.lω.length<=30000/\(∀x y,(g.sω.get [x,y]).isSome=true↔(x,y)∈p)/\g.sω.length<=p.length)
  V ⟨sz,U,Z,Y,V,some g4,C,B,O,p4⟩ ⟨g4,C,B,rfl,c4,q4,y4,λk=>by
   rw[k4 k];by_cases z:k∈Y.map (·.1)
   ·rw[RF z]
   ·rw[RE z,mE z],by have:=h.Y.1;rw[RH]at E;omega,f4,w,λx y=>by rw[n4];simp[yI],by rw[n4];simp⟩ (by
   rintro p ⟨a,b⟩ r s d ⟨g,N,M,rfl,f,I,i,L,hkl,hf,o,hs,hsl⟩;have P:=f.count;have n:(a,b)∈V:=by rw[d];simp
   have A:=h.V.2.2 _ n;unfold zv at A;simp only at A
   have m:p.length<=100:=by
    have:=h.V.1
    rw[d,RK]at this;omega
   have sp:=FZ g a b (by omega) (by omega) A.2.2.2.2 (by unfold aj;omega);refine⟨_,.inl (by simp[kh,sp]),{g with sω:=g.sω.put [a,b] true},some a,some b,rfl,f.shun (by omega) (by omega),I,i,L,hkl,hf,o,λx y=>?_,?_⟩
   ·exact Cs (hs x y)
   · show(g.sω.put [a,b] true).length<=_
     rw[RK];exact Su gj (by simp;omega))
 refine⟨g5,?_,⟨c5.count,y5,f5,k5,R⟩,⟨q5,t,D,by have:=h.V.1;omega⟩,c5⟩;unfold zB xy;simp only[aI,e1];simp[vE,vD,vB,vA,vz,e2,e3,e4,e5]
structure PathOk (sz:Int) (r:List Int):Prop where
 ne:r≠[]
 last:r.getLast?=some 0
 nd:r.Nodup
 all:∀x∈r,0<=x/\x<sz
def cH(sz:Int)(P:DI Bool)(a:Int):List Int:=(cM 0 sz).filter λb=>(P.get [a,b]).isSome
theorem qu(g:GΩ)(P:DI Bool)(a:Int)(h0:0<=g.hω)(c:g.hω<=1000):(FE g P a).res=.ok (cH g.hω P a):=by
 have e:∀s:S_c9,s=⟨g,P,a⟩->gW (b8 (iO 0) (b8 (λg=>.ok g.hω) (pC (·.vyq)))) (bc (EU false) (b8 fT (mT (pC λp=>p.2.v0q) (pC λp=>p.1))) (pC λp=>p.2.voq)) (pC λp=>p.1) s=.ok (cH g.hω P a):=by
  rintro s rfl;rw[tG (l:=cM 0 g.hω) (λb=>(P.get [a,b]).isSome) (λx=>x) (by simp[eI (lo:=0) (hi:=g.hω) (by omega) (by omega) (by omega) (by omega)]) (by rw[b9];unfold aj;omega) (λb _=>by simp) (λb _ _=>by simp)];simp[cH]
 unfold FE Fn zf;simp only[dq,bj];rw[e _ rfl];rfl
theorem gB(g:GΩ)(a:Int)(b:0<=a/\a<g.hω)(c:g.hω<=1000):(qo g a).res=.ok (cH g.hω g.U a):=by
 have e:=gA g [a] (in1 b) (by omega);have d:=qu g g.U a (by omega) c;unfold qo zn;simp[tD,y8,e,d,aj]
def i9(T:List (Option (List Int)))(h:Int):Option (List Int):=T.getD h.toNat none
theorem Ro{T:List (Option (List Int))}{b:Int}(h0:0<=b)(a:b<T.length):iK T b=some (i9 T b):=by
 rw[tQ T h0,List.getElem?_eq_getElem (by omega)];unfold i9;rw[List.getD_eq_getElem?_getD,List.getElem?_eq_getElem (by omega)];rfl
theorem AB{T:List (Option (List Int))}{b:Int}{r:List Int}(h:i9 T b=some r):some r∈T:=by
 unfold i9 at h;rw[List.getD_eq_getElem?_getD]at h;cases q:T[b.toNat]? with
 |none=>rw[q]at h;cases h
 |some o=>rw[q]at h;have h:o=some r:=h;subst h;exact Tz q
structure TableOk (sz:Int) (T:List (Option (List Int))):Prop where
 len:(T.length:Int)=sz
 all:∀r,some r∈T->PathOk sz r
theorem wF{sz:Int}{P:DI Bool}{a b:Int}(h:b∈cH sz P a):0<=b/\b<sz:=eZ.mp (Tq.mp h).1
theorem Oo{sz:Int}(h:0<sz):PathOk sz [0]:=⟨by simp,rfl,by simp,λx a=>by rw[RV.mp a];omega⟩
theorem sm{W X:Type}{f:W->X}:∀{l:List W},(l.map f).Nodup->∀a∈l,∀b∈l,f a=f b->a=b
 |[],_,a,c,_,_,_=>by cases c
 | x::l,h,a,c,b,d,e=>by
   rw[RJ,RZ]at h;rcases RO.mp c with z|z<;>rcases RO.mp d with w|w
   ·rw[z,w]
   ·subst z;exact(h.1 (Sn.mpr ⟨b,w,e.symm⟩)).elim
   ·subst w;exact(h.1 (Sn.mpr ⟨a,z,e⟩)).elim
   ·exact sm h.2 a z b w e
theorem wC{S:List (List Int)}(i:(S.map cW).Nodup){ks:List (List Int)}(d:ks.Nodup)(h:∀k∈ks,k∈S):(ks.map cW).Nodup:=by
 unfold List.Nodup;rw[List.pairwise_map];refine List.Pairwise.imp_of_mem ?_ d;intro a b g f c e;exact c (sm i a (h a g) b (h b f) e)
def CJ(n:Int):List (List Int):=(cM 0 n).flatMap λx=>(cM 0 n).map λy=>[x,y]
theorem Ab{n:Int}{k:List Int}(h:PairOk n k):k∈CJ n:=by
 obtain⟨a,b,rfl,f,e,d,c⟩:=h;exact List.mem_flatMap.mpr ⟨a,eZ.mpr ⟨f,e⟩,Sn.mpr ⟨b,eZ.mpr ⟨d,c⟩,rfl⟩⟩
theorem PairOk.mono{m n:Int}(c:m<=n){k:List Int}(h:PairOk m k):PairOk n k:=by
 obtain⟨a,b,rfl,e,g,d,f⟩:=h;exact⟨a,b,rfl,e,by omega,d,by omega⟩
theorem z6{sz:Int}(l:sz<=60){ks:List (List Int)}(nd:ks.Nodup)(h:∀k∈ks,PairOk sz k):ks.length<=3600:=by
 have:=mj 3600 (ks.map λk=>k.getD 0 0*60+k.getD 1 0) (by
  unfold List.Nodup;rw[List.pairwise_map];refine List.Pairwise.imp_of_mem ?_ nd;intro p q hp i f e;obtain⟨a,b,rfl,r,o,n,m⟩:=h p hp;obtain⟨c,d,rfl,y,w,v,u⟩:=h q i;simp at e;have t:a=c:=by omega
  have s:b=d:=by omega
  rw[t,s]at f;exact f rfl) (λx g=>by
  obtain⟨k,j,rfl⟩:=Sn.mp g;obtain⟨a,b,rfl,r,o,n,m⟩:=h k j;simp
  omega)
 rwa [RH]at this
theorem u4{X:Type}{sz:Int}(a:sz<=60){F:DI X}(h:DI.nd F/\∀q∈F,PairOk sz q.1):F.length<=3600:=by
 have nd:(List.map Prod.fst F).Nodup:=h.1
 have:=z6 a nd λk c=>by obtain⟨q,b,rfl⟩:=Sn.mp c;exact h.2 q b
 rwa [RH]at this
theorem GC{X:Type}{F:DI X}{k:List Int}{v:X}{q:List Int×X}(h:q∈F.put k v):q∈F\/q=(k,v):=by
 unfold DI.put at h;split at h
 · obtain⟨p,hp,e⟩:=Sn.mp h;by_cases z:p.1=k
   ·rw[RF z]at e;rw[<-e,z];exact .inr rfl
   ·rw[RE z]at e;rw[<-e];exact .inl hp
 · rcases RW.mp h with z|z
   ·exact .inl z
   ·exact .inr (RV.mp z)
structure Hs (g:GΩ):Prop where
 U:((g.U.map (·.1)).map cW).Nodup
 lik:((g.lω.map (·.1)).map cW).Nodup
 shn:((g.sω.map (·.1)).map cW).Nodup
 wsh:((g.wω.map (·.1)).map cW).Nodup
theorem Jy{Z W:Type}{a:Z->Option (DI W)}{p:Z->DI W->Z}{c:Z->Res (DI W)}{s:Z}{F:DI W}(e:a s=some [])(d:c s=.ok F)(b:((F.map (·.1)).map cW).Nodup):rn a p c s=.ok () (p s F):=by
 unfold rn;rw[e];dsimp only;rw[d];show(if ((F.map (·.1)).map cW).Nodup then OutC.ok () (p s F) else .bad)=_;rw[if_pos b]
theorem mZ{Z W X:Type}{a:Z->Option (DI W)}{p:Z->DI W->Z}{c:Z->Res (DI W)}{s:Z}(F:DI W)(e:a s=some [])(d:c s=.ok F)(b:((F.map (·.1)).map cW).Nodup):(bb (rn a p c):Z->FlC Z X) s=.nx (p s F):=by
 unfold bb;rw[Jy e d b];rfl
theorem FY{g:GΩ}(c:1<=g.hω)(b:g.hω<=60)(a:Hs g):∃s,FC g=.ok g s:=by
 have i:tj ⟨g,none⟩=.nx ⟨g,some ⟨g.hω,[],[],[],[]⟩⟩:=by simp[tj,mk_Guild,c,b]
 have h:sZ ⟨g,some ⟨g.hω,[],[],[],[]⟩⟩=.nx ⟨g,some ⟨g.hω,g.U,[],[],[]⟩⟩:=by
  unfold sZ;exact mZ g.U rfl rfl a.U
 have f:sY ⟨g,some ⟨g.hω,g.U,[],[],[]⟩⟩=.nx ⟨g,some ⟨g.hω,g.U,g.lω,[],[]⟩⟩:=by
  unfold sY;exact mZ g.lω rfl rfl a.lik
 have e:sX ⟨g,some ⟨g.hω,g.U,g.lω,[],[]⟩⟩=.nx ⟨g,some ⟨g.hω,g.U,g.lω,g.sω,[]⟩⟩:=by
  unfold sX;exact mZ g.sω rfl rfl a.shn
 have d:sW ⟨g,some ⟨g.hω,g.U,g.lω,g.sω,[]⟩⟩=.nx ⟨g,some g⟩:=by
  unfold sW;exact mZ g.wω rfl rfl a.wsh
 unfold FC Fk;simp only[aI,i,h,f,e,d];exact⟨_,rfl⟩
abbrev Rz:=Int×Int×List Int
structure PW (sz:Int) (p:PostT):Prop where
 g:Wf sz p.guild
 roads:TableOk sz p.roads
 told:DI.nd p.told_last/\∀q∈p.told_last,PairOk sz q.1
 wrt:DI.nd p.written_last/\∀q∈p.written_last,PairOk sz q.1
 lts:DI.nd p.letters/\∀q∈p.letters,PairOk sz q.1
 ltv:∀q∈p.letters,∀r,q.2=some r->PathOk sz r
 sln:(p.standings.length:Int)=sz
 stn:∀F∈p.standings,DJ.nd F/\∀q∈F,(0<=q.1/\q.1<sz)/\PathOk sz q.2.2.2
def gZ(p:PostT)(w r:Int):PostT:=if (p.written_last.get [w,r]).bind id=i9 p.roads w then p else {p with written_last:=p.written_last.put [w,r] (i9 p.roads w),letters:=p.letters.put [w,r] (i9 p.roads w)}
theorem Bp{sz:Int}{p:PostT}(P:PW sz p)(a:sz<=60)(w r:Int)(d:0<=w/\w<sz):∃o,Hv p w r=.ok () ⟨gZ p w r,w,r,o⟩:=by
 have Rp:iK p.roads w=some (i9 p.roads w):=Ro d.1 (by have:=P.roads.len;omega);have e:sT ⟨p,w,r,none⟩=.nx ⟨p,w,r,some (i9 p.roads w)⟩:=by simp[sT,Rp]
 have f:=u4 a P.wrt;have l2:=u4 a P.lts;refine⟨some (i9 p.roads w),?_⟩;unfold Hv Ff gZ;simp only[aI,e];by_cases q:(p.written_last.get [w,r]).bind id=i9 p.roads w
 ·rw[RF q];simp[sS,mK,q]
 · rw[if_neg q];have c:p.written_last.length<aj:=by unfold aj;omega
   have b:p.letters.length<aj:=by unfold aj;omega
   simp[sS,yT,yS,q,c,b]
theorem PW.write{sz:Int}{p:PostT}(P:PW sz p){w r:Int}(a:0<=w/\w<sz)(b:0<=r/\r<sz):PW sz (gZ p w r):=by
 unfold gZ;split
 ·exact P
 · have k:PairOk sz [w,r]:=⟨w,r,rfl,a.1,a.2,b.1,b.2⟩;refine⟨P.g,P.roads,P.told,⟨hZ P.wrt.1,fG (P:=PairOk sz) P.wrt.2 k⟩,⟨hZ P.lts.1,fG (P:=PairOk sz) P.lts.2 k⟩,λq c r e=>?_,P.sln,P.stn⟩;rcases GC c with z|z
   ·exact P.ltv q z r e
   ·subst z;exact P.roads.all r (AB e)
theorem tY(p:PostT)(w r:Int):(gZ p w r).guild=p.guild:=by unfold gZ;split<;>rfl
def kx(p:PostT)(w:Int):PostT:=(cH p.guild.hω p.guild.U w).foldl (λp r=>gZ p w r) p
theorem uU{W X:Type}{f:X->W->X}(R:X->Prop):∀(l:List W) (b:X),R b->(∀b a,a∈l->R b->R (f b a))->R (l.foldl f b)
 |[],_,h,_=>h
 |a::l,b,h,st=>uU R l (f b a) (st b a RG h) λb c d=>st b c (on _ d)
theorem AV(p:PostT)(w:Int):(kx p w).guild=p.guild:=uU (λq=>q.guild=p.guild) _ p rfl λb a _ h=>(tY b w a).trans h
theorem t7{sz:Int}{p:PostT}(P:PW sz p)(d:sz<=60)(w:Int)(b:0<=w/\w<sz):∃o,FA p w=.ok () ⟨kx p w,w,o⟩:=by
 have nb:=gB p.guild w (by rw[P.g.count];exact b) (by rw[P.g.count];omega)
 obtain⟨s',e,o,rfl,_⟩:=lX (u:=λa s=>{s with vrq:=some a}) (c:=l4) (λ(q:PostT) (s:S_w9)=>∃o,s=⟨q,w,o⟩/\PW sz q) (λq r=>gZ q w r) (cH p.guild.hω p.guild.U w) p ⟨p,w,none⟩ ⟨none,rfl,P⟩ (by
  rintro q r s f ⟨o,rfl,Q⟩;obtain⟨i,h⟩:=Bp Q d w r b
  exact⟨⟨gZ q w r,w,some r⟩,.inl (by simp[l4,h]),some r,rfl,Q.write b (by rw[P.g.count]at f;exact wF f)⟩)
 refine⟨o,?_⟩;unfold FA Fe yR kx;simp[nb,e]
theorem PW.new{g:GΩ}{sz:Int}(h:Wf sz g)(c:1<=sz):PW sz (eC g sz.toNat):=by
 refine⟨h,⟨?_,λr b=>?_⟩,⟨by unfold DI.nd;exact List.Pairwise.nil,λq a=>(nomatch a)⟩,⟨by unfold DI.nd;exact List.Pairwise.nil,λq a=>(nomatch a)⟩,⟨by unfold DI.nd;exact List.Pairwise.nil,λq a=>(nomatch a)⟩,λq a=>(nomatch a),?_,λF hF=>?_⟩
 ·show(((List.replicate sz.toNat none).set 0 (some [0])).length:Int)=sz;rw[SH,Tu];omega
 · rcases List.mem_or_eq_of_mem_set b with z|z
   ·have:=(List.mem_replicate.mp z).2;cases this
   ·cases z;exact Oo (by omega)
 ·show((List.replicate sz.toNat ([]:DJ Rz)).length:Int)=sz;rw[Tu];omega
 · have:=(List.mem_replicate.mp hF).2
   subst this;exact⟨by unfold DJ.nd;exact List.Pairwise.nil,λq a=>(nomatch a)⟩
def Db(g:GΩ):PostT:=kx (eC g g.hω.toNat) 0
theorem F2{g:GΩ}{sz:Int}(h:Wf sz g)(d:Hs g)(f:1<=sz)(a:sz<=60):mk_Post g=.ok (Db g):=by
 have e:=h.count;obtain⟨s,c⟩:=FY (by omega) (by omega) d;have P:=PW.new h f;obtain⟨o,b⟩:=t7 P a 0 (by omega);unfold mk_Post Db;rw[c];dsimp only;rw[if_pos (by omega),e,b]
theorem z9(g:GΩ):(Db g).guild=g:=by unfold Db;exact AV _ _
theorem nX{Z X:Type}{a b:Z->FlC Z X}{s s':Z}(h:a s=.nx s'):aI a b s=b s':=by unfold aI;rw[h]
theorem v3(c:List Int)(n x:Int)(b:x∈c)(h:x<0\/n<=x):(rj c n).res=.exc 11:=by
 unfold rj tI
 first | unfold o8 | skip
 first | unfold k7 | skip
 cases c with
 |nil=>cases b
 |cons a l=>
   by_cases d:dL l a<0
   ·simp[d,eB]
   · have f:=(uK l a).mp (by omega)
     have j:0<=x:=by
      rcases RO.mp b with e|e
      ·rw[e];exact f.1
      ·exact f.2 x e
     obtain⟨_,k,i⟩:=ie l a
     have g:n<=gq l a:=by
      rcases RO.mp b with e|e
      ·omega
      ·have:=i x e;omega
     simp[d,g,eB]
theorem fE(g:GΩ)(a:List Int)(x:Int)(b:x∈a)(h:x<0\/g.hω<=x):(lM g a).res=.exc 11:=by
 have c:=v3 a g.hω x b h;unfold lM zm
 first | unfold tz | skip
 simp[c]
theorem FM(g:GΩ){x:Int}(h:x<0\/g.hω<=x){a b:Int}(q:x=a\/x=b):(tV g a b).res=.exc 11:=by
 have e:=fE g [a,b] x (by rcases q with q|q<;>simp[q]) h;unfold tV vP;simp[nz,e,aj]
theorem Dc(g:GΩ){x:Int}(h:x<0\/g.hω<=x):(qo g x).res=.exc 11:=by
 have e:=fE g [x] x (by simp) h;unfold qo zn;simp[tD,e,aj]
theorem JL(g:GΩ){x:Int}(h:x<0\/g.hω<=x):(tU g x).res=.exc 11:=by
 have e:=fE g [x] x (by simp) h;unfold tU zl;simp[tm,e,aj]
theorem yF(g:GΩ){x:Int}(h:x<0\/g.hω<=x){a b:Int}(q:x=a\/x=b):(FF g a b).res=.exc 11:=by
 have e:=fE g [a,b] x (by rcases q with q|q<;>simp[q]) h;unfold FF Fo;simp[zg,e,aj]
theorem D5(g:GΩ){x:Int}(h:x<0\/g.hω<=x){a b:Int}(q:x=a\/x=b):(qp g a b).res=.exc 11:=by
 have e:=fE g [a,b] x (by rcases q with q|q<;>simp[q]) h;unfold qp zo;simp[tE,e,aj]
theorem uJ(g:GΩ){x:Int}(h:x<0\/g.hω<=x){a b v:Int}(q:x=a\/x=b):vY g a b v=.exc 11 ⟨g,a,b,v⟩:=by
 have e:=fE g [a,b] x (by rcases q with q|q<;>simp[q]) h;unfold vY zp;simp[tF,e,aj]
theorem ub(g:GΩ){x:Int}(h:x<0\/g.hω<=x){a b:Int}(q:x=a\/x=b):qd g a b=.exc 11 ⟨g,a,b⟩:=by
 have e:=FM g h q;unfold qd vO;simp[ny,e]
theorem oq(g:GΩ){x:Int}(h:x<0\/g.hω<=x){r:List Int}(q:x∈r):(iD g r).res=.exc 11:=by
 have e:=fE g r x q h;unfold iD p5;simp[ju,e]
theorem zQ(g:GΩ){a:Int}(b:0<=a/\a<g.hω):qd g a a=.exc 11 ⟨g,a,a⟩:=by
 have e:=gA g [a,a] (QR b b) (by omega)
 have c:(tV g a a).res=.exc 11:=by
  unfold tV vP;simp[nz,tq,mL,e,aj,eB]
 unfold qd vO;simp[ny,c]
theorem tZ{g:GΩ}{r:List Int}{v:Int}{c:Nat}(e:(iD g r).res=.exc c):vX g r v=.exc c ⟨g,r,v⟩:=by
 unfold vX zk;simp[sV,e]
theorem ug{g:GΩ}{r:List Int}{c:Nat}(e:(iD g r).res=.exc c):(FD g r).res=.exc c:=by
 unfold FD Fl;simp[y7,e]
theorem BP(p:PostT){x:Int}(h:x<0\/p.guild.hω<=x):(Hw p x).res=.exc 11:=by
 have e:=fE p.guild [x] x (by simp) h;unfold Hw Fh;simp[yV,e,aj]
theorem t4(p:PostT){x:Int}(h:x<0\/p.guild.hω<=x){a b:Int}(q:x=a\/x=b):(FB p a b).res=.exc 11:=by
 have e:=fE p.guild [a,b] x (by rcases q with q|q<;>simp[q]) h;unfold FB Fg;simp[yU,e,aj]
theorem GA(p:PostT){x:Int}(h:x<0\/p.guild.hω<=x):(Hy p x).res=.exc 11:=by
 have e:=Dc p.guild h;unfold Hy Fi
 first | unfold yW | skip
 simp[e]
theorem jS(g:GΩ)(r:List Int)(a:∀x∈r,0<=x/\x<g.hω)(h0:0<g.hω)(h:r.length<2):(iD g r).res=.exc 14:=by
 have e:=gA g r a h0;have b:(r.length:Int)<2:=by omega
 unfold iD p5;simp[ju,k6,mP,e,b,eB]
theorem Aj(g:GΩ)(r:List Int)(x:Int)(b:∀x∈r,0<=x/\x<g.hω)(h0:0<g.hω)(h:2<=r.length)(c:r.getLast?=some x)(a:x≠0):(iD g r).res=.exc 14:=by
 have e:=gA g r b h0;have d:¬ (r.length:Int)<2:=by omega
 unfold iD p5;simp[ju,k6,nA,mO,e,d,Cl.lK,c,a,eB]
theorem jR(g:GΩ)(r:List Int)(a:∀x∈r,0<=x/\x<g.hω)(h0:0<g.hω)(h:2<=r.length)(c:r.length<4000)(b:r.getLast?=some 0)(hd:¬ (dd r).length=r.length):(iD g r).res=.exc 14:=by
 have e:=gA g r a h0;have f:¬ (r.length:Int)<2:=by omega
 have d:¬ ((dd r).length:Int)=r.length:=by omega
 unfold iD p5;simp[ju,k6,nA,tu,mM,e,f,d,c,Cl.lK,b,eB]
theorem E1:∀(ns acc:List Int),(ns.foldl PyProof.Rows.step_dedup acc).length<=acc.length+ns.length
 |[],acc=>by simp
 | x::ns,acc=>by
   rw[List.foldl_cons];have b:=E1 ns (PyProof.Rows.step_dedup acc x);have a:(PyProof.Rows.step_dedup acc x).length<=acc.length+1:=by unfold PyProof.Rows.step_dedup;split<;>simp
   rw[RL];omega
theorem Jl:∀(ns acc:List Int),¬ (acc++ns).Nodup->acc.Nodup->(ns.foldl PyProof.Rows.step_dedup acc).length<acc.length+ns.length
 |[],acc,h,c=>absurd (by simpa using c) h
 | x::ns,acc,h,c=>by
   rw[Ts,RL];by_cases q:x∈acc
   · have e:PyProof.Rows.step_dedup acc x=acc:=by unfold PyProof.Rows.step_dedup;simp[q]
     rw[e]
     have:=E1 ns acc
     omega
   · have e:PyProof.Rows.step_dedup acc x=acc++[x]:=by unfold PyProof.Rows.step_dedup;simp[q]
     rw[e]
     have:=Jl ns (acc++[x]) (by simpa using h) (by
      rw[Sz]
      exact⟨c,by simp,λa f b d e=>q (by rw[RV.mp d]at e;rw[<-e];exact f)⟩)
     rw[RK,Sv]at this;omega
theorem sJ{r:List Int}(h:¬ r.Nodup):¬ (dd r).length=r.length:=by
 have:=Jl r [] (by simpa using h) Sy
 unfold dd;simp at this ⊢;omega
theorem Ay(g:GΩ)(k gd x:Int)(h:x<0\/g.hω<=x)(d:0<=gd/\gd<g.hω)(r:0<=k/\k<=10):rl g k gd x=.exc 11 ⟨g,k,gd,x⟩:=by
 have q:=Dc g h;have p:=yF g h (a:=x) (b:=gd) (.inl rfl);have o:=yF g h (a:=gd) (b:=x) (.inr rfl);have n:=uJ g h (a:=x) (b:=gd) (v:=1) (.inl rfl);have m:=uJ g h (a:=gd) (b:=x) (v:=1) (.inr rfl);have l:=D5 g h (a:=x) (b:=gd) (.inl rfl);have j:=D5 g h (a:=gd) (b:=x) (.inr rfl);have i:=ub g h (a:=x) (b:=gd) (.inl rfl);have f:=ub g h (a:=gd) (b:=x) (.inr rfl);have e:=zQ g d;have c:=JL g h;unfold rl tK
 have:k=0\/k=1\/k=2\/k=3\/k=4\/k=5\/k=6\/k=7\/k=8\/k=9\/k=10:=by omega
 rcases this with rfl|rfl|rfl|rfl|rfl|rfl|rfl|rfl|rfl|rfl|rfl
 ·simp[cB,lF,q]
 ·simp[cB,cJ,lE,p]
 ·simp[cB,cJ,cZ,lD,o]
 ·simp[cB,cJ,cZ,dI,lC,n]
 ·simp[cB,cJ,cZ,dI,d5,lB,m]
 ·simp[cB,cJ,cZ,dI,d5,fe,lA,l]
 ·simp[cB,cJ,cZ,dI,d5,fe,f8,ly,j]
 ·simp[cB,cJ,cZ,dI,d5,fe,f8,gU,lx,i]
 ·simp[cB,cJ,cZ,dI,d5,fe,f8,gU,jf,lw,f]
 ·simp[cB,cJ,cZ,dI,d5,fe,f8,gU,jf,jv,jI,e]
 ·simp[cB,cJ,cZ,dI,d5,fe,f8,gU,jf,jv,l5,jH,c]
theorem EH(g:GΩ)(k gd x:Int)(m:10<k):rl g k gd x=.ok () ⟨g,k,gd,x⟩:=by
 have h0:¬ k=0:=by omega
 have l:¬ k=1:=by omega
 have j:¬ k=2:=by omega
 have i:¬ k=3:=by omega
 have h:¬ k=4:=by omega
 have f:¬ k=5:=by omega
 have e:¬ k=6:=by omega
 have d:¬ k=7:=by omega
 have c:¬ k=8:=by omega
 have b:¬ k=9:=by omega
 have a:¬ k=10:=by omega
 unfold rl tK;simp[cB,cJ,cZ,dI,d5,fe,f8,gU,jf,jv,l5,h0,l,j,i,h,f,e,d,c,b,a]
theorem we(g:GΩ)(p:PostT)(k gd x:Int)(hp:p.guild=g)(h:x<0\/g.hω<=x)(l:11<=k/\k<=16):zx g p k gd x=.exc 11 ⟨g,p,k,gd,x⟩:=by
 have j:=tZ (v:=1) (oq g h (r:=[x,0]) (by simp));have i:=ug (oq g h (r:=[gd,x,0]) (by simp));rw[<-hp]at h;have f:=BP p h;have e:=t4 p h (a:=x) (b:=gd) (.inl rfl);have d:=t4 p h (a:=gd) (b:=x) (.inr rfl);have c:=GA p h;unfold zx xt
 have:k=11\/k=12\/k=13\/k=14\/k=15\/k=16:=by omega
 rcases this with rfl|rfl|rfl|rfl|rfl|rfl
 ·simp[f7,lj,j,aj]
 ·simp[f7,gT,lh,i,aj]
 ·simp[f7,gT,je,lg,f]
 ·simp[f7,gT,je,lc,lb,e]
 ·simp[f7,gT,je,lc,pp,la,d]
 ·simp[f7,gT,je,lc,pp,vp,k9,c]
theorem uE{g:GΩ}{p:PostT}{k gd x:Int}{r:List Int}{m:List Bool}(h:lv ⟨g,p,k,gd,x,r,some [],none⟩=.nx ⟨g,p,k,gd,x,r,some m,none⟩):rk g p k gd x r=.ok m ⟨g,p,k,gd,x,r,none,none⟩:=by
 unfold rk xx;simp[vw,h,vv,aj]
theorem n9{g:GΩ}{p:PostT}{k gd x:Int}{r:List Int}{c:Nat}{m:List Bool}(b:k=17\/k=18)(a:(c=11/\m=[true,false,true])\/(c=14/\m=[false,true,true]))(e:(iD g r).res=.exc c):rk g p k gd x r=.ok m ⟨g,p,k,gd,x,r,none,none⟩:=by
 refine uE ?_;have f:=tZ (v:=1) e;have d:=ug e;unfold lv A6;rcases b with rfl|rfl
 ·simp[f];rcases a with ⟨rfl,rfl⟩|⟨rfl,rfl⟩<;>rfl
 ·simp[d];rcases a with ⟨rfl,rfl⟩|⟨rfl,rfl⟩<;>rfl
theorem wS{g:GΩ}{p:PostT}{k gd x:Int}{r:List Int}(hp:p.guild=g)(h:x<0\/g.hω<=x)(b:0<=gd/\gd<g.hω)(a:0<=k/\k<=16):rk g p k gd x r=.ok [true,false,true] ⟨g,p,k,gd,x,r,none,none⟩:=by
 refine uE ?_;have k1:¬ k=17:=by omega
 have k2:¬ k=18:=by omega
 unfold lv A6;by_cases z:k<=10
 ·have e:=Ay g k gd x h b ⟨a.1,z⟩;simp[k1,k2,e];rfl
 ·have e:=EH g k gd x (by omega);have c:=we g p k gd x hp h ⟨by omega,a.2⟩;simp[k1,k2,e,c];rfl
theorem Kt(g:GΩ)(c gd x sz:Int)(F:g.hω=sz)(G:2<=sz)(u:sz<=60)(E:1<=gd/\gd<sz)(D:x<0\/sz<=x):∃r,(zz c gd x sz).res=.ok r/\((x∈r/\(iD g r).res=.exc 11)\/(x∉r/\(iD g r).res=.exc 14)):=by
 obtain⟨f,w⟩:∃f,f=1+gd%(sz-1):=⟨_,rfl⟩
 have H:1<=f/\f<sz:=by
  have J:=Sf gd (show sz-1≠0 by omega);have I:=Sg gd (show 0<sz-1 by omega);omega
 have B:0<sz-1:=by omega
 have A:pz ⟨c,gd,x,sz,none,none,none⟩=.nx ⟨c,gd,x,sz,some f,none,none⟩:=by
  have d:1<sz:=by omega
  simp[pz,w,d]
 have h0:0<g.hω:=by omega
 obtain⟨r,z,o,v,C⟩:∃r,pw ⟨c,gd,x,sz,some f,none,none⟩=.nx ⟨c,gd,x,sz,some f,some r,none⟩/\x∉r/\(iD g r).res=.exc 14/\r.length<=4:=by
  have e:c%7=0\/c%7=1\/c%7=2\/c%7=3\/c%7=4\/c%7=5\/c%7=6:=by omega
  have b:∀{l:List Int},(∀y∈l,y=0\/y=gd\/y=f)->x∉l/\∀y∈l,0<=y/\y<g.hω:=λ{l} h=>⟨λe=>by have:=h x e;omega,λy t=>by have:=h y t;omega⟩;unfold pw;rcases e with q|q|q|q|q|q|q
  ·have a:=b (l:=[]) (by simp);exact⟨[],by simp[q,aj,iK,kU],a.1,jS g _ a.2 h0 (by simp),by simp⟩
  ·have a:=b (l:=[0]) (by simp);exact⟨[0],by simp[q,aj,iK,kU],a.1,jS g _ a.2 h0 (by simp),by simp⟩
  ·have a:=b (l:=[gd]) (by simp);exact⟨[gd],by simp[q,aj,iK,kU],a.1,jS g _ a.2 h0 (by simp),by simp⟩
  ·have a:=b (l:=[gd,f]) (by simp);exact⟨[gd,f],by simp[q,aj,iK,kU],a.1,Aj g _ f a.2 h0 (by simp) (by simp) (by omega),by simp⟩
  ·have a:=b (l:=[gd,0,0]) (by simp);exact⟨[gd,0,0],by simp[q,aj,iK,kU],a.1,jR g _ a.2 h0 (by simp) (by simp) (by simp) (sJ (by simp)),by simp⟩
  ·have a:=b (l:=[gd,f,gd,0]) (by simp);exact⟨[gd,f,gd,0],by simp[q,aj,iK,kU],a.1,jR g _ a.2 h0 (by simp) (by simp) (by simp) (sJ (by simp)),by simp⟩
  ·have a:=b (l:=[0,gd,0]) (by simp);exact⟨[0,gd,0],by simp[q,aj,iK,kU],a.1,jR g _ a.2 h0 (by simp) (by simp) (by simp) (sJ (by simp)),by simp⟩
 unfold zz xu;simp only[aI,A,z];by_cases q:c / 7%2=1
 · obtain⟨n,i⟩:∃n,n=c / 14%((r.length:Int)+1):=⟨_,rfl⟩;have p:0<=n:=by rw[i];exact Sf _ (by omega)
   have j:(0:Int)<(r.length:Int)+1:=by omega
   refine⟨r.take n.toNat++x::r.drop n.toNat,?_,.inl ⟨by simp,oq g (x:=x) (by omega) (by simp)⟩⟩;have m:ir ⟨c,gd,x,sz,some f,some r,none⟩=.nx ⟨c,gd,x,sz,some f,some r,some n⟩:=by simp[ir,j,i]
   have s:(r.take n.toNat).length+[x].length<=aj:=by have:=List.length_take_le n.toNat r;unfold aj;simp;omega
   have l2:(r.take n.toNat++[x]).length+(r.drop n.toNat).length<=aj:=by unfold aj;simp;omega
   have s2:iq ⟨c,gd,x,sz,some f,some r,some n⟩=.nx ⟨c,gd,x,sz,some f,some (r.take n.toNat++x::r.drop n.toNat),some n⟩:=by
    unfold iq;simp only[bU,bj,bc,vC,Bb,EQ,tM,jx,aR,dy,pC,p,if_true,Res.bind,MZ,bndO];rw[if_pos (by unfold aj;simp)];simp only[Res.bind];rw[if_pos s];simp only[Res.bind];rw[if_pos l2,List.append_assoc];rfl
   have k:lq ⟨c,gd,x,sz,some f,some r,none⟩=.nx ⟨c,gd,x,sz,some f,some (r.take n.toNat++x::r.drop n.toNat),some n⟩:=by
    unfold lq;simp[q,m,s2]
   rw[k];simp[pq]
 ·refine⟨r,?_,.inr ⟨o,v⟩⟩;simp[lq,pq,q]
theorem yB{X:Type}{F:DI X}(a:DI.nd F)(k:List Int):k∈F.map (·.1)↔(F.get k).isSome=true:=by
 constructor
 ·intro h;obtain⟨v,e,_⟩:=nj a h;rw[e];rfl
 ·intro h;obtain⟨v,e⟩:=Tb.mp h;exact Sn.mpr ⟨(k,v),uR e,rfl⟩
theorem Bw{F G:DI Int}(b:DI.nd F)(a:DI.nd G)(h:∀k,F.get k=G.get k):F.length=G.length:=by
 have c:∀k,k∈F.map (·.1)↔k∈G.map (·.1):=λk=>by rw[yB b,yB a,h]
 have hp:(F.map (·.1)).Perm (G.map (·.1)):=(List.perm_ext_iff_of_nodup b a).mpr c
 have:=hp.length_eq
 rwa [RH,RH]at this
theorem jN(g:GΩ)(a:Int)(b:0<=a/\a<g.hω)(c:g.hω<=1000):(tU g a).res=.ok (cH g.hω g.sω a):=by
 have e:=gA g [a] (in1 b) (by omega);have d:=qu g g.sω a (by omega) c;unfold tU zl;simp[tm,yZ,e,d,aj]
theorem ul{W:Type}{l:List W}{p:List Nat}{x:W}(h:x∈pick l p):x∈l:=by
 unfold pick at h;obtain⟨i,_,e⟩:=List.mem_filterMap.mp h;exact List.mem_of_getElem? e
theorem nE{sz:Int}{g:GΩ}(c:Wf sz g)(j:sz<=60)(h:g.wω.length<64):∃l,(xJ g).res=.ok l/\l.length<64/\∀p∈l,p.1.length<=60:=by
 have f:t8 (g.wω.map (·.1))=.ok (pick (g.wω.map (·.1)) (bZ (g.wω.map (·.1)))):=by
  unfold t8;rw[if_pos];refine⟨λk a=>?_,by rw[List.length_map];exact h⟩;obtain⟨p,hp,rfl⟩:=List.mem_map.mp a;intro z
  have:=(c.wsh.2 p hp).two
  rw[z]at this;simp at this
 have b:(pick (g.wω.map (·.1)) (bZ (g.wω.map (·.1)))).length<64:=by
  have:=UC (λi=>(g.wω.map (·.1))[i]?) (bZ (g.wω.map (·.1)))
  have e:=(iR (g.wω.map (·.1))).1;rw[List.length_map]at e;unfold pick;omega
 have d:∀k∈pick (g.wω.map (·.1)) (bZ (g.wω.map (·.1))),(∃v,g.wω.get k=some v)/\k.length<=60:=λk a=>by
  obtain⟨v,e,m⟩:=nj c.wsh.1 (ul a);refine⟨⟨v,e⟩,?_⟩
  have:=(c.wsh.2 _ m).len
  simp only at this;omega
 generalize pick (g.wω.map (·.1)) (bZ (g.wω.map (·.1)))=l at f b d
 have e:∀s:S_q9,s=⟨g⟩->gW (b8 v9 (b8 (λg=>.ok g.wω) (pC (·.vyq)))) (λ_=>.ok true) (mT (b8 yD (pC λp=>p.1)) (bc Nw (b8 (λg=>.ok g.wω) (pC λp=>p.2.vyq)) (pC λp=>p.1))) s=.ok (l.map λk=>(k,(g.wω.get k).getD 0)):=by
  rintro s rfl;refine pU (l:=l) _ ?_ (by unfold aj;omega) λk a=>?_
  ·exact f
  ·obtain⟨⟨v,n⟩,_⟩:=d k a;simp[n]
 refine⟨l.map λk=>(k,(g.wω.get k).getD 0),?_,by rw[RH];exact b,λp hp=>?_⟩
 ·unfold xJ Fj yX;simp only[dq,bj];rw[e _ rfl];rfl
 ·obtain⟨k,a,rfl⟩:=Sn.mp hp;exact(d k a).2
theorem Br{sz:Int}{g:GΩ}(j:Wf sz g)(D:1<=sz)(h:sz<=60)(w:g.wω.length<64):∃X,(v0 g sz).res=.ok X:=by
 have d:=j.count;obtain⟨l,y,t,_⟩:=nE j h w;have rg:=eI (lo:=0) (hi:=sz) (by omega) (by omega) (by omega) (by omega)
 have B:∀s:S_bi9,s=⟨g,sz,none,none,none⟩->gW (rV xJ (pC (·.vcq))) (λ_=>.ok true) (mT (b8 yD (b8 Mc (pC λp=>p.1))) (b8 JK (pC λp=>p.1))) s=.ok (l.map λp=>(p.1,p.2)):=by
  rintro s rfl;exact pU (l:=l) _ (by simp[y]) (by unfold aj;omega) λp _=>by simp
 obtain⟨L,A⟩:∃L,pj ⟨g,sz,none,none,none⟩=.nx ⟨g,sz,some (L,[]),none,none⟩:=⟨l.map λp=>(p.1,p.2),by
  unfold pj;simp only[bU,bj,mT];rw[B _ rfl]
  rfl⟩
 have C:(cM 0 sz).length<=60:=by rw[b9];omega
 obtain⟨s2,z,e,ys,k0,rfl,_⟩:=dH (u:=λa s=>{s with v0q:=some a}) (c:=pX) (λpre (s:S_bi9)=>∃e ys k0,s=⟨g,sz,some (L,ys),e,k0⟩/\ys.length=pre.length) (cM 0 sz) ⟨g,sz,some (L,[]),none,none⟩ ⟨none,[],none,rfl,rfl⟩ (by
  rintro pre a r s k ⟨e,ys,k0,rfl,v⟩;have f:0<=a/\a<sz:=eZ.mp (by rw[k];simp)
  have hp:pre.length<61:=by
   have:=congrArg List.length k
   rw[RK]at this;omega
  have o:=jN g a (by rw[d];exact f) (by omega);have n:=gB g a (by rw[d];exact f) (by omega);have c:=pU (Z:=S_bi9) (src:=b8 (iO 0) (pC (·.vAq))) (te:=jw qp (pC λp=>p.2.vcq) (vC λp=>p.2.v0q) (pC λp=>p.1)) (s:=⟨g,sz,some (L,ys),some a,k0⟩) (l:=cM 0 sz) (λb=>(g.lω.get [a,b]).getD 0) (by simp[rg]) (by unfold aj;omega) (λb x=>by simp[zL g a b (by rw[d];exact f) (by rw[d];exact eZ.mp x)])
  have q:kg ⟨g,sz,some (L,ys),some a,k0⟩=.nx ⟨g,sz,some (L,ys),some a,some ((cM 0 sz).map λb=>(g.lω.get [a,b]).getD 0)⟩:=by
   unfold kg;simp only[bU,bj];rw[c];rfl
  have lt:ys.length+1<aj:=by unfold aj;omega
  refine⟨⟨g,sz,some (L,ys++[[cH g.hω g.sω a,cH g.hω g.U a,(cM 0 sz).map λb=>(g.lω.get [a,b]).getD 0]]),some a,some ((cM 0 sz).map λb=>(g.lω.get [a,b]).getD 0)⟩,.inl ?_,some a,_,_,rfl,by rw[List.length_append,List.length_append,v];rfl⟩;unfold pX;rw[nX q];have m:3<=aj:=by unfold aj;omega
  simp[ph,o,n,lt,m])
 have i:pi ⟨g,sz,some (L,[]),none,none⟩=.nx ⟨g,sz,some (L,ys),e,k0⟩:=by
  unfold pi;simp[rg,z]
 unfold v0 xr;rw[nX A,nX i];exact⟨(L,ys),by simp[vn]⟩
noncomputable def hF{X:Type}(v:Nat)(f:Nat->X):X:=@Nat.rec (λ_=>X) (f 0) (λn _=>f (Nat.succ n)) v
theorem EC{X:Type}(v:Nat)(f:Nat->X):hF v f=f v:=by cases v<;>rfl
noncomputable def AU(acc x:Nat):Nat:=hF (Nat.mod (Nat.add acc (Nat.mul x 14029467366897019727)) 18446744073709551616) λa=>Nat.mod (Nat.mul (Nat.add (Nat.mod (Nat.mul a 2147483648) 18446744073709551616) (Nat.div a 8589934592)) 11400714785074694791) 18446744073709551616
noncomputable def mX(n acc:Nat):Nat:=Nat.mod (Nat.add (AU acc 0) (Nat.xor n 2870177450013471926)) 18446744073709551616
noncomputable def Nu(x:Nat)(l:List Nat):List Nat:=@List.rec Nat (λ_=>List Nat) [] (λy t a=>@Bool.rec (λ_=>List Nat) (y::a) t (Nat.beq x y)) l
noncomputable def mW(a b:List Nat):List Nat:=
 @List.rec Nat (λ_=>List Nat->List Nat) (λb=>b) (λx t d b=>@List.rec Nat (λ_=>List Nat) (x::t) (λy u c=>@Bool.rec (λ_=>List Nat) (y::c) (x::d (y::u)) (Nat.ble x y)) b) a b
noncomputable def qS(r v:Nat):List Nat:=hF v λv=>@Bool.rec (λ_=>List Nat) [] [v] (Nat.beq (Nat.mod v 4) r)
noncomputable def sx(r n:Nat):List Nat->Nat->Nat->List Nat:=
 @Nat.rec (λ_=>List Nat->Nat->Nat->List Nat) (λ_ acc len=>qS r (mX len acc))
  (λ_ c b acc len=>mW (qS r (mX len acc)) (@List.rec Nat (λ_=>List Nat) [] (λx _ o=>mW (hF (AU acc x) λa=>c (Nu x b) a (Nat.succ len)) o) b)) n
noncomputable def xc(l:List Nat):Nat->Bool:=@List.rec Nat (λ_=>Nat->Bool) (λ_=>true) (λx _ a p=>@Bool.rec (λ_=>Bool) false (@Bool.rec (λ_=>Bool) false (a x) (Nat.blt x 18446744073709551615)) (Nat.blt p x)) l
theorem hc0:xc (sx 0 8 [1,2,3,4,5,6,7,8] 2870177450012600261 1) 0=true:=by decide +kernel
theorem hc1:xc (sx 1 8 [1,2,3,4,5,6,7,8] 2870177450012600261 1) 0=true:=by decide +kernel
theorem Rg:xc (sx 2 8 [1,2,3,4,5,6,7,8] 2870177450012600261 1) 0=true:=by decide +kernel
theorem hc3:xc (sx 3 8 [1,2,3,4,5,6,7,8] 2870177450012600261 1) 0=true:=by decide +kernel
theorem Ax(x y:Nat)(t u:List Nat):mW (x::t) (y::u)=if Nat.ble x y=true then x::mW t (y::u) else y::mW (x::t) u:=by
 show @Bool.rec (λ_=>List Nat) (y::mW (x::t) u) (x::mW t (y::u)) (Nat.ble x y)=_;cases Nat.ble x y<;>rfl
theorem jp:∀a b:List Nat,(mW a b).Perm (a++b)
 |[],b=>Ur _
 |x::t,[]=>by show(x::t).Perm _;rw[Sk]
 | x::t,y::u=>by
   rw[Ax];split
   ·exact(jp t (y::u)).cons x
   ·exact((jp (x::t) u).cons y).trans (List.perm_middle (l₁:=x::t)).symm
theorem ED(x:Nat):∀l:List Nat,Nu x l=l.erase x
 |[]=>rfl
 | y::t=>by
   show @Bool.rec (λ_=>List Nat) (y::Nu x t) t (Nat.beq x y)=_;rw[ED x t,List.erase_cons];by_cases h:x=y
   ·subst h;rw[Nat.beq_refl];simp
   · have:Nat.beq x y=false:=Bool.eq_false_iff.mpr λz=>h (Nat.eq_of_beq_eq_true z)
     rw[this];have h':¬ (y==x)=true:=λz=>h (Tj.mp z).symm;rw[RE h']
def mF:Nat->List Nat->List (List Nat)
 |0,_=>[[]]
 |n+1,l=>[]::l.flatMap λx=>(mF n (l.erase x)).map (x::·)
theorem qX:∀(n:Nat) (b l:List Nat),l.Nodup->(∀x∈l,x∈b)->l.length<=n->l∈mF n b
 |0,b,l,_,_,h=>by rw[SG.mp (Nat.le_zero.mp h)];exact RG
 |n+1,b,[],_,_,_=>RG
 | n+1,b,x::t,nd,d,h=>by
   have a:=RZ.mp nd;refine on _ (List.mem_flatMap.mpr ⟨x,d x RG,Sn.mpr ⟨t,qX n _ t a.2 (λy c=>?_) (by simpa using h),rfl⟩⟩);exact(List.mem_erase_of_ne λe=>a.1 (by rw[<-e];exact c)).mpr (d y (on _ c))
noncomputable def ge(acc len:Nat)(l:List Nat):Nat:=mX (len+l.length) (l.foldl AU acc)
theorem uQ(r v:Nat):qS r v=[v].filter λv=>Nat.beq (Nat.mod v 4) r:=by
 unfold qS;rw[EC,List.filter_cons,List.filter_nil];cases Nat.beq (Nat.mod v 4) r<;>rfl
theorem qT(r:Nat):∀(n:Nat) (b:List Nat) (acc len:Nat),(sx r n b acc len).Perm (((mF n b).map (ge acc len)).filter λv=>Nat.beq (Nat.mod v 4) r)
 | 0,b,acc,len=>by
   show(qS r (mX len acc)).Perm _;rw[uQ];exact Ur _
 | n+1,b,acc,len=>by
   show(mW (qS r (mX len acc)) (@List.rec Nat (λ_=>List Nat) [] (λx _ o=>mW (hF (AU acc x) λa=>sx r n (Nu x b) a (Nat.succ len)) o) b)).Perm _;rw[mF,RJ,TK];refine(jp _ _).trans ?_
   have c:∀d:List Nat,(@List.rec Nat (λ_=>List Nat) [] (λx _ o=>mW (hF (AU acc x) λa=>sx r n (Nu x b) a (Nat.succ len)) o) d).Perm (((d.flatMap λx=>(mF n (b.erase x)).map (x::·)).map (ge acc len)).filter λv=>Nat.beq (Nat.mod v 4) r):=by
    intro d
    induction d with
    |nil=>exact Ur _
    |cons x d f=>
      show(mW (hF (AU acc x) λa=>sx r n (Nu x b) a (Nat.succ len)) _).Perm _;rw[List.flatMap_cons,Sm,List.filter_append,Se];refine(jp _ _).trans (List.Perm.append ?_ f);rw[EC,ED]
      have e:ge acc len∘(λl=>x::l)=ge (AU acc x) (Nat.succ len):=funext λl=>by
       show mX (len+(l.length+1)) _=mX (len+1+l.length) _;rw[show len+(l.length+1)=len+1+l.length by omega];rfl
      rw[e];exact qT r n _ _ _
   rw[uQ,TK,List.filter_nil];show((if Nat.beq (Nat.mod (mX len acc) 4) r=true then [mX len acc] else [])++_).Perm (if Nat.beq (Nat.mod (mX len acc) 4) r=true then mX len acc::_ else _);split
   ·exact(c b).cons _
   ·exact c b
theorem yH:∀(l:List Nat) (p:Nat),xc l p=true->(∀x∈l,p<x/\x<18446744073709551615)/\l.Nodup
 |[],p,_=>⟨λ_ h=>(nomatch h),Sy⟩
 | x::t,p,h=>by
   have h:@Bool.rec (λ_=>Bool) false (@Bool.rec (λ_=>Bool) false (xc t x) (Nat.blt x 18446744073709551615)) (Nat.blt p x)=true:=h;cases b:Nat.blt p x with
   |false=>rw[b]at h;cases h
   |true=>
     rw[b]at h;cases a:Nat.blt x 18446744073709551615 with
     |false=>rw[a]at h;cases h
     |true=>
       rw[a]at h;obtain⟨c,d⟩:=yH t x h;have f:=UW b;have l2:=UW a;refine⟨λy g=>?_,RZ.mpr ⟨λi=>by have:=(c x i).1;omega,d⟩⟩;rcases RO.mp g with e|e
       ·rw[e];exact⟨f,l2⟩
       ·have:=c y e;omega
theorem Ma{l m:List Nat}(f:l∈mF 8 [1,2,3,4,5,6,7,8])(d:m∈mF 8 [1,2,3,4,5,6,7,8]):ge 2870177450012600261 1 l<18446744073709551615/\(ge 2870177450012600261 1 l=ge 2870177450012600261 1 m->l=m):=by
 have go:∀r,xc (sx r 8 [1,2,3,4,5,6,7,8] 2870177450012600261 1) 0=true->Nat.mod (ge 2870177450012600261 1 l) 4=r->ge 2870177450012600261 1 l<18446744073709551615/\(ge 2870177450012600261 1 l=ge 2870177450012600261 1 m->l=m):=λr c e=>by
  obtain⟨h,g⟩:=yH _ _ c;have pm:=qT r 8 [1,2,3,4,5,6,7,8] 2870177450012600261 1;rw[List.filter_map]at pm;have nd:=pm.nodup_iff.mp g
  have b:∀{x:List Nat},Nat.mod (ge 2870177450012600261 1 x) 4=r->((λv=>Nat.beq (Nat.mod v 4) r)∘ge 2870177450012600261 1) x=true:=λ{x} e=>by
   show Nat.beq (Nat.mod _ 4) r=true;rw[e];exact Nat.beq_refl r
  have a:=Tq.mpr ⟨f,b e⟩;refine⟨(h _ (pm.mem_iff.mpr (Sn.mpr ⟨l,a,rfl⟩))).2,λz=>sm nd l a m (Tq.mpr ⟨d,b (by rw[<-z];exact e)⟩) z⟩
 have lt:Nat.mod (ge 2870177450012600261 1 l) 4<4:=Nat.mod_lt _ (by decide)
 have:Nat.mod (ge 2870177450012600261 1 l) 4=0\/Nat.mod (ge 2870177450012600261 1 l) 4=1\/Nat.mod (ge 2870177450012600261 1 l) 4=2\/Nat.mod (ge 2870177450012600261 1 l) 4=3:=by
  generalize Nat.mod (ge 2870177450012600261 1 l) 4=n at lt;omega
 rcases this with e|e|e|e
 ·exact go 0 hc0 e
 ·exact go 1 hc1 e
 ·exact go 2 Rg e
 ·exact go 3 hc3 e
def Aw(a:Nat):Int:=if (a==2 ^ 64-1)=true then 1546275796 else if a<2 ^ 63 then (a:Int) else (a:Int)-(2 ^ 64:Nat)
theorem EB{a b:Nat}(c:a<18446744073709551615)(d:b<18446744073709551615)(h:reduceHash (Aw a)=reduceHash (Aw b)):a=b:=by
 have f:∀{a:Nat},a<18446744073709551615->reduceHash (Aw a)=if a<9223372036854775808 then (a:Int) else (a:Int)-18446744073709551616:=λ{a} c=>by
  have e:Aw a=if a<9223372036854775808 then (a:Int) else (a:Int)-18446744073709551616:=by
   unfold Aw;rw[if_neg (by rw[beq_iff_eq];omega)];rfl
  rw[e];unfold reduceHash;by_cases z:a<9223372036854775808
  ·rw[RF z,RF (by rw[S7,TV,TV];omega),RE (by rw[Tj];omega)]
  ·rw[RE z,RF (by rw[S7,TV,TV];omega),RE (by rw[Tj];omega)]
 rw[f c,f d]at h;split at h<;>split at h<;>omega
theorem Rh:∀n,n<60->hashInt (Int.ofNat n)=Int.ofNat n:=by decide +kernel
theorem Jd:∀(l:List Int) (acc:Nat),(∀x∈l,0<=x/\x<60)->(l.map hashInt).foldl (λ(acc:Nat) (h:Int)=>
 have acc:=(acc+(h%((2 ^ 64:Nat):Int)).toNat*14029467366897019727)%2 ^ 64;have acc:=acc*2 ^ 31%2 ^ 64+acc / 2 ^ 33
 acc*11400714785074694791%2 ^ 64) acc=(l.map Int.toNat).foldl AU acc
 |[],acc,_=>rfl
 | x::l,acc,h=>by
   have a:=h x RG;obtain⟨n,rfl⟩:=Int.eq_ofNat_of_zero_le a.1;have c:n<60:=by have:=a.2;omega
   rw[RJ,RJ,Ts,Ts];have f:hashInt (n:Int)=(n:Int):=Rh n c;have d:((n:Int)%((2 ^ 64:Nat):Int)).toNat=Int.toNat (n:Int):=by rw[Ux (by omega) (by omega)]
   have e:((acc+(hashInt (n:Int)%((2 ^ 64:Nat):Int)).toNat*14029467366897019727)%2 ^ 64*2 ^ 31%2 ^ 64+(acc+(hashInt (n:Int)%((2 ^ 64:Nat):Int)).toNat*14029467366897019727)%2 ^ 64 / 2 ^ 33)*11400714785074694791%2 ^ 64=AU acc (Int.toNat (n:Int)):=by
    rw[f,d];unfold AU;rw[EC];rfl
   refine Eq.trans ?_ (Jd l (AU acc (Int.toNat (n:Int))) λy b=>h y (on _ b));rw[<-e]
theorem Jc{r b:List Int}(e:r=b++[0])(h:∀x∈r,0<=x/\x<60):cW r=reduceHash (Aw (ge 2870177450012600261 1 (b.map Int.toNat))):=by
 unfold cW;congr 1;unfold Builtin.Tuple.tupleHashOf;have f:=Jd r 2870177450012600261 h;dsimp only at f ⊢;rw[f,List.length_map]
 have a:(((r.map Int.toNat).foldl AU 2870177450012600261+(r.length ^^^ (2870177450012600261 ^^^ 3527539)))%2 ^ 64)=ge 2870177450012600261 1 (b.map Int.toNat):=by
  subst e;unfold ge mX;rw[List.map_append,List.foldl_append,List.length_append,List.length_map,Nat.add_comm 1 b.length];rfl
 rw[a];rfl
theorem EA{sz:Int}(h:sz<=9){r:List Int}(c:RoadOk sz r):∃b,r=b++[0]/\b.map Int.toNat∈mF 8 [1,2,3,4,5,6,7,8]/\∀x∈b,0<=x:=by
 obtain⟨b,rfl⟩:∃b,r=b++[0]:=List.getLast?_eq_some_iff.mp c.last;have nd:=Sz.mp c.nd
 have d:∀x∈b,1<=x/\x<9:=λx a=>by
  have j:=c.all x (RX _ a);have i:x≠0:=nd.2.2 x a 0 (by simp);omega
 refine⟨b,rfl,qX 8 _ _ ?_ (λx a=>?_) ?_,λx a=>by have:=d x a;omega⟩
 · unfold List.Nodup;rw[List.pairwise_map];refine List.Pairwise.imp_of_mem ?_ nd.1;intro x y a f g e
   have:=d x a
   have:=d y f
   exact g (by omega)
 · obtain⟨y,f,rfl⟩:=Sn.mp a
   have:=d y f
   have:y.toNat=1\/y.toNat=2\/y.toNat=3\/y.toNat=4\/y.toNat=5\/y.toNat=6\/y.toNat=7\/y.toNat=8:=by omega
   simp only[RO,List.not_mem_nil,or_false];exact this
 · have:=c.len
   rw[RK,Sv]at this;rw[RH];omega
theorem GS:((CJ 9).map cW).Nodup:=by decide +kernel
theorem Hs.of{sz:Int}{g:GΩ}(h:Wf sz g)(n:sz<=9):Hs g:=by
 have f:∀{X:Type} {F:DI X},(DI.nd F/\∀p∈F,PairOk sz p.1)->((F.map (·.1)).map cW).Nodup:=λ{X F} hF=>wC GS hF.1 λk z=>by
  obtain⟨p,hp,rfl⟩:=Sn.mp z;exact Ab ((hF.2 p hp).mono n)
 refine⟨f h.U,f h.lik,f h.shn,?_⟩;unfold List.Nodup;rw[List.pairwise_map];refine List.Pairwise.imp_of_mem ?_ h.wsh.1;intro a b B A m e;obtain⟨p,hp,rfl⟩:=List.mem_map.mp B;obtain⟨q,w,rfl⟩:=List.mem_map.mp A;have r:=h.wsh.2 p hp;have o:=h.wsh.2 q w;obtain⟨D,t,j,v⟩:=EA n r;obtain⟨C,s,i,u⟩:=EA n o;rw[Jc t λx d=>by have:=r.all x d;omega,Jc s λx d=>by have:=o.all x d;omega]at e;have q:=(Ma j i).2 (EB (Ma j i).1 (Ma i j).1 e)
 have c:∀{l:List Int},(∀x∈l,0<=x)->(l.map Int.toNat).map Int.ofNat=l:=λ{l} y=>by
  rw[Se];refine(SK λx d=>?_).trans (List.map_id l);exact Int.toNat_of_nonneg (y x d)
 exact m (by rw[t,s,<-c v,<-c u,q])
theorem step{sz gd x:Int}{g:GΩ}{p:PostT}(s:Wf sz g)(hp:p.guild=g)(z:2<=sz)(l:sz<=60)(w:1<=gd/\gd<sz)(u:x<0\/sz<=x)(ns:List Int)(d f:Option (DI Int))(sh:Option L3)(a:Option (List (List Int×Int)×List (List (List Int))))(c:Int)(n:Option (List Int))(j:Option (List Bool))(h:Option Int)(b:Option (List Int×Int)):
 ∃t M,lH ⟨ns,some sz,d,f,sh,some g,some p,some gd,some (.inr x),a,some c,n,j,h,b⟩=.nx ⟨ns,some sz,d,f,sh,some g,some p,some gd,some (.inr x),a,some c,t,M,h,b⟩:=by
 have y:=s.count;obtain⟨r,A,v⟩:=Kt g (c / 19) gd x sz y z l w u;have C:j7 ⟨ns,some sz,d,f,sh,some g,some p,some gd,some (.inr x),a,some c,n,j,h,b⟩=.nx ⟨ns,some sz,d,f,sh,some g,some p,some gd,some (.inr x),a,some c,some r,j,h,b⟩:=by simp[j7,A]
 have B:j6 ⟨ns,some sz,d,f,sh,some g,some p,some gd,some (.inr x),a,some c,some r,j,h,b⟩=.nx ⟨ns,some sz,d,f,sh,some g,some p,some gd,some (.inr x),a,some c,some r,some [true,false,true],h,b⟩:=by simp[j6,aj]
 have k0:0<=c%19/\c%19<19:=⟨Int.emod_nonneg _ (by omega),Int.emod_lt_of_pos _ (by omega)⟩;unfold lH;rw[nX C,nX B];by_cases q:16<c%19
 · have o:c%19=17\/c%19=18:=by omega
   rcases v with ⟨m,e⟩|⟨m,e⟩
   · have i:dM ⟨ns,some sz,d,f,sh,some g,some p,some gd,some (.inr x),a,some c,some r,some [true,false,true],h,b⟩=.nx ⟨ns,some sz,d,f,sh,some g,some p,some gd,some (.inr x),a,some c,some r,some [true,false,true],h,b⟩:=by simp[dM,q,m]
     have mk:=n9 (p:=p) (gd:=gd) (x:=x) o (.inl ⟨rfl,rfl⟩) e;rw[nX i];exact⟨_,_,by simp[im,mk];rfl⟩
   · have i:dM ⟨ns,some sz,d,f,sh,some g,some p,some gd,some (.inr x),a,some c,some r,some [true,false,true],h,b⟩=.nx ⟨ns,some sz,d,f,sh,some g,some p,some gd,some (.inr x),a,some c,some r,some [false,true,true],h,b⟩:=by simp[dM,jc,q,m,aj]
     have mk:=n9 (p:=p) (gd:=gd) (x:=x) o (.inr ⟨rfl,rfl⟩) e;rw[nX i];exact⟨_,_,by simp[im,mk];rfl⟩
 · have i:dM ⟨ns,some sz,d,f,sh,some g,some p,some gd,some (.inr x),a,some c,some r,some [true,false,true],h,b⟩=.nx ⟨ns,some sz,d,f,sh,some g,some p,some gd,some (.inr x),a,some c,some r,some [true,false,true],h,b⟩:=by simp[dM,q]
   have mk:=wS (p:=p) (gd:=gd) (x:=x) (k:=c%19) (r:=r) hp (by omega) (by omega) (by omega);rw[nX i];exact⟨_,_,by simp[im,mk];rfl⟩
theorem xo(ns:List Int):∃s,Nm ns=.ok true s:=by
 have cell:∀k:Int,0<=k->(jz ns k).res=.ok (bG ns k):=F7 ns;have m8:0<=bG ns 0%8/\bG ns 0%8<8:=⟨Sf _ (by omega),Sg _ (by omega)⟩;obtain⟨sz,hsz⟩:∃sz,sz=2+bG ns 0%8:=⟨_,rfl⟩;have h2:2<=sz:=by omega
 have h9:sz<=9:=by omega
 have j:sz<=60:=by omega
 have e1:sR ⟨ns,none,none,none,none,none,none,none,none,none,none,none,none,none,none⟩=.nx ⟨ns,some sz,none,none,none,none,none,none,none,none,none,none,none,none,none⟩:=by simp[sR,cell,hsz]
 obtain⟨d,ef,lf,T,R⟩:=F5 (bG ns 2) sz (by omega);obtain⟨f,ed,ld,nd,S⟩:=F6 (bG ns 3) sz (by omega) (by omega);obtain⟨sh,es,ls,w,v⟩:=JI (bG ns 4) sz (by omega);obtain⟨W,ew,hW⟩:=FX (bG ns 1) sz (by omega) j;have e2:sQ ⟨ns,some sz,none,none,none,none,none,none,none,none,none,none,none,none,none⟩=.nx ⟨ns,some sz,some d,none,none,none,none,none,none,none,none,none,none,none,none⟩:=by simp[sQ,cell,ef]
 have e3:sP ⟨ns,some sz,some d,none,none,none,none,none,none,none,none,none,none,none,none⟩=.nx ⟨ns,some sz,some d,some f,none,none,none,none,none,none,none,none,none,none,none⟩:=by simp[sP,cell,ed]
 have e4:sO ⟨ns,some sz,some d,some f,none,none,none,none,none,none,none,none,none,none,none⟩=.nx ⟨ns,some sz,some d,some f,some sh,none,none,none,none,none,none,none,none,none,none⟩:=by simp[sO,cell,es]
 obtain⟨g,eg,gi,_,n⟩:=zM (sz:=sz) (U:=W) (Z:=d) (Y:=f) (V:=sh) ⟨⟨by omega,j⟩,hW,⟨by omega,T,R⟩,⟨by omega,nd,S⟩,⟨by omega,w,v⟩⟩;have e5:sN ⟨ns,some sz,some d,some f,some sh,none,none,none,none,none,none,none,none,none,none⟩=.nx ⟨ns,some sz,some d,some f,some sh,some g,none,none,none,none,none,none,none,none,none⟩:=by simp[sN,cell,ew,eg]
 have mk:=F2 n (Hs.of n h9) (by omega) j;have G:=z9 g;generalize Db g=p at mk G;have hc:=n.count;have e6:sM ⟨ns,some sz,some d,some f,some sh,some g,none,none,none,none,none,none,none,none,none⟩=.nx ⟨ns,some sz,some d,some f,some sh,some g,some p,none,none,none,none,none,none,none,none⟩:=by simp[sM,mk]
 obtain⟨gd,y⟩:∃gd,gd=1+bG ns 5%(sz-1):=⟨_,rfl⟩
 have hg:1<=gd/\gd<sz:=by
  have m:=Sf (bG ns 5) (show sz-1≠0 by omega);have a2:=Sg (bG ns 5) (show 0<sz-1 by omega);omega
 have K:1<sz:=by omega
 have e7:sL ⟨ns,some sz,some d,some f,some sh,some g,some p,none,none,none,none,none,none,none,none⟩=.nx ⟨ns,some sz,some d,some f,some sh,some g,some p,some gd,none,none,none,none,none,none,none⟩:=by simp[sL,cell,K,y]
 have n6:0<=bG ns 6%1000000000:=Sf _ (by omega);have e8:sK ⟨ns,some sz,some d,some f,some sh,some g,some p,some gd,none,none,none,none,none,none,none⟩=.nx ⟨ns,some sz,some d,some f,some sh,some g,some p,some gd,some (.inl [-1,sz,0-1-bG ns 6%1000000000,sz+bG ns 6%1000000000]),none,none,none,none,none,none⟩:=by simp[sK,cell,aj]
 obtain⟨x,e9,hx⟩:∃x,jt ⟨ns,some sz,some d,some f,some sh,some g,some p,some gd,some (.inl [-1,sz,0-1-bG ns 6%1000000000,sz+bG ns 6%1000000000]),none,none,none,none,none,none⟩=.nx ⟨ns,some sz,some d,some f,some sh,some g,some p,some gd,some (.inr x),none,none,none,none,none,none⟩/\(x<0\/sz<=x):=by
  have:bG ns 7%4=0\/bG ns 7%4=1\/bG ns 7%4=2\/bG ns 7%4=3:=by omega
  rcases this with q|q|q|q
  ·exact⟨-1,by simp[jt,cell,q,iK,kU],by omega⟩
  ·exact⟨sz,by simp[jt,cell,q,iK,kU],by omega⟩
  ·exact⟨0-1-bG ns 6%1000000000,by simp[jt,cell,q,iK,kU],by omega⟩
  ·exact⟨sz+bG ns 6%1000000000,by simp[jt,cell,q,iK,kU],by omega⟩
 have F:g.wω.length<64:=by rw[Bw n.wsh.1 nd gi.wsh];omega
 obtain⟨X,I⟩:=Br n (by omega) j F;obtain⟨l,el,l64,lp⟩:=nE n j F;have E:o7 ⟨ns,some sz,some d,some f,some sh,some g,some p,some gd,some (.inr x),none,none,none,none,none,none⟩=.nx ⟨ns,some sz,some d,some f,some sh,some g,some p,some gd,some (.inr x),some X,none,none,none,none,none⟩:=by simp[o7,I]
 obtain⟨O,D,i,h,M,rfl⟩:=uT (u:=λa s=>{s with v4q:=some a}) (c:=lH) (λs:S_y9=>∃i h M,s=⟨ns,some sz,some d,some f,some sh,some g,some p,some gd,some (.inr x),some X,i,h,M,none,none⟩) [bG ns 8,bG ns 9,bG ns 10] ⟨ns,some sz,some d,some f,some sh,some g,some p,some gd,some (.inr x),some X,none,none,none,none,none⟩ ⟨none,none,none,rfl⟩ (by
  rintro c s _ ⟨i,h,M,rfl⟩;obtain⟨r2,d2,e⟩:=step n G h2 j hg hx ns (some d) (some f) (some sh) (some X) c h M none none
  exact⟨_,.inl e,_,_,_,rfl⟩)
 have r:o4 ⟨ns,some sz,some d,some f,some sh,some g,some p,some gd,some (.inr x),some X,none,none,none,none,none⟩=.nx ⟨ns,some sz,some d,some f,some sh,some g,some p,some gd,some (.inr x),some X,i,h,M,none,none⟩:=by
  have J:3<=aj:=by unfold aj;omega
  unfold o4;simp only[fb,jx,aR,dy,cf,pC,kC,cell 8 (by omega),cell 9 (by omega),cell 10 (by omega),Res.bind];rw[if_pos (show[bG ns 8,bG ns 9,bG ns 10].length<=aj from J)];exact D
 have rg:=eI (lo:=0) (hi:=sz) (by omega) (by omega) (by omega) (by omega)
 have pl:∀(P:DI Bool) (a:Int),(cH g.hω P a).length<aj:=λP a=>by
  unfold cH
  have:=UU (λb=>(P.get [a,b]).isSome) (cM 0 g.hω)
  rw[b9]at this;unfold aj;omega
 obtain⟨N,C,m,rfl⟩:=uT (u:=λa s=>{s with v0q:=some a}) (c:=pW) (λs:S_y9=>∃m,s=⟨ns,some sz,some d,some f,some sh,some g,some p,some gd,some (.inr x),some X,i,h,M,m,none⟩) (cM 0 sz) ⟨ns,some sz,some d,some f,some sh,some g,some p,some gd,some (.inr x),some X,i,h,M,none,none⟩ ⟨none,rfl⟩ (by
  rintro a s H ⟨m,rfl⟩;have H:=eZ.mp H;have Q:=jN g a (by omega) (by omega);have L:=gB g a (by omega) (by omega);refine⟨⟨ns,some sz,some d,some f,some sh,some g,some p,some gd,some (.inr x),some X,i,h,M,some a,none⟩,.inl ?_,_,rfl⟩;unfold pW
  simp[oZ,oY,Q,L,pl])
 have o:o0 ⟨ns,some sz,some d,some f,some sh,some g,some p,some gd,some (.inr x),some X,i,h,M,none,none⟩=.nx ⟨ns,some sz,some d,some f,some sh,some g,some p,some gd,some (.inr x),some X,i,h,M,m,none⟩:=by
  unfold o0;simp[rg,C]
 have t:=jN g gd (by omega) (by omega);have B:oX ⟨ns,some sz,some d,some f,some sh,some g,some p,some gd,some (.inr x),some X,i,h,M,m,none⟩=.nx ⟨ns,some sz,some d,some f,some sh,some g,some p,some gd,some (.inr x),some X,i,h,M,m,none⟩:=by simp[oX,t,pl]
 have A:oW ⟨ns,some sz,some d,some f,some sh,some g,some p,some gd,some (.inr x),some X,i,h,M,m,none⟩=.nx ⟨ns,some sz,some d,some f,some sh,some g,some p,some gd,some (.inr x),some X,i,h,M,m,none⟩:=by
  unfold oW;have al:(l.all λp=>decide (p.1.length+l.length<=aj))=true:=List.all_eq_true.mpr λq hq=>decide_eq_true (by have:=lp q hq;unfold aj;omega);simp only[GD,rV,vC,Res.bind,el];rw[if_pos ⟨al,rfl,rfl⟩]
 have z:oV ⟨ns,some sz,some d,some f,some sh,some g,some p,some gd,some (.inr x),some X,i,h,M,m,none⟩=.nx ⟨ns,some sz,some d,some f,some sh,some g,some p,some gd,some (.inr x),some X,i,h,M,m,none⟩:=by simp[oV,el]
 unfold Nm Fd;rw[nX e1,nX e2,nX e3,nX e4,nX e5,nX e6,nX e7,nX e8,nX e9,nX E,nX r,nX o,nX B,nX A,nX z];exact⟨_,by simp[u8,I];rfl⟩
theorem El(ns:List Int)(a:ns.length<=63):∃T,m_y9 [.scr (ns.map D.int)]=.ok (.bl true) T:=by
 obtain⟨s,e⟩:=xo ns
 have:=Qq ns
 rw[e]at this;exact⟨_,this⟩
end K23
namespace K23
open PySem L2
theorem cI{K:F0}{x q:Str}{st s2:Stmt}{f:Addr}(h:HD.fnO K f q=HD.fnE x q st)(e:st=s2):∃d,Fun K x q s2 f d:=by
 subst e;have b:=HD.fn_keep h;obtain⟨oc,n,kV,k,pm,an,m,ct,a,l,c⟩:=HD.fn_of h;have j:HD.dA st=kZ st:=by cases st<;>rfl
 have i:HD.dB st=d4 st:=by cases st<;>rfl
 have g:HD.dS st=au st:=by cases st<;>rfl
 rw[j,i,g]at l;exact⟨_,Mb l c b⟩
def Q1:Tns:=[]
theorem M6{w:World}{K:F0}{h:Heap}{mg:Str->Option Value}{T:Tbs}{x:Addr}(X:K.In h)(G:h.Ns mainGlobals mg)(u:mg "law" = some (.ref x))(TO:TabsOf mg h Q1 T)(y:HD.obK OK ON Pz Qp PP PH Pp K=NA PySem.Challenge.pw_heraldways_k23_what_is_no_house_or_road):∃fd:FuncData,(∀(s:Shared) (v:Value),BindsTo s fd ⟨[v],[]⟩ [("script",v)])/\∀base:Heap,K.In base->base.Ns mainGlobals mg->(∀c P,PySem.W.CodeHd h c P->PySem.W.CodeHd base c P)->FnOk PySem.Challenge.rw_heraldways_k23_what_is_no_house_or_road.prog w K mg base RD 7 x fd ["script"] (Mi.spT K T):=by
 have f:=congrArg (·.1) y;have d:=congrArg (·.2.1) y;have g:=congrArg (·.2.2.1) y;have b:=congrArg (·.2.2.2.1) y;have n:=congrArg (·.2.2.2.2.1) y;have m:=congrArg (·.2.2.2.2.2) y;clear y;have e:=u.symm.trans (R8 X G (HD.nth f 16 rfl rfl));cases e;obtain⟨d_a9,F_a9⟩:=cI (s2:=Ks) (HD.nth b 0 rfl rfl) rfl;obtain⟨d_c9,F_c9⟩:=cI (s2:=BC) (HD.nth b 1 rfl rfl) rfl;obtain⟨d_n9,F_n9⟩:=cI (s2:=J8) (HD.nth b 2 rfl rfl) rfl;obtain⟨d_q9,F_q9⟩:=cI (s2:=By) (HD.nth b 3 rfl rfl) rfl;obtain⟨d_v9,F_v9⟩:=cI (s2:=JV) (HD.nth b 4 rfl rfl) rfl;obtain⟨d_z9,F_z9⟩:=cI (s2:=JR) (HD.nth b 5 rfl rfl) rfl;obtain⟨d_bc9,F_bc9⟩:=cI (s2:=BK) (HD.nth b 6 rfl rfl) rfl;obtain⟨d_bf9,F_bf9⟩:=cI (s2:=ue) (HD.nth b 7 rfl rfl) rfl;obtain⟨d_bg9,F_bg9⟩:=cI (s2:=BH) (HD.nth b 8 rfl rfl) rfl;obtain⟨d_bj9,F_bj9⟩:=cI (s2:=BF) (HD.nth b 9 rfl rfl) rfl;obtain⟨d_bk9,F_bk9⟩:=cI (s2:=BE) (HD.nth b 10 rfl rfl) rfl;obtain⟨d_x9,F_x9⟩:=cI (s2:=JT) (HD.nth b 11 rfl rfl) rfl;obtain⟨d_bl9,F_bl9⟩:=cI (s2:=BD) (HD.nth b 12 rfl rfl) rfl;obtain⟨d_i9,F_i9⟩:=cI (s2:=Ki) (HD.nth b 13 rfl rfl) rfl;obtain⟨d_ba9,F_ba9⟩:=cI (s2:=BM) (HD.nth b 14 rfl rfl) rfl;obtain⟨d_b9,F_b9⟩:=cI (s2:=Kq) (HD.nth b 15 rfl rfl) rfl;obtain⟨d_e9,F_e9⟩:=cI (s2:=Kn) (HD.nth b 16 rfl rfl) rfl;obtain⟨d_f9,F_f9⟩:=cI (s2:=Km) (HD.nth b 17 rfl rfl) rfl;obtain⟨d_g9,F_g9⟩:=cI (s2:=Kk) (HD.nth b 18 rfl rfl) rfl;obtain⟨d_j9,F_j9⟩:=cI (s2:=Kh) (HD.nth b 19 rfl rfl) rfl;obtain⟨d_k9,F_k9⟩:=cI (s2:=Kg) (HD.nth b 20 rfl rfl) rfl;obtain⟨d_m9,F_m9⟩:=cI (s2:=Kb) (HD.nth b 21 rfl rfl) rfl;obtain⟨d_o9,F_o9⟩:=cI (s2:=J1) (HD.nth b 22 rfl rfl) rfl;obtain⟨d_t9,F_t9⟩:=cI (s2:=JX) (HD.nth b 23 rfl rfl) rfl;obtain⟨d_u9,F_u9⟩:=cI (s2:=JW) (HD.nth b 24 rfl rfl) rfl;obtain⟨d_d9,F_d9⟩:=cI (s2:=Ko) (HD.nth b 25 rfl rfl) rfl;obtain⟨d_h9,F_h9⟩:=cI (s2:=Kj) (HD.nth b 26 rfl rfl) rfl;obtain⟨d_l9,F_l9⟩:=cI (s2:=Kf) (HD.nth b 27 rfl rfl) rfl;obtain⟨d_p9,F_p9⟩:=cI (s2:=J0) (HD.nth b 28 rfl rfl) rfl;obtain⟨d_s9,F_s9⟩:=cI (s2:=JY) (HD.nth b 29 rfl rfl) rfl;obtain⟨d_w9,F_w9⟩:=cI (s2:=JU) (HD.nth b 30 rfl rfl) rfl;obtain⟨d_bi9,F_bi9⟩:=cI (s2:=qz) (HD.nth b 31 rfl rfl) rfl;obtain⟨d_r9,F_r9⟩:=cI (s2:=Bx) (HD.nth b 32 rfl rfl) rfl;obtain⟨d_bb9,F_bb9⟩:=cI (s2:=BL) (HD.nth b 33 rfl rfl) rfl;obtain⟨d_bd9,F_bd9⟩:=cI (s2:=BJ) (HD.nth b 34 rfl rfl) rfl;obtain⟨d_bh9,F_bh9⟩:=cI (s2:=BG) (HD.nth b 35 rfl rfl) rfl;obtain⟨d_be9,F_be9⟩:=cI (s2:=BI) (HD.nth b 36 rfl rfl) rfl;obtain⟨d_y9,F_y9⟩:=cI (s2:=JS) (HD.nth b 37 rfl rfl) rfl;obtain⟨j,l,i,mk_Guild,k⟩:=HD.cls_of (HD.nth g 23 rfl rfl);obtain⟨q,t,o,mk_Post,r⟩:=HD.cls_of (HD.nth g 24 rfl rfl)
 have J:∀(s:Shared) (v:Value),BindsTo s d_y9 ⟨[v],[]⟩ [("script",v)]:=by
  obtain⟨oc,R,kV,L,pm,an,M,ct,z,rfl,lk,I⟩:=F_y9.ex;exact λs v=>.of_eq rfl
 refine⟨d_y9,J,λbase _ _ O=>?_⟩
 have N:Txt K mg ⟨216,354,31,44,56,68,91,d_a9,178,d_c9,98,d_n9,166,d_q9,323,d_v9,365,d_z9,384,d_bc9,370,d_bf9,426,d_bg9,398,d_bj9,377,d_bk9,227,d_x9,77,d_bl9,199,d_i9,391,d_ba9,112,d_b9,133,d_e9,140,d_f9,105,d_g9,213,d_j9,206,d_k9,154,d_m9,185,d_o9,246,d_t9,260,d_u9,119,d_d9,173,d_h9,147,d_l9,161,d_p9,274,d_s9,330,d_w9,438,d_bi9,239,d_r9,412,d_bb9,405,d_bd9,419,d_bh9,433,d_be9,445,d_y9⟩ base:={
  cl_Guild:=⟨j,l,i,HD.nth d 23 rfl rfl⟩
  mgC_Guild:=R8 X G (HD.nth f 0 rfl rfl)
  mk_Guild:=⟨mk_Guild,HD.nth d 0 rfl rfl,HD.nth g 0 rfl rfl,k⟩
  cl_Post:=⟨q,t,o,HD.nth d 24 rfl rfl⟩
  mgC_Post:=R8 X G (HD.nth f 1 rfl rfl)
  mk_Post:=⟨mk_Post,HD.nth d 22 rfl rfl,HD.nth g 22 rfl rfl,r⟩
  n_house_count:=HD.nth d 25 rfl rfl
  n_ways:=HD.nth d 26 rfl rfl
  n_likings:=HD.nth d 27 rfl rfl
  n_shuns:=HD.nth d 28 rfl rfl
  n_wish_ranks:=HD.nth d 29 rfl rfl
  n_guild:=HD.nth d 30 rfl rfl
  n_roads:=HD.nth d 31 rfl rfl
  n_told_last:=HD.nth d 32 rfl rfl
  n_written_last:=HD.nth d 33 rfl rfl
  n_letters:=HD.nth d 34 rfl rfl
  n_standings:=HD.nth d 35 rfl rfl
  mgC_GuildError:=R8 X G (HD.nth f 29 rfl rfl)
  ek_GuildError:=(Sj.mp (SZ (HD.nth n 0 rfl rfl)).1).1
  xa_GuildError:=(Sj.mp (SZ (HD.nth n 0 rfl rfl)).1).2
  mgC_NoHouse:=R8 X G (HD.nth f 30 rfl rfl)
  ek_NoHouse:=(Sj.mp (SZ (HD.nth n 1 rfl rfl)).1).1
  xa_NoHouse:=(Sj.mp (SZ (HD.nth n 1 rfl rfl)).1).2
  mgC_WayThere:=R8 X G (HD.nth f 31 rfl rfl)
  ek_WayThere:=(Sj.mp (SZ (HD.nth n 2 rfl rfl)).1).1
  xa_WayThere:=(Sj.mp (SZ (HD.nth n 2 rfl rfl)).1).2
  mgC_NoRoad:=R8 X G (HD.nth f 32 rfl rfl)
  ek_NoRoad:=(Sj.mp (SZ (HD.nth n 3 rfl rfl)).1).1
  xa_NoRoad:=(Sj.mp (SZ (HD.nth n 3 rfl rfl)).1).2
  sb_GuildError_GuildError:=by rw[show iZ K 31=_ from(SZ (HD.nth n 0 rfl rfl)).2];rfl
  sb_NoHouse_GuildError:=by rw[show iZ K 44=_ from(SZ (HD.nth n 1 rfl rfl)).2];rfl
  sb_WayThere_GuildError:=by rw[show iZ K 56=_ from(SZ (HD.nth n 2 rfl rfl)).2];rfl
  sb_NoRoad_GuildError:=by rw[show iZ K 68=_ from(SZ (HD.nth n 3 rfl rfl)).2];rfl
  kt_GuildError_NoHouse:=HD.nth m 0 rfl rfl
  kt_GuildError_NoRoad:=HD.nth m 1 rfl rfl
  kt_GuildError_ValueError:=HD.nth m 2 rfl rfl
  kt_NoHouse_NoHouse:=HD.nth m 3 rfl rfl
  kt_NoHouse_NoRoad:=HD.nth m 4 rfl rfl
  kt_NoHouse_ValueError:=HD.nth m 5 rfl rfl
  kt_WayThere_NoHouse:=HD.nth m 6 rfl rfl
  kt_WayThere_NoRoad:=HD.nth m 7 rfl rfl
  kt_WayThere_ValueError:=HD.nth m 8 rfl rfl
  kt_NoRoad_NoHouse:=HD.nth m 9 rfl rfl
  kt_NoRoad_NoRoad:=HD.nth m 10 rfl rfl
  kt_NoRoad_ValueError:=HD.nth m 11 rfl rfl
  F_a9:=F_a9
  b_a9:=F_a9.binds λ_ _ _ _ _ _=>L2.d9 λ_ _=>rfl
  F_c9:=F_c9
  b_c9:=F_c9.binds λ_ _ _ _ _ _=>L2.i3 λ_ _ _=>rfl
  me_c9:=⟨HD.nth d 1 rfl rfl,HD.nth g 1 rfl rfl,F_c9.kp⟩
  F_n9:=F_n9
  b_n9:=F_n9.binds λ_ _ _ _ _ _=>L2.qK λ_=>rfl
  me_n9:=⟨HD.nth d 2 rfl rfl,HD.nth g 2 rfl rfl,F_n9.kp⟩
  F_q9:=F_q9
  b_q9:=F_q9.binds λ_ _ _ _ _ _=>L2.qK λ_=>rfl
  me_q9:=⟨HD.nth d 3 rfl rfl,HD.nth g 3 rfl rfl,F_q9.kp⟩
  F_v9:=F_v9
  b_v9:=F_v9.binds λ_ _ _ _ _ _=>L2.i3 λ_ _ _=>rfl
  me_v9:=⟨HD.nth d 4 rfl rfl,HD.nth g 4 rfl rfl,F_v9.kp⟩
  F_z9:=F_z9
  b_z9:=F_z9.binds λ_ _ _ _ _ _=>L2.d9 λ_ _=>rfl
  m_z9:=R8 X G (HD.nth f 2 rfl rfl)
  F_bc9:=F_bc9
  b_bc9:=F_bc9.binds λ_ _ _ _ _ _=>L2.d9 λ_ _=>rfl
  m_bc9:=R8 X G (HD.nth f 3 rfl rfl)
  F_bf9:=F_bf9
  b_bf9:=F_bf9.binds λ_ _ _ _ _ _=>L2.i3 λ_ _ _=>rfl
  m_bf9:=R8 X G (HD.nth f 4 rfl rfl)
  F_bg9:=F_bg9
  b_bg9:=F_bg9.binds λ_ _ _ _ _ _=>L2.yz λ_ _ _ _=>rfl
  m_bg9:=R8 X G (HD.nth f 5 rfl rfl)
  F_bj9:=F_bj9
  b_bj9:=F_bj9.binds λ_ _ _ _ _ _=>L2.d9 λ_ _=>rfl
  m_bj9:=R8 X G (HD.nth f 6 rfl rfl)
  F_bk9:=F_bk9
  b_bk9:=F_bk9.binds λ_ _ _ _ _ _=>L2.d9 λ_ _=>rfl
  m_bk9:=R8 X G (HD.nth f 7 rfl rfl)
  F_x9:=F_x9
  b_x9:=F_x9.binds λ_ _ _ _ _ _=>L2.qK λ_=>rfl
  m_x9:=R8 X G (HD.nth f 8 rfl rfl)
  F_bl9:=F_bl9
  b_bl9:=F_bl9.binds λ_ _ _ _ _ _=>L2.d9 λ_ _=>rfl
  m_bl9:=R8 X G (HD.nth f 9 rfl rfl)
  F_i9:=F_i9
  b_i9:=F_i9.binds λ_ _ _ _ _ _=>L2.d9 λ_ _=>rfl
  me_i9:=⟨HD.nth d 5 rfl rfl,HD.nth g 5 rfl rfl,F_i9.kp⟩
  F_ba9:=F_ba9
  b_ba9:=F_ba9.binds λ_ _ _ _ _ _=>L2.d9 λ_ _=>rfl
  m_ba9:=R8 X G (HD.nth f 10 rfl rfl)
  F_b9:=F_b9
  b_b9:=F_b9.binds λ_ _ _ _ _ _=>L2.i3 λ_ _ _=>rfl
  me_b9:=⟨HD.nth d 6 rfl rfl,HD.nth g 6 rfl rfl,F_b9.kp⟩
  F_e9:=F_e9
  b_e9:=F_e9.binds λ_ _ _ _ _ _=>L2.yz λ_ _ _ _=>rfl
  me_e9:=⟨HD.nth d 7 rfl rfl,HD.nth g 7 rfl rfl,F_e9.kp⟩
  F_f9:=F_f9
  b_f9:=F_f9.binds λ_ _ _ _ _ _=>L2.i3 λ_ _ _=>rfl
  me_f9:=⟨HD.nth d 8 rfl rfl,HD.nth g 8 rfl rfl,F_f9.kp⟩
  F_g9:=F_g9
  b_g9:=F_g9.binds λ_ _ _ _ _ _=>L2.d9 λ_ _=>rfl
  me_g9:=⟨HD.nth d 9 rfl rfl,HD.nth g 9 rfl rfl,F_g9.kp⟩
  F_j9:=F_j9
  b_j9:=F_j9.binds λ_ _ _ _ _ _=>L2.d9 λ_ _=>rfl
  me_j9:=⟨HD.nth d 10 rfl rfl,HD.nth g 10 rfl rfl,F_j9.kp⟩
  F_k9:=F_k9
  b_k9:=F_k9.binds λ_ _ _ _ _ _=>L2.i3 λ_ _ _=>rfl
  me_k9:=⟨HD.nth d 11 rfl rfl,HD.nth g 11 rfl rfl,F_k9.kp⟩
  F_m9:=F_m9
  b_m9:=F_m9.binds λ_ _ _ _ _ _=>L2.d9 λ_ _=>rfl
  me_m9:=⟨HD.nth d 12 rfl rfl,HD.nth g 12 rfl rfl,F_m9.kp⟩
  F_o9:=F_o9
  b_o9:=F_o9.binds λ_ _ _ _ _ _=>L2.qK λ_=>rfl
  me_o9:=⟨HD.nth d 13 rfl rfl,HD.nth g 13 rfl rfl,F_o9.kp⟩
  F_t9:=F_t9
  b_t9:=F_t9.binds λ_ _ _ _ _ _=>L2.d9 λ_ _=>rfl
  me_t9:=⟨HD.nth d 14 rfl rfl,HD.nth g 14 rfl rfl,F_t9.kp⟩
  F_u9:=F_u9
  b_u9:=F_u9.binds λ_ _ _ _ _ _=>L2.i3 λ_ _ _=>rfl
  me_u9:=⟨HD.nth d 15 rfl rfl,HD.nth g 15 rfl rfl,F_u9.kp⟩
  F_d9:=F_d9
  b_d9:=F_d9.binds λ_ _ _ _ _ _=>L2.i3 λ_ _ _=>rfl
  me_d9:=⟨HD.nth d 16 rfl rfl,HD.nth g 16 rfl rfl,F_d9.kp⟩
  F_h9:=F_h9
  b_h9:=F_h9.binds λ_ _ _ _ _ _=>L2.d9 λ_ _=>rfl
  me_h9:=⟨HD.nth d 17 rfl rfl,HD.nth g 17 rfl rfl,F_h9.kp⟩
  F_l9:=F_l9
  b_l9:=F_l9.binds λ_ _ _ _ _ _=>L2.i3 λ_ _ _=>rfl
  me_l9:=⟨HD.nth d 18 rfl rfl,HD.nth g 18 rfl rfl,F_l9.kp⟩
  F_p9:=F_p9
  b_p9:=F_p9.binds λ_ _ _ _ _ _=>L2.i3 λ_ _ _=>rfl
  me_p9:=⟨HD.nth d 19 rfl rfl,HD.nth g 19 rfl rfl,F_p9.kp⟩
  F_s9:=F_s9
  b_s9:=F_s9.binds λ_ _ _ _ _ _=>L2.d9 λ_ _=>rfl
  me_s9:=⟨HD.nth d 20 rfl rfl,HD.nth g 20 rfl rfl,F_s9.kp⟩
  F_w9:=F_w9
  b_w9:=F_w9.binds λ_ _ _ _ _ _=>L2.d9 λ_ _=>rfl
  me_w9:=⟨HD.nth d 21 rfl rfl,HD.nth g 21 rfl rfl,F_w9.kp⟩
  F_bi9:=F_bi9
  b_bi9:=F_bi9.binds λ_ _ _ _ _ _=>L2.d9 λ_ _=>rfl
  m_bi9:=R8 X G (HD.nth f 11 rfl rfl)
  F_r9:=F_r9
  b_r9:=F_r9.binds λ_ _ _ _ _ _=>L2.d9 λ_ _=>rfl
  F_bb9:=F_bb9
  b_bb9:=F_bb9.binds λ_ _ _ _ _ _=>L2.yz λ_ _ _ _=>rfl
  m_bb9:=R8 X G (HD.nth f 12 rfl rfl)
  F_bd9:=F_bd9
  b_bd9:=F_bd9.binds λ_ _ _ _ _ _=>L2.D7 λ_ _ _ _ _=>rfl
  m_bd9:=R8 X G (HD.nth f 13 rfl rfl)
  F_bh9:=F_bh9
  b_bh9:=F_bh9.binds λ_ _ _ _ _ _=>L2.D7 λ_ _ _ _ _=>rfl
  m_bh9:=R8 X G (HD.nth f 14 rfl rfl)
  F_be9:=F_be9
  b_be9:=F_be9.binds λ_ _ _ _ _ _=>L2.Pj λ_ _ _ _ _ _=>rfl
  m_be9:=R8 X G (HD.nth f 15 rfl rfl)
  F_y9:=F_y9
  b_y9:=F_y9.binds λ_ _ _ _ _ _=>L2.qK λ_=>rfl
  m_y9:=R8 X G (HD.nth f 16 rfl rfl)
  g_SEAT:=⟨_,R8 X G (HD.nth f 17 rfl rfl)⟩
  g_MOST_HOUSES:=⟨_,R8 X G (HD.nth f 18 rfl rfl)⟩
  z_len:=SB X G (HD.nth f 19 rfl rfl)
  z_range:=SB X G (HD.nth f 20 rfl rfl)
  z_min:=SB X G (HD.nth f 21 rfl rfl)
  z_max:=SB X G (HD.nth f 22 rfl rfl)
  z_set:=SB X G (HD.nth f 23 rfl rfl)
  z_list:=SB X G (HD.nth f 24 rfl rfl)
  z_tuple:=SB X G (HD.nth f 25 rfl rfl)
  z_isinstance:=SB X G (HD.nth f 26 rfl rfl)
  z_sorted:=SB X G (HD.nth f 27 rfl rfl)
  z_ValueError:=SB X G (HD.nth f 28 rfl rfl)
 }
 refine(Oy N).calm.imp λvs H Q E B=>?_;obtain⟨a,xs,A,C,D,S,F⟩:=B;refine Mi.LX El A C D (λp hp=>?_) F;cases hp
theorem QY{K:F0}{q:Program}{loose:List Str}{XP:(Str->Option Value)->Heap->Prop}{d:DefRec}(e:d.params.defaults=[])(b:d.name = "law")(y:HD.obK OK ON Pz Qp PP PH Pp K=NA PySem.Challenge.pw_heraldways_k23_what_is_no_house_or_road):PySem.W.WalkO q loose XP (λ_ h=>K.In h) PySem.Challenge.rw_heraldways_k23_what_is_no_house_or_road.row.toRowW d [] (λf vs=>PySem.call f vs):=
 L2.FK (l:=PySem.Challenge.rw_heraldways_k23_what_is_no_house_or_road) (K:=λ_=>K) (n:=63) (k:=7) (x := "script") (CX:=λ_=>RD) (sp:=λ_ T=>Mi.spT K T) Q1 rfl (by decide) e ⟨rfl,by decide,by decide⟩ (λ_ _ Y=>Y) (λ_ h=>absurd rfl h) (λ_ h=>(nomatch h)) (by unfold Tns.ok Q1;decide) (λw mg j h T X G c TO=>M6 X G (b▸c) TO y) (λw T H a ns g hO i=>⟨a,ns,rfl,Mi.JH hO i,g,Mi.NF hO,λ_=>rfl⟩) λ_ _ _ _ _ z=>z
end K23
open PySem PySem.W PyProof.Rows
set_option maxRecDepth 100000 in
set_option maxHeartbeats 0 in
theorem PySem.Challenge.cw_heraldways_k23_what_is_no_house_or_road_holds : PySem.Challenge.rw_heraldways_k23_what_is_no_house_or_road.Holds := by
 refine K23.hd0 λsaid=>?_;refine holds_openX (q:=K23.qP PySem.Challenge.pw_heraldways_k23_what_is_no_house_or_road) (loose:=[]) (Xt:=λs=>xlAt (K23.qP PySem.Challenge.pw_heraldways_k23_what_is_no_house_or_road) [] s&&recOk (RowW.records PySem.Challenge.rw_heraldways_k23_what_is_no_house_or_road.row.toRowW) s) (XP:=XL (K23.qP PySem.Challenge.pw_heraldways_k23_what_is_no_house_or_road) []) (Yf:=HD.ob K23.Rq K23.OK K23.ON K23.Pz K23.Qp K23.PP K23.PH K23.Pp) (Ya:=λ_=>K23.NA PySem.Challenge.pw_heraldways_k23_what_is_no_house_or_road) (N:=6016) (λw=>HD.two (K23.Pm w) (K23.Pl w)) (λs e=>xl_of s (Sj.mp e).1) XL.keeps (by rfl) (by rfl) (by rfl) (λs e=>recFacts_of (Sj.mp e).2) (by rfl) said (by decide +kernel) ⟨rfl,rfl,rfl,rfl,rfl,by decide +kernel⟩ ?hw (HD.walkX λK y=>K23.QY rfl rfl y)
 case hw=>w_witness2
