import PyProof.Rows.All
import Wide.All
import Wide.FinOn
import OpenK.XOpen
import OpenK.KWalk
import OpenK.KMake
import OpenK.KOwn
import OpenK.KRaiseN
import OpenK.Peek
import OpenK.KCall
import OpenK.KGet
import KE.KIsAll
import KE.KBytesAny
import KE.BytesK
import KE.KxBytes
import KE.KDictOf
import KE.KItem
import Lean
import PyProof.EqAt
import PyProof.EqKinds
import PyProof.TupleCall
import KE.KLam
import KE.KMinKey
import KE.KDictList
import KE.KRevIter
import PyProof.WalksMore
import PyProof.Rows.SetFrom
import KE.KSortTup
import KE.KDictSum
import PyProof.DictUpdate
import Open.Tops
import PySem.Challenge.RW_heraldways_k18_whole_calm_is_settled
set_option Elab.async false
set_option linter.all false
set_option maxRecDepth 100000
abbrev F0:=PySem.W.Frag
abbrev L9:=List (PySem.Addr×PySem.Obj)
abbrev LV:=PySem.Value->PySem.Shared->Prop
abbrev P0:=List (Int×Int)
local macro_rules|`(tactic|ac_rfl)=>`(tactic|(constructor<;>first|rfl|decide +kernel))
local macro_rules|`(command|def $i:declId $s:optDeclSig $v:declVal)=>`(command|noncomputable def $i:declId $s:optDeclSig $v:declVal)
local macro_rules|`(command|@[simp]def $i:declId $s:optDeclSig $v:declVal)=>`(command|@[simp]noncomputable def $i:declId $s:optDeclSig $v:declVal)
local macro_rules|`(command|abbrev $i:declId $s:optDeclSig $v:declVal)=>`(command|noncomputable abbrev $i:declId $s:optDeclSig $v:declVal)
def on:=@if_neg
def YG:=@if_pos
def YH:=@PySem.wpAny_bind
def YI:=@List.map_cons
def YJ:=@List.length_map
def YK:=@List.mem_cons_self
def YL:=@List.mem_append_right
def YM:=@List.mem_cons_of_mem
def YN:=@PySem.Heap.get?_push_of_some
def YO:=@List.length_cons
def YQ:=@List.length_append
def YR:=@PySem.wpAny_pure
def YS:=@List.mem_cons
def YT:=@List.mem_singleton
def YU:=@List.mem_append_left
def YV:=@PySem.Heap.lt_size
def YW:=@Bool.false_ne_true
def YX:=@List.mem_append
def YY:=@Nat.le_refl
def YZ:=@List.size_toArray
def Y0:=@List.getD_eq_getElem?_getD
def Y1:=@List.getElem?_eq_getElem
def Y2:=@List.getElem?_eq_some_iff
def Y3:=@Option.map_eq_some_iff
def Y4:=@PySem.Heap.get?_push_size
def Y5:=@List.getElem?_map
def Y6:=@Option.some.inj
def Y7:=@List.nodup_cons
def Y8:=@List.getElem?_eq_none
def Y9:=@List.mem_map
def Za:=@List.length_set
def Zb:=@decide_eq_true_iff
def Zc:=@decide_eq_false
def Zd:=@Nat.lt_of_lt_of_le
def Ze:=@Nat.le_trans
def Zf:=@List.nodup_append
def Zg:=@Nat.ne_of_lt
def Zh:=@Int.emod_lt_of_pos
def Zi:=@List.length_eq_zero_iff
def Zj:=@decide_eq_true
def Zk:=@PySem.Heap.get?_update_other
def Zl:=@List.lookup_cons
def Zm:=@List.append_nil
def Zn:=@Int.emod_nonneg
def Zo:=@PySem.Heap.get?_update_self
def Zp:=@beq_eq_false_iff_ne
def Zq:=@Array.length_toList
def Zr:=@List.map_append
def Zs:=@List.replicate_succ
def Zt:=@List.map_map
def Zu:=@List.getElem?_append_right
def Zv:=@List.eraseIdx_cons_succ
def Zw:=@List.append_assoc
def Zx:=@PySem.Obj.data_mapDictKeys
def Zy:=@List.getElem?_append_left
def Zz:=@PySem.Calls.spliced_cons
def ZA:=@List.mem_filter
def ZB:=@PySem.wpAny_passesOwn
def ZC:=@List.find?_cons
def ZD:=@List.nodup_nil
def ZE:=@PySem.F.plainAttrs_dict
def ZF:=@List.mem_of_getElem?
def ZG:=@Nat.lt_irrefl
def ZH:=@PySem.W.kia_one
def ZI:=@PySem.Calls.callWith_builtin
def ZJ:=@Array.getElem?_eq_getElem
def ZK:=@List.flatten_cons
def ZL:=@List.map_nil
def ZM:=@List.filter_cons
def ZN:=@PySem.Around.under_plainId
def ZO:=@Nat.le_of_lt
def ZP:=@PySem.wpAny_truthy_bool
def ZQ:=@List.map_congr_left
def ZR:=@List.eraseIdxIfInBounds_toArray
def ZS:=@PySem.F.slot_dict_get
def ZT:=@List.all_eq_true
def ZU:=@PySem.Paired.length
def ZV:=@PySem.Calls.evalArgs_plain
def ZW:=@PySem.wpAny_typeNameOfWhole_keyiter
def ZX:=@PySem.Calls.spliced_nil
def ZY:=@PySem.mem_of_lookup
def ZZ:=@PySem.Obj.isFreed_of_dict
def Z0:=@List.getD_cons_succ
def Z1:=@PyProof.Rows.callWith_type1
def Z2:=@PySem.wpAny_holding
def Z3:=@Nat.zero_le
def Z4:=@beq_self_eq_true
def Z5:=@PySem.wpAny_Call_Name_kw
def Z6:=@PySem.tupleKind_room_in1
def Z7:=@PySem.F.slot_dict_pop
def Z8:=@Array.getElem?_toList
def Z9:=@List.length_replicate
def Aa0:=@List.getElem?_eq_none_iff
def Aa1:=@List.mem_or_eq_of_mem_set
def Aa2:=@PySem.codeAny_builtin
def Aa3:=@PySem.wpAny_dictEntries
def Aa4:=@Option.isSome_iff_exists
def Aa5:=@PySem.plainId_quiet
def Aa6:=@PySem.wpAny_typeNameOf_keyiter
def Aa7:=@Ne.symm
def Aa8:=@List.getElem?_replicate
def Aa9:=@Bool.and_eq_true
def Ab0:=@List.cons_append
def Ab1:=@List.getElem?_cons_succ
def Ab2:=@PySem.F.entry_dict_get
def Ab3:=@Nat.lt_of_le_of_lt
def Ab4:=@Bool.false_eq_true
def Ab5:=@PySem.SeqAt.canLay_of_shaped
def Ab6:=@List.foldl_cons
def Ab7:=@Option.map_some
def Ab8:=@List.any_cons
def Ab9:=@List.length_filter_le
def Ac0:=@List.length_singleton
def Ac1:=@PySem.wpAny_Call_method
def Ac2:=@of_decide_eq_true
def Ac3:=@PySem.Heap.size_push
def Ac4:=@Nat.lt_succ_self
def Ac5:=@PySem.call_meetsIn
def Ac6:=@List.drop_eq_getElem_cons
def Ac7:=@List.getElem?_range
def Ac8:=@PySem.Heap.SameBut.update
def Ac9:=@Prod.mk.injEq
def Ad0:=@PySem.wpAny_execs_nil
def Ad1:=@List.mem_replicate
def Ad2:=@PySem.wpAny_letGo
def Ad3:=@Option.bind_eq_some_iff
def Ad4:=@List.getElem?_set_self
def Ad5:=@PySem.wpAny_pyIter_list
def Ad6:=@PySem.wpAny_tryCatch
def Ad7:=@List.length_range
def Ad8:=@PySem.F.type_dict_pop
def Ad9:=@Bool.beq_eq_decide_eq
def Ae0:=@PySem.wpAny_mono
def Ae1:=@List.eq_nil_iff_forall_not_mem
def Ae2:=@Array.mem_toList_iff
def Ae3:=@Bool.eq_iff_iff
def Ae4:=@PySem.W.plainGet_of
def Ae5:=@List.getElem_of_mem
def Ae6:=@PySem.W.shaped_ints
def Ae7:=@List.map_eq_nil_iff
def Ae8:=@Nat.succ.inj
def Ae9:=@Nat.sub_self
def Af1:=@List.mem_filterMap
def Af2:=@Int.fdiv_eq_ediv_of_nonneg
def Af3:=@beq_iff_eq
def Af4:=@PySem.W.callWith_K
def Af5:=@Option.isSome_some
def Af6:=@if_false
def Af7:=@List.set_cons_zero
def Af8:=@List.set_cons_succ
def Ag0:=@List.exists_mem_of_ne_nil
def Ag1:=@Sum.inl.inj
def Ag2:=@Option.isSome_map
def Ag3:=@Nat.lt_succ_of_lt
def Ag4:=@PySem.wpAny_newObj_type
def Ag5:=@List.ext_getElem?
def Ag6:=@Nat.le_succ_of_le
def Ag7:=@PySem.wpAny_standAt
def Ag9:=@PySem.F.slot_list_remove
def Ah0:=@List.set_eq_of_length_le
def Ah1:=@PySem.F.slot_dict_values
def Ah2:=@List.length_take
def Ah3:=@PySem.F.args_dict_pop_3
def Ah4:=@PySem.F.args_dict_get_2
def Ah5:=@PySem.F.args_dict_get_3
def Ah6:=@List.getElem_mem
def Ah7:=@List.drop_length
def Ah8:=@PySem.codeAny_mono
def Ah9:=@PySem.W.cellsFrom_some
def Ai0:=@PySem.F.entry_dict_pop
def Ai2:=@if_true
def Ai3:=@PySem.call_meets
def Ai5:=@List.drop_eq_nil_of_le
def Ai6:=@decide_false
def Ai7:=@List.all_map
def Ai8:=@List.filter_eq_nil_iff
def Ai9:=@PySem.wpAny_updateSeq
def Aj0:=@PySem.wpAny_dictEpoch
def Aj1:=@PySem.PassesOwn.never
def Aj3:=@PySem.W.methodCall_KW
def Aj4:=@PySem.F.type_dict_get
def Aj5:=@List.getElem?_toArray
def Aj7:=@PySem.F.slot_dict_len
def Aj8:=@List.Perm.append_left
def Aj9:=@congrFun
def Ak0:=@List.mem_range
def Ak3:=@PySem.sizeLine_eq
def Al0:=@Int.max_def
def An4:=@List.map_set
namespace HD
open PySem PySem.W PyProof.Rows
def top(p:Program)(i:Nat):Stmt:=p.main.body.getD i (.Pass ⟨0,0,0,0⟩)
def iC(s:Stmt)(j:Nat):Stmt:=match s with
 |.ClassDef _ _ _ a _ _ _ _ _ _ _=>a.getD j (.Pass ⟨0,0,0,0⟩)
 |_=> .Pass ⟨0,0,0,0⟩
def dA(s:Stmt):Arguments:=match s with
 |.FunctionDef _ a _ _ _ _ _ _ _ _=>a
 |_=>{posonlyargs:=[],args:=[],vararg:=none,kwonlyargs:=[],kw_defaults:=[],kwarg:=none,defaults:=[]}
def dB(s:Stmt):List Stmt:=match s with
 |.FunctionDef _ _ b _ _ _ _ _ _ _=>b
 |_=>[]
def dS(s:Stmt):Scope:=match s with
 |.FunctionDef _ _ _ _ _ _ sc _ _ _=>sc
 |_=>{kind:=.function,names:=[],isGenerator:=false,isCoroutine:=false}
def LZ(as:List Addr)(h:Heap):Frag:=as.filterMap λa=>(h.get? a).map λo=>(a,o)
def LY(as:List Addr)(h:Heap):(LZ as h).In h:=by
 intro a o e
 induction as with
 |nil=>cases e
 |cons b as c=>
   unfold LZ at e;rw[List.filterMap_cons]at e;cases q:h.get? b with
   |none=>
     rw[q]at e;exact c e
   |some x=>
     rw[q]at e;replace e:List.lookup a ((b,x)::LZ as h)=some o:=e;rw[Zl]at e;by_cases z:a=b
     ·subst z;rw[Z4 a]at e;cases e;exact q
     ·rw[Zp.mpr z]at e;exact c e
abbrev YF:=Str×Str×Arguments×FuncBody×Scope×Addr×List (Str×Addr)×Value×Addr×Bool
def fnO(K:Frag)(f:Addr)(q:Str):Option YF:=match K.lookup f with
 |some ⟨_,_,.func fd,_⟩=>some (fd.name,fd.qualname,fd.params,fd.body,fd.scope,fd.globals,fd.closure,fd.defaults,fd.builtins,codeIn K fd.code q)
 |_=>none
def fnE(x q:Str)(st:Stmt):Option YF:=some (x,q,dA st,.stmts (dB st),dS st,mainGlobals,[],.none,builtinsNs,true)
def fn_of{K:Frag}{f:Addr}{x q:Str}{st:Stmt}(h:fnO K f q=fnE x q st):∃(oc:Value) (c:Option Addr) (kV d pm:Value) (an:Option Addr) (b ct:Value) (a:Array (Option Value)),
 K.lookup f=some ⟨oc,c,.func (fnOf x q (dA st) (dB st) (dS st) .none kV d pm an b ct),a⟩/\codeIn K b q=true:=by
 unfold fnO at h;split at h
 · next oc c fd a e=>
   obtain⟨n,l,m,bd,sc,o,r,p,g,j,pm,an,k,ct,s⟩:=fd;unfold fnE at h;simp only[Option.some.injEq,Prod.mk.injEq]at h;obtain⟨rfl,rfl,rfl,rfl,rfl,rfl,rfl,rfl,rfl,i⟩:=h;exact⟨oc,c,g,j,pm,an,k,ct,a,e,i⟩
 ·exact nomatch h
def fn_keep{K:Frag}{f:Addr}{x q:Str}{st:Stmt}(h:fnO K f q=fnE x q st):keepIn K (.ref f)=true:=by
 obtain⟨oc,d,kV,b,pm,an,c,ct,a,e,_⟩:=fn_of h;show(match K.lookup f with|some ⟨_,_,.func _,_⟩=>true|some ⟨_,_,.cls _,_⟩=>specialIn K (.ref f) "__call__" == some (some (.builtin "type.__call__"))|_=>false)=true;rw[e]
def Wa(K:Frag)(C:Addr):List Value:=match K.lookup C with
 |some ⟨_,_,.cls a,_⟩=>a.mro
 |_=>[]
def Wt(K:Frag)(C:Addr):Bool:=excIn K C [.type "ValueError",.type "Exception",.type "BaseException",.type "object"] "ValueError.__new__"
def NU(K:Frag)(D:Addr):Bool:=findIn K (.ref D) "__getattribute__" == some (some (.builtin "BaseException.__getattribute__"))&&(findIn K (.ref D) "__getattr__" == some none&&(findIn K (.ref D) "__class__" == some (some (.builtin "object.__class__")) &&
 (specialIn K (.builtin "object.__class__") "__get__" == some (some (.builtin "getset_descriptor.__get__"))&&(takesIn K (.builtin "object.__class__")==some true&&(mroIn K D (.type "object")==some true&&(mroIn K D (.type "BaseException")==some true&&(clsIn K D).isSome))))))
abbrev Ob:=List (Option (Option Value))×List (Option (Option Value))×List Bool×List (Option YF)×List (Bool×List Value)×List (Option Bool)
def cls(K:Frag)(C:Addr):Bool:=plainGet K C Str.empty&&(hasDictIn K C&&(plainOver K C&&(makesIn K C&&keepIn K (.ref C))))
def obK(ns:List Str)(M:List (Addr×Str))(fs cs:List Addr)(ds:List (Addr×Str))(b:List Addr)(a:List (Addr×Value))(K:Frag):Ob:=
 (ns.map (nsIn K mainGlobals),M.map (λp=>findIn K (.ref p.1) p.2),(fs.map λf=>isFn K (.ref f))++cs.map (cls K),ds.map (λp=>fnO K p.1 p.2),b.map (λC=>(Wt K C&&NU K C,Wa K C)),a.map λp=>kitOne K (.ref p.1) p.2)
def ob(n:List Addr)(ns:List Str)(M:List (Addr×Str))(fs cs:List Addr)(ds:List (Addr×Str))(b:List Addr)(a:List (Addr×Value))(s:Shared):Ob:=obK ns M fs cs ds b a (LZ n s.heap)
def two{W X L:Type}{o:Option W}{f:W->X}{g:W->L}{a:X}{b:L}(c:o.map f=some a)(d:o.map g=some b):o.map (λs=>(f s,g s))=some (a,b):=by
 cases o with
 |none=>cases c
 |some s=>cases c;cases d;rfl
def nth{W:Type}{l m:List W}(h:l=m)(i:Nat){a b:W}(d:l[i]?=some a)(c:m[i]?=some b):a=b:=by
 subst h;rw[d]at c;exact Y6 c
def cls_of{K:Frag}(h:cls K C=true):plainGet K C Str.empty=true/\hasDictIn K C=true/\plainOver K C=true/\makesIn K C=true/\keepIn K (.ref C)=true:=by
 unfold cls at h;simpa only[Bool.and_eq_true] using h
def walkX{XP:(Str->Option Value)->Heap->Prop}{run:Value->List Value->Sem Value}
 (W:∀K:Frag,obK ns M fs cs ds i g K=E->WalkO q loose XP (λ_ h=>K.In h) r d c run):WalkX q loose XP (ob n ns M fs cs ds i g) (λ_=>E) r d c run:=
 λw s0 j mg k G y a o pm x e v kV u t s p m l args b f L D C B A z=>W _ y w s0 j mg k G ((LY _ _).keeps L.keeps) a o pm x e v kV u t s p m l args b f D C B A z
end HD
namespace HS
open PySem PySem.W PyProof.Rows
noncomputable def s0(w:World)(os:OsState):Shared:=⟨boot_heap w.params,Array.mk [],boot_drawn,boot_toks,os⟩
def mid(x:Shared):Option (Shared×Thread)->Shared
 |some (s,_)=>s
 |none=>x
def lz(x:SharedT):Option (Flow×SharedT×Code×Pos)->SharedT
 |some (_,s,_)=>s
 |none=>x
noncomputable def look{W:Type}(p:Program)(w:World)(f:Shared->W)(o:Option Shared):Option W:=o.bind λa=>match staticsOk (importedModules p.main.body) (boot_heap w.params) a.heap&&namesBound p a.heap&&gensDone a&&laidKept (boot_heap w.params) a.heap with
 |true=>some (f a)
 |false=>none
section
variable{p:Program}{w:World}{os:OsState}{m0:Nat}{ann:Option Value}{env:PySem.Env}{q posA posB pos1 pos2:Pos}{b l1 l2:List Stmt}{sA:Shared}{sB s1 s2:SharedT}{k0 kb k1 k2:Nat}
def first(pre:topGo treeTable p w m0 ann k0 (s0 w os) (topStub p)=some (sA,⟨denote treeTable (.body b env),.body b env,posA,[topFrame q]⟩))
 (N9:segRun treeTable p w m0 ann 1 kb sA (blockOf b env (.body b env) posA [topFrame q])=some (.next,sB.abs,.body b env,posB))   (h:topRun treeTable p w m0 ann N sB.abs (restOf b env (.body b env) posB [topFrame q])=some r):
 topRun treeTable p w m0 ann (k0+(kb+N)) (s0 w os) (topStub p)=some r:=go_top pre (piece_block N9 h)
def UM(g:segRunT treeTable p w m0 ann 1 k1 s1 (piecesOf l1 env c pos1 [topFrame q])=some (.next,s2,c,pos2))(h:topRun treeTable p w m0 ann N s2.abs (restOf l2 env c pos2 [topFrame q])=some r):
 topRun treeTable p w m0 ann (k1+N) s1.abs (restOf (l1++l2) env c pos1 [topFrame q])=some r:=piece_app (segRun_of g) h
end
def ends{good:World->W}
 (b:∀w:World,(fencedOpening treeTable p w N).map (λs=>(s.heap,s.gens,s.drawn,s.toks))=some (boot_heap w.params,Array.mk [],boot_drawn,boot_toks))
 (size:∀w:World,((boot_heap w.params).isNs mainGlobals && (Array.mk []:Array GenState).size == 0,(boot_heap w.params).objs.size,(boot_heap w.params).nsMap mainGlobals "__annotations__")=(true,i,g))
 (run:∀(w:World) (os:OsState),∃a,topRun treeTable p w i g M (s0 w os) (topStub p)=some a/\look p w f (some a)=some (good w)) (q:M<=N):∀w:World,(openEnds treeTable p w N).map f=some (good w):=λw=>by
 obtain⟨⟨h,n,d,k,os⟩,e,o⟩:=Y3.mp (b w);obtain⟨rfl,rfl,rfl,rfl⟩:h=boot_heap w.params/\n=Array.mk []/\d=boot_drawn/\k=boot_toks:=by simpa using o
 obtain⟨m,l,j⟩:_/\_/\_:=by simpa only[Ac9] using size w
 obtain⟨a,r,lk⟩:=run w os;have r:=topRun_mono (N-M) _ _ _ _ r;rw[show M+(N-M)=N by omega]at r;unfold openEnds;rw[e];show(topFrom treeTable p w N _).map f=_;unfold topFrom;dsimp only;rw[m,l,j];show((topRun treeTable p w i g N (s0 w os) (topStub p)).bind _).map f=_;rw[r];unfold look at lk;dsimp only[Option.bind]at lk ⊢;cases c:staticsOk (importedModules p.main.body) (boot_heap w.params) a.heap&&namesBound p a.heap&&gensDone a&&laidKept (boot_heap w.params) a.heap with
 |true=>rw[c]at lk;exact lk
 |false=>rw[c]at lk;cases lk
def run{W X:Type}{Jx:World->OsState->Shared}{MQ Jw fz:World->OsState->SharedT}{f:Shared->W}{g:Shared->X}{good:World->W}{k:World->X}
 (pre:∀w:World,(λos=>topGo treeTable p w d a t (s0 w os) (topStub p))=λos=>some (Jx w os,⟨denote treeTable (.body b env),.body b env,j,[topFrame q]⟩))
 (N9:∀w:World,(λos=>segRun treeTable p w d a 1 s (Jx w os) (blockOf b env (.body b env) j [topFrame q]))=λos=>some (.next,(MQ w os).abs,.body b env,i))
 (ch:∀(w:World) (os:OsState) (r:Shared),topRun treeTable p w d a (o+m) (Jw w os).abs (restOf bf env (.body b env) h [topFrame q])=some r->topRun treeTable p w d a M (MQ w os).abs (restOf b env (.body b env) i [topFrame q])=some r)
 (x:∀w:World,(λos=>(segRunT treeTable p w d a 1 o (Jw w os) (piecesOf bf env (.body b env) h [topFrame q]),look p w f (topRun treeTable p w d a m (fz w os).abs ⟨doneF .next,.body b env,c,[topFrame q]⟩),look p w g (topRun treeTable p w d a m (fz w os).abs ⟨doneF .next,.body b env,c,[topFrame q]⟩)))=λos=>(some (.next,fz w os,.body b env,c),some (good w),some (k w))) (w:World) (os:OsState):
 ∃l,topRun treeTable p w d a (t+(s+M)) (s0 w os) (topStub p)=some l/\look p w f (some l)=some (good w)/\look p w g (some l)=some (k w):=by
 obtain⟨v,n,u⟩:_/\_/\_:=by simpa only[Ac9] using Aj9 (x w) os
 cases e:topRun treeTable p w d a m (fz w os).abs ⟨doneF .next,.body b env,c,[topFrame q]⟩ with
 |none=>rw[e]at n;cases n
 |some l=>
   rw[e]at n u;refine⟨l,first (Aj9 (pre w) os) (Aj9 (N9 w) os) (ch w os l ?_),n,u⟩
   have:=UM (l2:=[]) v (piece_nil e)
   rw[Zm]at this;exact this
def run1{Jx:World->OsState->Shared}{MQ Jw fz:World->OsState->SharedT}{good:World->W}
 (pre:∀w:World,(λos=>topGo treeTable p w i a o (s0 w os) (topStub p))=λos=>some (Jx w os,⟨denote treeTable (.body b env),.body b env,h,[topFrame q]⟩))
 (N9:∀w:World,(λos=>segRun treeTable p w i a 1 n (Jx w os) (blockOf b env (.body b env) h [topFrame q]))=λos=>some (.next,(MQ w os).abs,.body b env,g))
 (ch:∀(w:World) (os:OsState) (r:Shared),topRun treeTable p w i a (m+l) (Jw w os).abs (restOf bf env (.body b env) d [topFrame q])=some r->topRun treeTable p w i a M (MQ w os).abs (restOf b env (.body b env) g [topFrame q])=some r)
 (t:∀w:World,(λos=>(segRunT treeTable p w i a 1 m (Jw w os) (piecesOf bf env (.body b env) d [topFrame q]),look p w f (topRun treeTable p w i a l (fz w os).abs ⟨doneF .next,.body b env,c,[topFrame q]⟩)))=λos=>(some (.next,fz w os,.body b env,c),some (good w))) (w:World) (os:OsState):
 ∃j,topRun treeTable p w i a (o+(n+M)) (s0 w os) (topStub p)=some j/\look p w f (some j)=some (good w):=by
 obtain⟨s,k⟩:_/\_:=by simpa only[Ac9] using Aj9 (t w) os
 cases e:topRun treeTable p w i a l (fz w os).abs ⟨doneF .next,.body b env,c,[topFrame q]⟩ with
 |none=>rw[e]at k;cases k
 |some j=>
   rw[e]at k;refine⟨j,first (Aj9 (pre w) os) (Aj9 (N9 w) os) (ch w os j ?_),k⟩
   have:=UM (l2:=[]) s (piece_nil e)
   rw[Zm]at this;exact this
end HS
set_option maxHeartbeats 4000000
namespace K18
open PySem PySem.W PyProof.Rows
def hd0(h:PySem.Challenge.rw_heraldways_k18_whole_calm_is_settled.row.wellSaid=true->PySem.Challenge.rw_heraldways_k18_whole_calm_is_settled.row.Holds):PySem.Challenge.rw_heraldways_k18_whole_calm_is_settled.Holds:=by
 w_on;o_law;exact h (by assumption)
abbrev qP(p:Program):Program:=view p [0,2,3,4,5,6,7,9,10,11,12,14,15,16,17,18,19,21,22,24,26,27,28,29,30,31,32,33,34,35,36,37,38,39,40]
def Yx:List Addr:=List.range 521
def TL:List Str := "Guild"::"Post"::"_law_cell_at"::"_law_fond_by"::"_law_key"::"_law_road_by"::"_law_shy_by"::"_law_ties"::"_law_ways_by"::"_law_whole"::"best_road"::"copied"::"require_within"::"_law_best"::"_law_dear_by"::"_law_same_road"::"may_take"::"require_told_houses"::"walk"::"_law_guild_by"::"standing"::"choice_among"::"first_unsettled"::"_law_calm_good"::"_law_deed_done"::"law"::"SEAT"::"MOST_HOUSES"::"len"::"range"::"min"::"max"::"set"::"list"::"tuple"::"isinstance"::"bool"::"int"::"any" :: []
def TM:List (Addr×Str):=(240,"__init__")::(240,"houses_paired")::(240,"shuns_one_of")::(240,"size")::(412,"first_of_line")::(412,"forget")::(412,"write_road")::(240,"require_houses")::(412,"table")::(412,"waiting")::(240,"like")::(240,"liking")::(240,"neighbours")::(240,"require_long_road")::(240,"require_two_houses")::(240,"twin")::(412,"road")::(240,"lay_way")::(240,"lift_way")::(240,"rank_of")::(240,"shun")::(240,"wish")::(412,"write_to_all")::(412,"__init__")::(412,"choose_anew")::(412,"rise")::(412,"fall")::(412,"hear")::(412,"carry")::(412,"carry_next")::(412,"settle")::(240,"__setattr__")::(412,"__setattr__")::(240,"house_count")::(240,"ways")::(240,"likings")::(240,"shuns")::(240,"wish_ranks")::(412,"guild")::(412,"roads")::(412,"told_last")::(412,"written_last")::(412,"letters")::(412,"standings")::[]
def TU:List Addr:=[115,204,216,122,374,402,381,223,313,325,157,164,129,237,230,211,308,143,150,199,171,185,388,301,409,367,360,395,339,346,353]
def TX:List Addr:=[240,412]
def TW:List (Addr×Str):=(115,"Guild.__init__")::(204,"Guild.houses_paired")::(216,"Guild.shuns_one_of")::(122,"Guild.size")::(374,"Post.first_of_line")::(402,"Post.forget")::(381,"Post.write_road")::(430,"_law_cell_at")::(475,"_law_fond_by")::(456,"_law_key")::(449,"_law_road_by")::(489,"_law_shy_by")::(501,"_law_ties")::(468,"_law_ways_by")::(437,"_law_whole")::(282,"best_road")::(289,"copied")::(101,"require_within")::(223,"Guild.require_houses")::(313,"Post.table")::(325,"Post.waiting")::(461,"_law_best")::(482,"_law_dear_by")::(444,"_law_same_road")::(275,"may_take")::(263,"require_told_houses")::(157,"Guild.like")::(164,"Guild.liking")::(129,"Guild.neighbours")::(237,"Guild.require_long_road")::(230,"Guild.require_two_houses")::(211,"Guild.twin")::(308,"Post.road")::(423,"walk")::(143,"Guild.lay_way")::(150,"Guild.lift_way")::(199,"Guild.rank_of")::(171,"Guild.shun")::(185,"Guild.wish")::(388,"Post.write_to_all")::(301,"Post.__init__")::(409,"Post.choose_anew")::(367,"Post.rise")::(496,"_law_guild_by")::(256,"standing")::(360,"Post.fall")::(395,"Post.hear")::(268,"choice_among")::(339,"Post.carry")::(249,"first_unsettled")::(346,"Post.carry_next")::(513,"_law_calm_good")::(508,"_law_deed_done")::(353,"Post.settle")::(520,"law")::[]
def TV:List Addr:=[]
def TQ:List (Addr×Value):=[]
abbrev rf(n:Nat):Option (Option Value):=some (some (.ref n))
def TD(p:Program):HD.Ob:=(rf 240::rf 412::rf 430::rf 475::rf 456::rf 449::rf 489::rf 501::rf 468::rf 437::rf 282::rf 289::rf 101::rf 461::rf 482::rf 444::rf 275::rf 263::rf 423::rf 496::rf 256::rf 268::rf 249::rf 513::rf 508::rf 520::some (some (.int 0 296))::some (some (.int 60 298))::some none::some none::some none::some none::some none::some none::some none::some none::some none::some none::some none::[],rf 115::rf 204::rf 216::rf 122::rf 374::rf 402::rf 381::rf 223::rf 313::rf 325::rf 157::rf 164::rf 129::rf 237::rf 230::rf 211::rf 308::rf 143::rf 150::rf 199::rf 171::rf 185::rf 388::rf 301::rf 409::rf 367::rf 360::rf 395::rf 339::rf 346::rf 353::some (some (.builtin "object.__setattr__"))::some (some (.builtin "object.__setattr__"))::some none::some none::some none::some none::some none::some none::some none::some none::some none::some none::some none::[],true::true::true::true::true::true::true::true::true::true::true::true::true::true::true::true::true::true::true::true::true::true::true::true::true::true::true::true::true::true::true::true::true::[],HD.fnE "__init__" "Guild.__init__" (HD.iC (HD.top p 12) 0)::HD.fnE "houses_paired" "Guild.houses_paired" (HD.iC (HD.top p 12) 13)::HD.fnE "shuns_one_of" "Guild.shuns_one_of" (HD.iC (HD.top p 12) 15)::HD.fnE "size" "Guild.size" (HD.iC (HD.top p 12) 1)::HD.fnE "first_of_line" "Post.first_of_line" (HD.iC (HD.top p 22) 11)::HD.fnE "forget" "Post.forget" (HD.iC (HD.top p 22) 15)::HD.fnE "write_road" "Post.write_road" (HD.iC (HD.top p 22) 12)::HD.fnE "_law_cell_at" "_law_cell_at" (HD.top p 26)::HD.fnE "_law_fond_by" "_law_fond_by" (HD.top p 33)::HD.fnE "_law_key" "_law_key" (HD.top p 30)::HD.fnE "_law_road_by" "_law_road_by" (HD.top p 29)::HD.fnE "_law_shy_by" "_law_shy_by" (HD.top p 35)::HD.fnE "_law_ties" "_law_ties" (HD.top p 37)::HD.fnE "_law_ways_by" "_law_ways_by" (HD.top p 32)::HD.fnE "_law_whole" "_law_whole" (HD.top p 27)::HD.fnE "best_road" "best_road" (HD.top p 19)::HD.fnE "copied" "copied" (HD.top p 21)::HD.fnE "require_within" "require_within" (HD.top p 11)::HD.fnE "require_houses" "Guild.require_houses" (HD.iC (HD.top p 12) 16)::HD.fnE "table" "Post.table" (HD.iC (HD.top p 22) 2)::HD.fnE "waiting" "Post.waiting" (HD.iC (HD.top p 22) 4)::HD.fnE "_law_best" "_law_best" (HD.top p 31)::HD.fnE "_law_dear_by" "_law_dear_by" (HD.top p 34)::HD.fnE "_law_same_road" "_law_same_road" (HD.top p 28)::HD.fnE "may_take" "may_take" (HD.top p 18)::HD.fnE "require_told_houses" "require_told_houses" (HD.top p 16)::HD.fnE "like" "Guild.like" (HD.iC (HD.top p 12) 6)::HD.fnE "liking" "Guild.liking" (HD.iC (HD.top p 12) 7)::HD.fnE "neighbours" "Guild.neighbours" (HD.iC (HD.top p 12) 2)::HD.fnE "require_long_road" "Guild.require_long_road" (HD.iC (HD.top p 12) 18)::HD.fnE "require_two_houses" "Guild.require_two_houses" (HD.iC (HD.top p 12) 17)::HD.fnE "twin" "Guild.twin" (HD.iC (HD.top p 12) 14)::HD.fnE "road" "Post.road" (HD.iC (HD.top p 22) 1)::HD.fnE "walk" "walk" (HD.top p 24)::HD.fnE "lay_way" "Guild.lay_way" (HD.iC (HD.top p 12) 4)::HD.fnE "lift_way" "Guild.lift_way" (HD.iC (HD.top p 12) 5)::HD.fnE "rank_of" "Guild.rank_of" (HD.iC (HD.top p 12) 12)::HD.fnE "shun" "Guild.shun" (HD.iC (HD.top p 12) 8)::HD.fnE "wish" "Guild.wish" (HD.iC (HD.top p 12) 10)::HD.fnE "write_to_all" "Post.write_to_all" (HD.iC (HD.top p 22) 13)::HD.fnE "__init__" "Post.__init__" (HD.iC (HD.top p 22) 0)::HD.fnE "choose_anew" "Post.choose_anew" (HD.iC (HD.top p 22) 16)::HD.fnE "rise" "Post.rise" (HD.iC (HD.top p 22) 10)::HD.fnE "_law_guild_by" "_law_guild_by" (HD.top p 36)::HD.fnE "standing" "standing" (HD.top p 15)::HD.fnE "fall" "Post.fall" (HD.iC (HD.top p 22) 9)::HD.fnE "hear" "Post.hear" (HD.iC (HD.top p 22) 14)::HD.fnE "choice_among" "choice_among" (HD.top p 17)::HD.fnE "carry" "Post.carry" (HD.iC (HD.top p 22) 6)::HD.fnE "first_unsettled" "first_unsettled" (HD.top p 14)::HD.fnE "carry_next" "Post.carry_next" (HD.iC (HD.top p 22) 7)::HD.fnE "_law_calm_good" "_law_calm_good" (HD.top p 39)::HD.fnE "_law_deed_done" "_law_deed_done" (HD.top p 38)::HD.fnE "settle" "Post.settle" (HD.iC (HD.top p 22) 8)::HD.fnE "law" "law" (HD.top p 40)::[],[],[])
open_shared sh for PySem.Challenge.pw_heraldways_k18_whole_calm_is_settled leaving 33
noncomputable section
noncomputable abbrev pg:Program:=PySem.Challenge.pw_heraldways_k18_whole_calm_is_settled
noncomputable abbrev bd:List Stmt:=behindTheImports pg
noncomputable abbrev cE:Code:=.body bd sh.env_1
noncomputable abbrev BB:List Frame:=[topFrame ⟨0,0,0,0⟩]
abbrev nK:Nat:=2343+2
noncomputable def Jx(w:World)(os:OsState):Shared:=HS.mid (HS.s0 w os) (topGo treeTable pg w 11 (some (.ref 6)) 12 (HS.s0 w os) (topStub pg))
noncomputable abbrev MQ(w:World)(os:OsState):SharedT:=({tree:=sh.tree_4 w.params,n:=15,life:={},gens:={toList:=[]},drawn:={},toks:=187,os:=os}:SharedT)
noncomputable abbrev Jw(w:World)(os:OsState):SharedT:=({tree:=sh.tree_106 w.params,n:=95,life:={},gens:={toList:=[]},drawn:={},toks:=294,os:=os}:SharedT)
def pre(w:World):(λos=>topGo treeTable pg w 11 (some (.ref 6)) 12 (HS.s0 w os) (topStub pg))=λos=>some (Jx w os,⟨denote treeTable cE,cE,⟨0,0,0,0⟩,BB⟩):=by
 unfold Jx cE bd pg;rw[Fast.te14364793385576792824,Fast.te3952594815342030821]
 kernel_rfl
def N9(w:World):(λos=>segRun treeTable pg w 11 (some (.ref 6)) 1 1 (Jx w os) (blockOf bd sh.env_1 cE ⟨0,0,0,0⟩ BB))=λos=>some (.next,(MQ w os).abs,cE,⟨0,0,0,0⟩):=by
 unfold Jx cE bd pg;rw[Fast.te14364793385576792824,Fast.te3952594815342030821]
 kernel_rfl
def bdE:sh.sts_4++(sh.sts_28++(sh.sts_44++(sh.sts_60++(sh.sts_76++(sh.sts_92++bd.drop 8)))))=bd:=by
 unfold bd pg;rw[Fast.te3952594815342030821]
 kernel_rfl
def chn(w:World)(os:OsState)(r:Shared)(h:topRun treeTable pg w 11 (some (.ref 6)) nK (Jw w os).abs (restOf (bd.drop 8) sh.env_1 cE ⟨15,0,16,8⟩ BB)=some r):topRun treeTable pg w 11 (some (.ref 6)) (Nat.add 225 (Nat.add 214 (Nat.add 214 (Nat.add 214 (Nat.add 214 (Nat.add 214 nK)))))) (MQ w os).abs (restOf bd sh.env_1 cE ⟨0,0,0,0⟩ BB)=some r:=by
 have h:=sh.chain pg bd w os (bd.drop 8) nK r h;rw[bdE]at h;exact h
noncomputable def fz(w:World)(os:OsState):SharedT:=HS.lz (Jw w os) (segRunT treeTable pg w 11 (some (.ref 6)) 1 2343 (Jw w os) (piecesOf (bd.drop 8) sh.env_1 cE ⟨15,0,16,8⟩ BB))
noncomputable abbrev gQ{W:Type}(f:Shared->W)(g:W):Prop:=∀w:World,(λos=>(segRunT treeTable pg w 11 (some (.ref 6)) 1 2343 (Jw w os) (piecesOf (bd.drop 8) sh.env_1 cE ⟨15,0,16,8⟩ BB),HS.look pg w f (topRun treeTable pg w 11 (some (.ref 6)) 2 (fz w os).abs ⟨doneF .next,cE,⟨382,0,395,76⟩,BB⟩)))=λos=>(some (.next,fz w os,cE,⟨382,0,395,76⟩),some g)
def gZ1:gQ (openSeen (qP pg) [] (importedModules pg.main.body) (λs=>xlAt (qP pg) [] s&&recOk (RowW.records PySem.Challenge.rw_heraldways_k18_whole_calm_is_settled.row.toRowW) s) true) (openGood (qP pg) []):=by
 intro w;unfold fz cE bd pg;rw[Fast.te10110043849684766642,Fast.te14082659384304107361,Fast.te14364793385576792824,Fast.te4187177175401517315,Fast.te5923862056798008813,Fast.te3952594815342030821]
 kernel_rfl
def gZ2:gQ (HD.ob Yx TL TM TU TX TW TV TQ) (TD pg):=by
 intro w;unfold fz cE bd pg;rw[Fast.te10110043849684766642,Fast.te14082659384304107361,Fast.te14364793385576792824,Fast.te3952594815342030821]
 kernel_rfl
def opn(w:World):(fencedOpening treeTable pg w 7388).map (λs=>(s.heap,s.gens,s.drawn,s.toks))=some (boot_heap w.params,Array.mk [],boot_drawn,boot_toks):=by
 unfold pg;rw[Fast.te14364793385576792824,Fast.te3952594815342030821]
 kernel_rfl
def siz(w:World):((boot_heap w.params).isNs mainGlobals && (Array.mk []:Array GenState).size == 0,(boot_heap w.params).objs.size,(boot_heap w.params).nsMap mainGlobals "__annotations__")=(true,11,(some (.ref 6))):=by
 kernel_rfl
def Wl(w:World):(openEnds treeTable PySem.Challenge.pw_heraldways_k18_whole_calm_is_settled w 7388).map (openSeen (qP PySem.Challenge.pw_heraldways_k18_whole_calm_is_settled) [] (importedModules PySem.Challenge.pw_heraldways_k18_whole_calm_is_settled.main.body) (λs=>xlAt (qP PySem.Challenge.pw_heraldways_k18_whole_calm_is_settled) [] s&&recOk (RowW.records PySem.Challenge.rw_heraldways_k18_whole_calm_is_settled.row.toRowW) s) true)=some (openGood (qP PySem.Challenge.pw_heraldways_k18_whole_calm_is_settled) []):=HS.ends (good:=λ_=>_) opn siz (HS.run1 pre N9 chn gZ1) (by decide +kernel) w
def Wk(w:World):(openEnds treeTable PySem.Challenge.pw_heraldways_k18_whole_calm_is_settled w 7388).map (HD.ob Yx TL TM TU TX TW TV TQ)=some (TD PySem.Challenge.pw_heraldways_k18_whole_calm_is_settled):=HS.ends (good:=λ_=>_) opn siz (HS.run1 pre N9 chn gZ2) (by decide +kernel) w
end
end K18
namespace L2
open PySem PySem.Spec PyProof.Rows
abbrev aH:=Sum Int Str
def rZ:aH->Value->Bool
 |.inl k,v=>Value.isInt k v
 |.inr x,v=>Value.isStrOf x v
def Wn(w:World):aH->Int
 |.inl k=>hashInt k
 |.inr x=>hashStr w x
def bM:∀{k:aH} {v:Value},rZ k v=true->(∃i t,k=Sum.inl i/\v=Value.int i t)\/(∃x t,k=Sum.inr x/\v=Value.str x t)
 | .inl i,v,h=>by
   obtain⟨t,e⟩:=Value.isInt_shape (k:=i) (v:=v) h;exact .inl ⟨i,t,rfl,e⟩
 | .inr x,v,h=>by
   obtain⟨t,e⟩:=Value.isStrOf_shape (x:=x) (v:=v) h;exact .inr ⟨x,t,rfl,e⟩
def C4(i:Int)(t:Tok):rZ (.inl i) (.int i t)=true:=by simp[rZ,Value.isInt]
def C3(x:Str)(t:Tok):rZ (.inr x) (.str x t)=true:=by simp[rZ,Value.isStrOf]
def RP(a b:Int):decide ((Sum.inl a:aH)=Sum.inl b)=(a==b):=by
 by_cases e:a=b
 ·subst e;simp
 ·have h:¬ (Sum.inl a:aH)=Sum.inl b:=λq=>e (Ag1 q);rw[Zc h];exact(Zp.mpr e).symm
def RM(a b:Str):decide ((Sum.inr a:aH)=Sum.inr b)=decide (a=b):=by
 by_cases e:a=b
 ·subst e;simp
 ·have h:¬ (Sum.inr a:aH)=Sum.inr b:=λq=>e (Sum.inr.inj q);rw[Zc h,Zc e]
def RO(a:Int)(b:Str):decide ((Sum.inl a:aH)=Sum.inr b)=false:=Zc (λq=>nomatch q)
def RN(a:Str)(b:Int):decide ((Sum.inr a:aH)=Sum.inl b)=false:=Zc (λq=>nomatch q)
def au(prog:Program)(w:World):PySem.KeyKind prog w aH where
 is:=rZ
 hash:=Wn w
 inj:=λv a b g d=>by
  rcases bM g with ⟨i,t,rfl,rfl⟩|⟨x,t,rfl,rfl⟩
  · rcases bM d with ⟨j,u,rfl,e⟩|⟨y,u,rfl,e⟩
    ·injection e with e1 _;rw[e1]
    ·exact nomatch e
  · rcases bM d with ⟨j,u,rfl,e⟩|⟨y,u,rfl,e⟩
    ·exact nomatch e
    ·injection e with e1 _;rw[e1]
 byValue:=λk v h=>by
  rcases bM h with ⟨i,t,rfl,rfl⟩|⟨x,t,rfl,rfl⟩<;>rfl
 pyHash:=λc h=>by
  rcases bM c with ⟨i,t,rfl,rfl⟩|⟨x,t,rfl,rfl⟩
  ·exact wpAny_pyHash_int h
  ·exact wpAny_pyHash_str h
 eqBool:=λf c h=>by
  rcases bM f with ⟨i,t,rfl,rfl⟩|⟨x,t,rfl,rfl⟩
  · rcases bM c with ⟨j,u,rfl,rfl⟩|⟨y,u,rfl,rfl⟩
    ·rw[RP]at h;exact wpAny_eqBool_int h
    ·rw[RO]at h;exact SeqAt.EqAt.int_str i t y u _ _ _ _ h
  · rcases bM c with ⟨j,u,rfl,rfl⟩|⟨y,u,rfl,rfl⟩
    ·rw[RN]at h;exact SeqAt.EqAt.str_int x t j u _ _ _ _ h
    ·rw[RM]at h;exact wpAny_eqBool_str h
 «strs»:=λk x t v h=>by
  rcases bM h with ⟨i,u,rfl,e⟩|⟨y,u,rfl,e⟩
  ·exact nomatch e
  · injection e with e1 _
    subst e1;cases v<;>rfl
def vD(prog:Program)(w:World)(i:Int)(t:Tok):(au prog w).is (.inl i) (.int i t)=true:=C4 i t
def vB(prog:Program)(w:World)(x:Str)(t:Tok):(au prog w).is (.inr x) (.str x t)=true:=C3 x t
inductive V where
 |non|bl (b:Bool)|int (i:Int)|str (x:Str)|byt (b:Array UInt8)|flt (b:UInt64)|ref (a:Addr)|ty (n:String)
 deriving DecidableEq
def RelV:V->Value->Prop
 |.non,u=>u=Value.none
 |.bl b,u=>u=Value.bool b
 |.int i,u=>∃t,u=Value.int i t
 |.str x,u=>∃t,u=Value.str x t
 |.byt b,u=>∃t,u=Value.bytes b t
 |.flt b,u=>∃t,u=Value.float b t
 |.ref a,u=>u=Value.ref a
 |.ty n,u=>u=Value.type n
abbrev Vals:List V->List Value->Prop:=Paired RelV
def Vals.length{xs:List V}{us:List Value}(r:Vals xs us):xs.length=us.length:=ZU r
def Vals.get:∀{xs:List V} {us:List Value} {i:Nat} {x:V},Vals xs us->xs[i]?=some x->∃u,us[i]?=some u/\RelV x u
 |_,_,_,_,.nil,e=>by simp at e
 |_,_,0,_,.cons r _,e=>by simp at e;subst e;exact⟨_,rfl,r⟩
 | _,_,i+1,x,.cons _ t,e=>by
   obtain⟨u,b,a⟩:=Vals.get (i:=i) (x:=x) t (by simpa using e);exact⟨u,by simpa using b,a⟩
def Vals.set(r:RelV x u):∀{xs:List V} {us:List Value} (i:Nat),Vals xs us->Vals (xs.set i x) (us.set i u)
 |_,_,_,.nil=>.nil
 |_,_,0,.cons _ t=>.cons r t
 |_,_,i+1,.cons q t=>.cons q (Vals.set r i t)
def Vals.append:∀{xs a:List V} {us b:List Value},Vals xs us->Vals a b->Vals (xs++a) (us++b)
 |_,_,_,_,.nil,s=>s
 |_,_,_,_,.cons r t,s=>.cons r (Vals.append t s)
def Vals.take:∀{xs:List V} {us:List Value} (n:Nat),Vals xs us->Vals (xs.take n) (us.take n)
 |_,_,0,_=>.nil
 |_,_,_+1,.nil=>.nil
 |_,_,n+1,.cons r t=>.cons r (Vals.take n t)
def Vals.drop:∀{xs:List V} {us:List Value} (n:Nat),Vals xs us->Vals (xs.drop n) (us.drop n)
 |_,_,0,r=>r
 |_,_,_+1,.nil=>.nil
 |_,_,n+1,.cons _ t=>Vals.drop n t
def RelO:Option V->Option Value->Prop
 |some v,some u=>RelV v u
 |none,none=>True
 |_,_=>False
def KV{W:Type}:List (W×V)->List (W×Value)->Prop:=Paired λ(p:W×V) (q:W×Value)=>p.1=q.1/\RelV p.2 q.2
def kV:aH->V
 |.inl i=>.int i
 |.inr x=>.str x
inductive HO where
 /-- a list -/
 |lst (xs:List V)
 /-- a tuple (never changes) -/
 |tup (xs:List V)
 /-- a dict whose keys are ints and texts;one whose keys are tuples of ints and texts (the empty one is both) -/
 |dK (kvs:List (aH×V))|dT (kvs:List (List aH×V))
 /-- a set of ints: its members,its size -/
 |set (S:Int->Bool) (n:Nat)
 /-- an instance of the class at C,its dict at dx,its attributes -/
 |ins (C dx:Addr) (fs:List (Str×V))
 /-- the dict of the instance at x -/
 |own (x:Addr)
 /-- the dict of an exception -/
 |xd (fs:List (Str×V))
 /-- a bound method,f of x -/
 |met (f x:Addr)
 /-- a range object lo,lo+1,.. below hi -/
 |rng (lo hi:Int)
 /-- a thing that is known to the object (the script;a dict while a loop walks it): read,never written while it is so -/
 |frz (o:Obj) (u:HO)
 /-- a code object's table: at each of these places nothing,or a code of that name -/
 |tbl (l:List (Pos×Str))
 /-- any other thing,by what is true of its one object (a def of one's own: SetO a S n:=HO.ext λh=> ..) -/
 |ext (φ:Heap->Prop)
abbrev Hp:=Addr->Option HO
def upd(H:Hp)(a:Addr)(o:HO):Hp:=λb=>if b=a then some o else H b
def ay:upd H a o a=some o:=by unfold upd;rw[if_pos rfl]
def aq{H:Hp}(h:b≠a):upd H a o b=H b:=by unfold upd;rw[if_neg h]
def FS{H:Hp}(h:H a=some o)(h':H b=some u)(d:o≠u):a≠b:=by
 intro e;subst e;rw[h]at h';exact d (Y6 h')
def aT{H:Hp}(h:H a=some o)(h':H b=none):a≠b:=by
 intro e;subst e;rw[h]at h';cases h'
section
variable(P:Program)(w:World)
def ObjOk(H:Hp)(h:Heap)(a:Addr):HO->Prop
 |.lst xs=>xs.length<=sizeLine/\∃(its:List Value) (n:Nat),Vals xs its/\h.get? a=some {cls:=.type "list",data:=.seq its.toArray n}
 |.tup xs=>xs.length<=sizeLine/\∃its:List Value,Vals xs its/\IsTup h a its.toArray
 |.dK kvs=>kvs.length<=sizeLine/\(a==sysModules)=false/\∃vs,KV kvs vs/\h.DictOf (au P w) a vs
 | .dT kvs=>kvs.length<=sizeLine/\(a==sysModules)=false/\∃xs:List (List aH×Addr×Value),
    Paired (λ(p:List aH×V) (q:List aH×Addr×Value)=>p.1=q.1/\H q.2.1=some (.tup (p.1.map kV))/\RelV p.2 q.2.2) kvs xs/\
    ∃o i ep,h.get? a=some o/\o.ExactDict/\o.data=.dict i ep/\i.toList=xs.map (entryOfKey (tupleKind (au P w)))/\(xs.map (·.1)).Nodup
 |.set S n=>h.SetOf (intKind P w) a S n
 | .ins C dx fs=>H dx=some (.own a)/\fs.length<=1000/\dx≠a/\h.get? a=some (PySem.W.instObj C dx)/\
    ∃b,h.Ns1 dx b/\(∀f,RelO (fs.lookup f) (b f))/\PySem.Within b (fs.map (·.1))
 |.own _=>∃o,h.get? a=some o
 |.xd fs=>∃b,h.Ns1 a b/\∀f,RelO (fs.lookup f) (b f)
 |.rng lo hi=>∃t u v,h.get? a=some {cls:=.type "range",data:=.fields #[.int lo t,.int hi u,.int 1 v]}
 |.frz o u=>h.get? a=some o/\ObjOk H h a u
 |.tbl l=>(∀y∈l,∀z∈l,y.1.line=z.1.line->y.1.col=z.1.col->y.2=z.2)/\∃ps:Array Value,h.get? a=some {cls:=.none,data:=.fields ps}/\TriplesOk ps.toList/\∀x∈l,codeAmong x.1 ps.toList=none\/∃c,codeAmong x.1 ps.toList=some (.ref c)/\H c=some (.own a)/\h.CodeRec (.ref c) x.2
 |.met f x=>h.get? a=some (PySem.W.methodObj (.ref f) (.ref x))
 |.ext d=>d h/\(∃o,h.get? a=some o)/\∀g e:Heap,d g->(∀o,g.get? a=some o->e.get? a=some o)->d e
def HOk(H:Hp)(h:Heap):Prop:=∀a o,H a=some o->ObjOk P w H h a o
end
section
variable{P:Program}{w:World}{H H':Hp}{h h':Heap}{a:Addr}{o:HO}
def ObjOk.lt(x:ObjOk P w H h a o):a<h.objs.size:=by
 cases o with
 |lst xs=>obtain⟨_,_,_,_,e⟩:=x;exact YV e
 |tup xs=>obtain⟨_,_,_,p⟩:=x;exact p.lt
 |dK kvs=>obtain⟨_,_,_,_,o,_,_,e,_⟩:=x;exact YV e
 |dT kvs=>obtain⟨_,_,_,_,o,_,_,e,_⟩:=x;exact YV e
 |set S n=>obtain⟨o,_,_,_,e,_⟩:=x;exact YV e
 |ins C dx fs=>obtain⟨_,_,_,e,_⟩:=x;exact YV e
 |own y=>obtain⟨_,e⟩:=x;exact YV e
 |xd fs=>obtain⟨_,⟨_,_,_,e,_⟩,_⟩:=x;exact YV e
 |rng lo hi=>obtain⟨_,_,_,e⟩:=x;exact YV e
 |frz ob u=>obtain⟨e,_⟩:=x;exact YV e
 |tbl l=>obtain⟨_,_,e,_⟩:=x;exact YV e
 |met f y=>exact YV (show h.get? a=some _ from x)
 |ext b=>obtain⟨_,⟨_,e⟩,_⟩:=x;exact YV e
def Paired.mapP{X:Type}{F G:W->X->Prop}:∀{d:List W} {c:List X},Paired F d c->(∀a b,F a b->G a b)->Paired G d c
 |_,_,.nil,_=>.nil
 |_,_,.cons r t,f=>.cons (f _ _ r) (Paired.mapP t f)
def ObjOk.stay(x:ObjOk P w H h a o)(k:∀b u,(b=a\/H b=some (.own a))->h.get? b=some u->h'.get? b=some u)
 (s:∀b,H b=some (.own a)->H' b=some (.own a)) (F:∀b xs,H b=some (.tup xs)->H' b=some (.tup xs)):ObjOk P w H' h' a o:=by
 induction o with
 |lst xs=>obtain⟨z,its,n,r,e⟩:=x;exact⟨z,its,n,r,k _ _ (.inl rfl) e⟩
 |tup xs=>obtain⟨z,its,r,ob,e,c⟩:=x;exact⟨z,its,r,ob,k _ _ (.inl rfl) e,c⟩
 |dK kvs=>obtain⟨z,y,vs,r,ob,i,ep,e,c⟩:=x;exact⟨z,y,vs,r,ob,i,ep,k _ _ (.inl rfl) e,c⟩
 |dT kvs=>
   obtain⟨z,y,xs,r,ob,i,ep,e,c⟩:=x;exact⟨z,y,xs,Paired.mapP r λp q z=>⟨z.1,F _ _ z.2.1,z.2.2⟩,ob,i,ep,k _ _ (.inl rfl) e,c⟩
 |set S n=>obtain⟨ob,i,ep,t,e,c⟩:=x;exact⟨ob,i,ep,t,k _ _ (.inl rfl) e,c⟩
 |ins C dx fs=>
   obtain⟨d,z,ne,e,m,⟨j,i,ep,I,c⟩,r⟩:=x;exact⟨s _ d,z,ne,k _ _ (.inl rfl) e,m,⟨j,i,ep,k _ _ (.inr d) I,c⟩,r⟩
 |own y=>obtain⟨ob,e⟩:=x;exact⟨ob,k _ _ (.inl rfl) e⟩
 |xd fs=>obtain⟨m,⟨j,i,ep,e,c⟩,r⟩:=x;exact⟨m,⟨j,i,ep,k _ _ (.inl rfl) e,c⟩,r⟩
 |rng lo hi=>obtain⟨t,u,v,e⟩:=x;exact⟨t,u,v,k _ _ (.inl rfl) e⟩
 |frz ob u D=>obtain⟨e,q⟩:=x;exact⟨k _ _ (.inl rfl) e,D q⟩
 |tbl l=>
   obtain⟨J,ps,e,t,q⟩:=x;refine⟨J,ps,k _ _ (.inl rfl) e,t,λy E=>?_⟩;rcases q y E with z|⟨c,z,A,⟨L,o,vs,B,G,g,r⟩⟩
   ·exact .inl z
   ·cases G;exact .inr ⟨c,z,s _ A,⟨c,o,vs,B,rfl,k _ _ (.inr A) g,r⟩⟩
 |met f y=>
   have e:h.get? a=some (PySem.W.methodObj (.ref f) (.ref y)):=x;show h'.get? a=some (PySem.W.methodObj (.ref f) (.ref y));exact k a _ (.inl rfl) e
 |ext K=>obtain⟨p,⟨o,e⟩,st⟩:=x;exact⟨st _ _ p λo q=>k _ _ (.inl rfl) q,⟨o,k _ _ (.inl rfl) e⟩,st⟩
def HOk.lt(x:HOk P w H h)(e:H a=some o):a<h.objs.size:=(x a o e).lt
def HOk.fresh(x:HOk P w H h)(e:h.objs.size<=a):H a=none:=by
 cases q:H a with
 |none=>rfl
 |some u=>exact absurd (Zd (x.lt q) e) (ZG _)
def HOk.kept(x:HOk P w H h)(k:∀b u,h.get? b=some u->h'.get? b=some u):HOk P w H h':=λa o e=>
 (x a o e).stay (λb u _ q=>k b u q) (λ_ q=>q) λ_ _ q=>q
def HOk.laid(x:HOk P w H h)(k:∀b u,h.get? b=some u->h'.get? b=some u)(hp:h.objs.size<=a)(new:ObjOk P w (upd H a o) h' a o):HOk P w (upd H a o) h':=λb u e=>by
 have d:=x.fresh hp;by_cases f:b=a
 ·subst f;rw[ay]at e;cases e;exact new
 ·rw[aq f]at e;exact(x b u e).stay (λc v _ q=>k c v q) (λc q=>by rw[aq (aT q d)];exact q) λc xs q=>by rw[aq (aT q d)];exact q
end
def Rd(H:Hp)(a:Addr)(u:HO):Prop:=H a=some u\/∃o,H a=some (.frz o u)
def Rd.ok(r:Rd H a u)(x:HOk P w H h):ObjOk P w H h a u:=by
 rcases r with r|⟨o,r⟩
 ·exact x a u r
 ·obtain⟨_,q⟩:=x a _ r;exact q
def Xl:Option HO->Prop
 |some (.lst _)=>True
 |some (.dK _)=>True
 |some (.dT _)=>True
 |some (.set _ _)=>True
 |some (.ins _ _ _)=>True
 |some (.ext _)=>True
 |_=>False
section
variable{P:Program}{w:World}{H:Hp}{h h':Heap}{x e:Addr}{o':HO}
def HOk.write(ok:HOk P w H h)(g:Xl (H x))(n:e=x\/H e=some (.own x))(k:∀b u,b≠e->h.get? b=some u->h'.get? b=some u)(l:∃u,h'.get? e=some u)
 (new:ObjOk P w (upd H x o') h' x o'):HOk P w (upd H x o') h':=λb u q=>by
 have d:∀c y,H c=some (.own y)->c≠x:=λc y r z=>by subst z;rw[r]at g;exact g
 have f:∀c xs,H c=some (.tup xs)->c≠x:=λc xs r z=>by subst z;rw[r]at g;exact g
 by_cases j:b=x
 ·subst j;rw[ay]at q;cases q;exact new
 · rw[aq j]at q;by_cases a:b=e
   · have m:H b=some (.own x):=by
      rcases n with z|z
      ·exact absurd (a.trans z) j
      ·rw[a];exact z
     rw[q]at m;cases m;obtain⟨v,o⟩:=l;exact⟨v,by rw[a];exact o⟩
   · refine(ok b u q).stay (λc v i r=>k c v ?_ r) (λc r=>by rw[aq (d c b r)];exact r) λc xs r=>by rw[aq (f c xs r)];exact r
     rcases i with rfl|i
     ·exact a
     · rintro rfl;rcases n with z|z
       ·exact d c b i z
       ·rw[i]at z;cases z;exact j rfl
end
structure Un (fs ex:List Addr) (H H':Hp) (h h':Heap):Prop where
 keep:∀b o,h.get? b=some o->H b=none->b∉fs->b∉ex->h'.get? b=some o
 slot:∀b o,h.get? b=some o->H b=none->b∈fs->b∉ex->∃sl,h'.get? b=some {o with slots:=sl}
 free:∀b o,h.get? b=some o->H b=none->b∉ex->H' b=none
 there:∀b o,h.get? b=some o->b∉ex->∃o',h'.get? b=some o'
 tups:∀b xs,H b=some (.tup xs)->H' b=some (.tup xs)
 frzs:∀b o u,H b=some (.frz o u)->H' b=some (.frz o u)
 tbls:∀b l,H b=some (.tbl l)->H' b=some (.tbl l)/\∀c o,H c=some (.own b)->h.get? c=some o->H' c=some (.own b)/\h'.get? c=some o
section
variable{fs fs' ex ex':List Addr}{H H1 H2:Hp}{h h1 h2 h':Heap}{a x e:Addr}{o:HO}
def Un.any(u:Un fs ex H H1 h h1){ob:Obj}(q:h.get? b=some ob)(n:H b=none)(a:b∉ex):∃d,h1.get? b=some {ob with slots:=d}:=by
 by_cases c:b∈fs
 ·exact u.slot b ob q n c a
 ·exact⟨ob.slots,u.keep b ob q n c a⟩
def Un.kept(k:∀b u,h.get? b=some u->h'.get? b=some u):Un fs ex H H h h':=
 ⟨λb ob q _ _ _=>k b ob q,λb ob q _ _ _=>⟨ob.slots,k b ob q⟩,λ_ _ _ n _=>n,λb ob q _=>⟨ob,k b ob q⟩,λ_ _ q=>q,λ_ _ _ q=>q,λ_ _ q=>⟨q,λc o e1 a=>⟨e1,k c o a⟩⟩⟩
def Un.refl:Un fs ex H H h h:=Un.kept λ_ _ q=>q
def Un.laid(k:∀b u,h.get? b=some u->h'.get? b=some u)(hp:h.objs.size<=a)(d:H a=none):Un fs ex H (upd H a o) h h' where
 keep:=λb u q _ _ _=>k b u q
 slot:=λb u q _ _ _=>⟨u.slots,k b u q⟩
 free:=λb u q n _=>by rw[aq (Zg (Zd (YV q) hp))];exact n
 there:=λb u q _=>⟨u,k b u q⟩
 tups:=λb xs q=>by rw[aq (aT q d)];exact q
 frzs:=λb u xs q=>by rw[aq (aT q d)];exact q
 tbls:=λb xs q=>⟨by rw[aq (aT q d)];exact q,λc o e1 e=>⟨by rw[aq (aT e1 d)];exact e1,k c o e⟩⟩
def Un.write(a:Xl (H x))(j:e=x\/H e=some (.own x))(k:∀b u,b≠e->h.get? b=some u->h'.get? b=some u)(g:∃u,h'.get? e=some u):Un fs ex H (upd H x o) h h':=by
 have i:∀b,H b=none->b≠x:=λb n z=>by subst z;rw[n]at a;exact a
 have l:∀b,H b=none->b≠e:=λb n z=>by
  subst z;rcases j with r|r
  ·exact i b n r
  ·rw[n]at r;cases r
 have d:∀b u,H b=some u->¬ Xl (some u)->b≠x:=λb u q m z=>by subst z;rw[q]at a;exact m a
 refine⟨λb u q n _ _=>k b u (l b n) q,λb u q n _ _=>⟨u.slots,k b u (l b n) q⟩,λb u q n _=>by rw[aq (i b n)];exact n,λb u q _=>?_,
  λb xs q=>by rw[aq (d b _ q λz=>z)];exact q,λb u xs q=>by rw[aq (d b _ q λz=>z)];exact q,λb ps q=>⟨by rw[aq (d b _ q λz=>z)];exact q,λc o e1 p=>⟨by rw[aq (d c _ e1 λz=>z)];exact e1,k c o (λz=>by
   rcases j with r|r
   ·exact d c _ e1 (λz=>z) (z.trans r)
   ·rw[<-z,e1]at r;cases r;rw[q]at a;exact a) p⟩⟩⟩
 by_cases f:b=e
 ·subst f;exact g
 ·exact⟨u,k b u f q⟩
end
def Xn(h:Heap)(H:Hp):List Addr:=(List.range h.objs.size).filter λa=>(H a).isSome
def oE(h:Heap)(H:Hp):Heap:=PySem.W.hideAll h (Xn h H)
def C8(h:Heap)(H:Hp):(oE h H).objs.size=h.objs.size:=PySem.W.hideAll_size _ _
def HL{h:Heap}{H:Hp}(e:h.get? b=some o)(n:H b=none):(oE h H).get? b=some o:=
 PySem.W.hideAll_get _ e λa=>by
  have q:(H b).isSome=true:=(ZA.mp a).2;rw[n]at q;simp at q
def Li{h:Heap}(e:(oE h H).get? b=some o):h.get? b=some o/\H b=none:=by
 have a:h.get? b=some o:=PySem.W.of_hideAll (Xn h H) e;refine⟨a,?_⟩;cases q:H b with
 |none=>rfl
 |some x=>
   have c:b∈Xn h H:=ZA.mpr ⟨Ak0.mpr (YV a),by simp[q]⟩;have z:(oE h H).get? b=none:=PySem.W.hideAll_none (Xn h H) c;rw[z]at e;cases e
def Mt(g h:Heap)(L:Addr):L9:=(List.range h.objs.size).filterMap λa=>if a=L\/(g.get? a).isSome=true then none else (h.get? a).map λo=>(a,o)
def bf(g h:Heap)(L d:Addr):L9:=(Mt g h L).filter λp=>decide (p.1≠d)
structure Mod (K:F0) (mg:Str->Option Value) (base:Heap):Prop where
 kin:K.In base
 glob:base.Ns mainGlobals mg
 blt:∃mb,base.Ns builtinsNs mb/\∀x:Str,x ≠ "__name__" -> mb x=bootBuiltins x
 nolimit:base.NoLimit
 bmod:∃bm o,mg "__builtins__" = some (.ref bm)/\bm≠builtinsNs/\base.get? bm=some o/\o.cls=.type "module" /\ o.dict=some builtinsNs/\o.data=.plain
structure Cx where
 prog:Program
 w:World
 K:F0
 mg:Str->Option Value
 base:Heap
 A:Around
 N:List Str
 s₀:Shared
 H₀:Hp
 env:Env
 outer:List Env
 stack:List Env
 ex:List Addr
 fn:Str->Bool
 calm:Bool
 pn:L9
 xe:Value->Shared->Prop
def yN(l:List Env):List Addr:=l.filterMap (·.frame)
abbrev Cx.fs(X:Cx):List Addr:=yN X.outer
def XD(sc:Scope)(x:Str):Prop:=sc.names.lookup x=some .local\/sc.names.lookup x=some .cell\/sc.names.lookup x=some .free
def Tz(sc:Scope)(x:Str):Prop:=sc.names.lookup x=some .local\/sc.names.lookup x=some .cell
def YC(env:Env)(h:Heap)(m:Str->Option Value)(x:Str)(u:Value):Prop:=
 (env.kindOf x=some .local/\m x=some u)\/((env.kindOf x=some .cell\/env.kindOf x=some .free)/\∃c,env.cells.lookup x=some c/\h.IsCell c (some u))
structure Cx.Ok (X:Cx):Prop where
 mod:Mod X.K X.mg X.base
 kind:X.env.scope.kind=.function
 glob:X.env.globals=mainGlobals
 blt:X.env.builtins=builtinsNs
 above:X.s₀.heap.objs.size<=X.env.locals
 inj:∀x y c,X.env.cells.lookup x=some c->X.env.cells.lookup y=some c->x=y
 has:∀x,(X.env.kindOf x=some .cell\/X.env.kindOf x=some .free)->∃c,X.env.cells.lookup x=some c
 cab:∀x c,X.fn x=true->X.env.cells.lookup x=some c->X.s₀.heap.objs.size<=c
 hd:X.calm=true->X.A.handled=none
 frames:X.A.frames=some X.stack
 stk:X.stack=X.outer\/(X.stack=X.env::X.outer/\X.env.frame=some X.env.locals)
 exf:∀b∈X.ex,b≠X.env.locals/\∀x c,X.env.cells.lookup x=some c->c≠b
 bs:∀b o,X.base.get? b=some o->X.s₀.heap.get? b=some o/\X.H₀ b=none
 bsz:X.base.objs.size<=X.s₀.heap.objs.size
 noex:∀b o,X.base.get? b=some o->b∉X.ex
 exfs:∀b∈X.ex,b∉X.fs
 funs:X.s₀.heap.FunFrames X.base X.outer
 frf:∀b∈X.fs,X.H₀ b=none
structure Inv (X:Cx) (G:L9) (Z:List (Option V)) (H:Hp) (s:Shared):Prop where
 ok:X.Ok
 os:s.os=X.s₀.os
 bare:AllBare s.gens
 base:Un X.fs X.ex X.H₀ H X.s₀.heap s.heap
 loc:∃m,s.heap.Ns X.env.locals m/\∀(i:Nat) (x:Str) (v:V),X.N[i]?=some x->Z[i]?=some (some v)->XD X.env.scope x->∃u,RelV v u/\YC X.env s.heap m x u
 cell:∀x c,X.env.cells.lookup x=some c->∃v,s.heap.IsCell c v
 free:H X.env.locals=none
 freeC:∀x c,X.env.cells.lookup x=some c->H c=none
 pin:∀p∈X.pn++G,s.heap.get? p.1=some p.2/\H p.1=none/\p.1≠X.env.locals/\p.1∉X.fs/\∀v,p.2.data≠ .cell v
 hok:HOk X.prog X.w H s.heap
 len:Z.length=X.N.length
section
variable{X:Cx}{G:L9}{Z:List (Option V)}{H H':Hp}{s:Shared}{h':Heap}
def Cx.Ok.nofr(ok:X.Ok)(e:X.base.get? b=some o):b∉X.fs:=λa=>by
 have:=(ok.funs.mem a).1
 rw[e]at this;cases this
def Inv.bs(I:Inv X G Z H s):∀b o,X.base.get? b=some o->s.heap.get? b=some o/\H b=none:=λb o e=>
 ⟨I.base.keep b o (I.ok.bs b o e).1 (I.ok.bs b o e).2 (I.ok.nofr e) (I.ok.noex b o e),I.base.free b o (I.ok.bs b o e).1 (I.ok.bs b o e).2 (I.ok.noex b o e)⟩
def Inv.bk(I:Inv X G Z H s):∀b o,X.base.get? b=some o->s.heap.get? b=some o:=λb o e=>(I.bs b o e).1
def Inv.mod(I:Inv X G Z H s):Mod X.K X.mg X.base:=I.ok.mod
def Inv.kIn(I:Inv X G Z H s):X.K.In s.heap:=I.ok.mod.kin.keeps I.bk
def Inv.lt(I:Inv X G Z H s):X.env.locals<s.heap.objs.size:=let ⟨_,a,_⟩:=I.loc;a.lt
def Inv.sz(I:Inv X G Z H s):X.s₀.heap.objs.size<=s.heap.objs.size:=Ze I.ok.above (ZO I.lt)
def Inv.nofs(I:Inv X G Z H s)(h:s.heap.objs.size<=a):a∉X.fs:=λc=>by
 obtain⟨_,o,b,_⟩:=I.ok.funs.mem c;exact absurd (Zd (YV b) (Ze I.sz h)) (ZG _)
def Inv.cne(I:Inv X G Z H s):∀x c,X.env.cells.lookup x=some c->c≠X.env.locals:=λx c e z=>by
 obtain⟨v,o,d,hd⟩:=I.cell x c e;obtain⟨m,⟨o',f,ep,a,b,_⟩,_⟩:=I.loc;rw[z,a]at d;cases d;rw[b]at hd;cases hd
def Inv.funs(I:Inv X G Z H s):s.heap.FunFrames X.base X.outer:=by
 have all:∀(l:List Env),(∀b∈yN l,b∈X.fs)->X.s₀.heap.FunFrames X.base l->s.heap.FunFrames X.base l:=by
  intro l
  induction l with
  |nil=>intro _ _;trivial
  |cons env r g=>
    intro f k;obtain⟨m,⟨L,o,a,j,i,hd⟩,h⟩:=k;have d:L∈X.fs:=f L (by unfold yN;rw[List.filterMap_cons,a];exact List.mem_cons_self);obtain⟨n,e⟩:=I.base.slot L o i (I.ok.frf L d) d λz=>I.ok.exfs L z d;exact⟨m,⟨L,_,a,j,e,hd⟩,g (λb c=>f b (by unfold yN;rw[List.filterMap_cons,a];exact List.mem_cons_of_mem _ c)) h⟩
 exact all X.outer (λ_ c=>c) I.ok.funs
def Inv.stack(I:Inv X G Z H s):s.heap.FunFrames X.base X.stack:=by
 rcases I.ok.stk with e|⟨e,b⟩
 ·rw[e];exact I.funs
 ·rw[e];obtain⟨m,a,_⟩:=I.loc;refine .cons (by rw[I.ok.kind];decide) b a ?_ I.funs;exact Heap.get?_none_of_le (Ze I.ok.bsz I.ok.above)
def Inv.stkSub(I:Inv X G Z H s):∀b∈yN X.stack,b∈X.env.locals::X.fs:=λb a=>by
 rcases I.ok.stk with e|⟨e,c⟩
 ·rw[e]at a;exact YM _ a
 ·rw[e]at a;unfold yN at a;rw[List.filterMap_cons,c]at a;exact a
def Inv.stkFree(I:Inv X G Z H s):∀b∈yN X.stack,H b=none:=λb a=>by
 rcases YS.mp (I.stkSub b a) with e|a
 ·rw[e];exact I.free
 ·obtain⟨_,o,c,_⟩:=I.ok.funs.mem a;exact I.base.free b o c (I.ok.frf b a) λz=>I.ok.exfs b z a
def Inv.step{g':Array GenState}{t':Nat}{d':Drawn}{ch:List Addr}(I:Inv X G Z H s)
 (g:∀b∈ch,(b∈X.ex\/X.s₀.heap.objs.size<=b)/\b≠X.env.locals/\(∀x c,X.env.cells.lookup x=some c->c≠b)/\∀p∈X.pn++G,p.1≠b)
 (keep:∀b o,b≠X.env.locals->b∉X.fs->b∉ch->s.heap.get? b=some o->H b=none->h'.get? b=some o)
 (slot:∀b o,b≠X.env.locals->b∈X.fs->b∉ch->s.heap.get? b=some o->H b=none->∃D,h'.get? b=some {o with slots:=D}) (free:∀b o,b∉ch->s.heap.get? b=some o->H b=none->H' b=none)
 (there:∀b o,b∉ch->s.heap.get? b=some o->∃o',h'.get? b=some o')
 (tups:∀b xs,H b=some (.tup xs)->H' b=some (.tup xs)) (frzs:∀b o u,H b=some (.frz o u)->H' b=some (.frz o u)) (tbls:∀b l,H b=some (.tbl l)->H' b=some (.tbl l)/\∀c o,H c=some (.own b)->s.heap.get? c=some o->H' c=some (.own b)/\h'.get? c=some o)
 (ns:∀m,s.heap.Ns X.env.locals m->h'.Ns X.env.locals m) (hok:HOk X.prog X.w H' h') (L:AllBare g'):
 Inv X G Z H' {s with heap:=h',gens:=g',drawn:=d',toks:=t'}:=by
 have A:∀b o,X.s₀.heap.get? b=some o->b≠X.env.locals:=λb o e=>Zg (Zd (YV e) I.ok.above)
 have j:∀b o,X.s₀.heap.get? b=some o->b∉X.ex->b∉ch:=λb o e a t=>by
  rcases(g b t).1 with z|z
  ·exact a z
  ·exact absurd (Zd (YV e) z) (ZG _)
 have h:∀x c,X.env.cells.lookup x=some c->∀v,s.heap.IsCell c v->h'.IsCell c v:=λx c e v ⟨o,y,hd⟩=>by
  have f:c∉ch:=λz=>(g c z).2.2.1 x c e rfl;by_cases F:c∈X.fs
  ·obtain⟨D,q⟩:=slot c o (I.cne x c e) F f y (I.freeC x c e);exact⟨_,q,hd⟩
  ·exact⟨o,keep c o (I.cne x c e) F f y (I.freeC x c e),hd⟩
 refine⟨I.ok,I.os,L,⟨λb o e n t a=>?_,λb o e n t a=>?_,λb o e n a=>?_,λb o e a=>?_,λb xs e=>tups b xs (I.base.tups b xs e),λb o xs e=>frzs b o xs (I.base.frzs b o xs e),λb ps e=>⟨(tbls b ps (I.base.tbls b ps e).1).1,λc o e1 B=>let ⟨N,M⟩:=(I.base.tbls b ps e).2 c o e1 B;(tbls b ps (I.base.tbls b ps e).1).2 c o N M⟩⟩,?_,λx c e=>?_,?_,λx c e=>?_,λp hp=>?_,hok,I.len⟩
 ·exact keep b o (A b o e) t (j b o e a) (I.base.keep b o e n t a) (I.base.free b o e n a)
 ·obtain⟨D,e1⟩:=I.base.slot b o e n t a;obtain⟨C,B⟩:=slot b _ (A b o e) t (j b o e a) e1 (I.base.free b o e n a);exact⟨C,B⟩
 ·obtain⟨o',e1⟩:=I.base.there b o e a;exact free b o' (j b o e a) e1 (I.base.free b o e n a)
 ·obtain⟨o',e1⟩:=I.base.there b o e a;exact there b o' (j b o e a) e1
 · obtain⟨m,J,K⟩:=I.loc;refine⟨m,ns m J,λi x v e1 B O=>?_⟩;obtain⟨u,r,l⟩:=K i x v e1 B O;refine⟨u,r,?_⟩;rcases l with l|⟨k,c,e,z⟩
   ·exact .inl l
   ·exact .inr ⟨k,c,e,h x c e _ z⟩
 ·obtain⟨v,z⟩:=I.cell x c e;exact⟨v,h x c e v z⟩
 ·obtain⟨m,⟨o,_,_,y,_⟩,_⟩:=I.loc;exact free _ o (λz=>(g _ z).2.1 rfl) y I.free
 ·obtain⟨v,o,y,hd⟩:=I.cell x c e;exact free c o (λz=>(g c z).2.2.1 x c e rfl) y (I.freeC x c e)
 ·obtain⟨e,n,ne,E,d⟩:=I.pin p hp;have f:p.1∉ch:=λz=>(g p.1 z).2.2.2 p hp rfl;exact⟨keep p.1 p.2 ne E f e n,free p.1 p.2 f e n,ne,E,d⟩
def Inv.un(I:Inv X G Z H s)(u:Un X.fs [] H H' s.heap h')(hok:HOk X.prog X.w H' h'):Inv X G Z H' {s with heap:=h',toks:=t'}:=by
 obtain⟨m,⟨o,p,ep,g,r⟩,_⟩:=id I.loc;obtain⟨k,j⟩:=u.any g I.free (by simp)
 exact I.step (g':=s.gens) (d':=s.drawn) (ch:=[]) (λ_ z=>nomatch z) (λb o _ c _ e n=>u.keep b o e n c (by simp)) (λb o _ c _ e n=>u.slot b o e n c (by simp)) (λb o _ e n=>u.free b o e n (by simp)) (λb o _ e=>u.there b o e (by simp)) u.tups u.frzs u.tbls (λl i=>by
  obtain⟨o',d,f,a,h⟩:=i;rw[g]at a;cases a
  exact⟨_,d,f,j,h⟩) hok I.bare
def Inv.call(I:Inv X G Z H s)(u:Un (yN X.stack) ch H H' s.heap h')(hok:HOk X.prog X.w H' h')(q:AllBare g')
 (f:∀b∈ch,(b∈X.ex\/X.s₀.heap.objs.size<=b)/\b≠X.env.locals/\(∀x c,X.env.cells.lookup x=some c->c≠b)/\∀p∈X.pn++G,p.1≠b):
 Inv X G Z H' {s with heap:=h',gens:=g',drawn:=d',toks:=t'}:=by
 obtain⟨m,⟨o,A,ep,j,r⟩,_⟩:=id I.loc;obtain⟨v,g⟩:=u.any j I.free λz=>(f _ z).2.1 rfl
 exact I.step (ch:=ch) f (λb o g t a e n=>u.keep b o e n (λz=>(YS.mp (I.stkSub b z)).elim g t) a) (λb o _ _ a e n=>u.any e n a) (λb o a e n=>u.free b o e n a) (λb o a e=>u.there b o e a) u.tups u.frzs u.tbls (λy l=>by
  obtain⟨o',h,i,d,k⟩:=l;rw[j]at d;cases d
  exact⟨_,h,i,g,k⟩) hok q
def Inv.turned(I:Inv X G Z H s)(k:∀b o,b≠a->s.heap.get? b=some o->h'.get? b=some o)(g:H a=none)(h:a≠X.env.locals)
 (y:a∈X.ex\/X.s₀.heap.objs.size<=a) (w:∀x c,X.env.cells.lookup x=some c->c≠a) (t:∀p∈X.pn++G,p.1≠a):Inv X G Z H {s with heap:=h',toks:=t'}:=by
 have f:∀b u,H b=some u->b≠a:=λb u e z=>by rw[z,g]at e;cases e
 refine I.step (g':=s.gens) (d':=s.drawn) (ch:=[a]) (λb l=>?_) (λb o _ _ d e _=>k b o (λz=>d (by simp[z])) e) (λb o _ _ d e _=>⟨o.slots,k b o (λz=>d (by simp[z])) e⟩) (λ_ _ _ _ n=>n)
  (λb o d e=>⟨o,k b o (λz=>d (by simp[z])) e⟩) (λ_ _ e=>e) (λ_ _ _ e=>e) (λ_ _ e=>⟨e,λc o e1 B=>⟨e1,k c o (aT e1 g) B⟩⟩) (λm j=>?_) (λb u e=>?_) I.bare
 · have e:b=a:=by simpa using l
   subst e;exact⟨y,h,w,t⟩
 ·obtain⟨o,A,ep,i,r⟩:=j;exact⟨o,A,ep,k _ o (Aa7 h) i,r⟩
 · refine(I.hok b u e).stay (λc v d q=>k c v ?_ q) (λ_ q=>q) λ_ _ q=>q;rcases d with z|z
   ·rw[z];exact f b u e
   ·exact f c _ z
def Inv.tok(I:Inv X G Z H s)(t:Nat):Inv X G Z H {s with toks:=t}:=I.un (h':=s.heap) (t':=t) Un.refl I.hok
def Inv.kept(I:Inv X G Z H s)(k:∀b u,s.heap.get? b=some u->h'.get? b=some u):Inv X G Z H {s with heap:=h',toks:=t'}:=I.un (Un.kept k) (I.hok.kept k)
def Inv.laid(I:Inv X G Z H s)(k:∀b u,s.heap.get? b=some u->h'.get? b=some u)(hp:s.heap.objs.size<=a)(new:ObjOk X.prog X.w (upd H a o) h' a o):
 Inv X G Z (upd H a o) {s with heap:=h',toks:=t'}:=I.un (Un.laid k hp (I.hok.fresh hp)) (I.hok.laid k hp new)
def Inv.write(I:Inv X G Z H s)(c:Xl (H x))(d:e=x\/H e=some (.own x))(k:∀b u,b≠e->s.heap.get? b=some u->h'.get? b=some u)(a:∃u,h'.get? e=some u)
 (new:ObjOk X.prog X.w (upd H x o) h' x o):Inv X G Z (upd H x o) {s with heap:=h',toks:=t'}:=I.un (Un.write c d k a) (I.hok.write c d k a new)
def Inv.pins_of(I:Inv X G Z H s)(h:∀p∈a,s.heap.get? p.1=some p.2/\H p.1=none/\p.1≠X.env.locals/\p.1∉X.fs/\∀v,p.2.data≠ .cell v):Inv X a Z H s:=
 ⟨I.ok,I.os,I.bare,I.base,I.loc,I.cell,I.free,I.freeC,λp hp=>(YX.mp hp).elim (λz=>I.pin p (YU _ z)) (h p),I.hok,I.len⟩
def vt{N:List Str}(c:N.Nodup){i j:Nat}{x:Str}(a:N[i]?=some x)(b:N[j]?=some x):i=j:=by
 obtain⟨f,e1⟩:=Y2.mp a;obtain⟨e,d⟩:=Y2.mp b;exact(List.getElem_inj c).mp (e1.trans d.symm)
def Cf{Q:Unit->Shared->Prop}(I:Inv X G Z H s)(hN:X.N.Nodup)(hi:X.N[i]?=some x)(B:Tz X.env.scope x)(r:RelV v u)
 (h:∀s',Inv X G (Z.set i (some v)) H s'->(∃a,Heap.SameBut a s.heap s'.heap/\(a=X.env.locals\/X.env.cells.lookup x=some a))->Q () s') (hf:X.fn x=true\/X.env.scope.names.lookup x=some .local:=by first | exact .inl rfl | exact .inr rfl | assumption):wpAny M A (storeName X.env x u) Q E s:=by
 obtain⟨m,hn,hl⟩:=id I.loc;have T:(X.env.scope.kind == .class||(X.env.scope.kind == .module&&X.env.locals != X.env.globals))=false:=by rw[I.ok.kind];rfl
 have J:i<Z.length:=by rw[I.len];exact(Y2.mp hi).1
 have cne:=I.cne
 have g:∀{a:Addr} {h':Heap},(∃o,s.heap.get? a=some o/\H a=none)->Heap.SameBut a s.heap h'->HOk X.prog X.w H h':=λ{a h'} ha f b ob e=>by
  obtain⟨_,_,D⟩:=ha;refine(I.hok b ob e).stay (λc w' t q=>(f.2 c ?_).trans q) (λ_ q=>q) λ_ _ q=>q;rintro rfl;rcases t with rfl|t
  ·rw[D]at e;cases e
  ·rw[D]at t;cases t
 rcases B with F|F
 · refine wpAny_storeName_local F hn (λh' hn' f=>?_) T;obtain⟨oL,_,_,hoL,_⟩:=id hn;refine h _ ⟨I.ok,I.os,I.bare,⟨λb o e n O B=>?_,λb o e n O B=>?_,I.base.free,λb o e B=>?_,I.base.tups,I.base.frzs,λb l q=>⟨(I.base.tbls b l q).1,λc o e1 C=>let ⟨Y,f2⟩:=(I.base.tbls b l q).2 c o e1 C;⟨Y,(f.2 c (aT Y I.free)).trans f2⟩⟩⟩,⟨_,hn',λj y v' e1 C e3=>?_⟩,λy c e=>?_,I.free,I.freeC,λp hp=>?_,g ⟨oL,hoL,I.free⟩ f,by simpa using I.len⟩ ⟨_,f,.inl rfl⟩
   ·exact(f.2 b (Zg (Zd (YV e) I.ok.above))).trans (I.base.keep b o e n O B)
   ·obtain⟨sl,e1⟩:=I.base.slot b o e n O B;exact⟨sl,(f.2 b (Zg (Zd (YV e) I.ok.above))).trans e1⟩
   ·obtain⟨o',e1⟩:=I.base.there b o e B;exact⟨o',(f.2 b (Zg (Zd (YV e) I.ok.above))).trans e1⟩
   · by_cases K:j=i
     ·subst K;rw[hi]at e1;cases e1;rw[Ad4 J]at C;cases C;exact⟨u,r,.inl ⟨F,by simp⟩⟩
     · rw[List.getElem?_set_ne (Aa7 K)]at C;obtain⟨u',r',q⟩:=hl j y v' e1 C e3;refine⟨u',r',?_⟩;rcases q with ⟨k,e⟩|⟨k,c,e,z⟩
       · refine .inl ⟨k,?_⟩
         have:y≠x:=λe=>K (vt hN e1 (e▸hi))
         simp[this,e]
       ·exact .inr ⟨k,c,e,z.sameBut f (cne y c e)⟩
   ·obtain⟨w',z⟩:=I.cell y c e;exact⟨w',z.sameBut f (cne y c e)⟩
   ·obtain⟨e,n,ne,nf,d⟩:=I.pin p hp;exact⟨(f.2 p.1 ne).trans e,n,ne,nf,d⟩
 · have L:X.fn x=true:=by
    rcases hf with z|z
    ·exact z
    ·rw[z]at F;cases F
   obtain⟨c,t⟩:=I.ok.has x (.inl F);obtain⟨w',z⟩:=I.cell x c t;refine wpAny_storeName_cell I.ok.kind F t z (λh' W f=>?_);obtain⟨oc,S,R⟩:=id z;refine h {s with heap:=h'} ⟨I.ok,I.os,I.bare,⟨λb o e n O B=>?_,λb o e n O B=>?_,I.base.free,λb o e B=>?_,I.base.tups,I.base.frzs,λb l q=>⟨(I.base.tbls b l q).1,λP o e1 C=>let ⟨Y,f2⟩:=(I.base.tbls b l q).2 P o e1 C;⟨Y,(f.2 P (aT Y (I.freeC x c t))).trans f2⟩⟩⟩,⟨m,hn.sameBut f (Aa7 (cne x c t)),λj y v' e1 C e3=>?_⟩,λy P e=>?_,I.free,I.freeC,λp hp=>?_,g ⟨oc,S,I.freeC x c t⟩ f,by simpa using I.len⟩ ⟨c,f,.inr t⟩
   ·exact(f.2 b (Zg (Zd (YV e) (I.ok.cab x c L t)))).trans (I.base.keep b o e n O B)
   ·obtain⟨sl,e1⟩:=I.base.slot b o e n O B;exact⟨sl,(f.2 b (Zg (Zd (YV e) (I.ok.cab x c L t)))).trans e1⟩
   ·obtain⟨o',e1⟩:=I.base.there b o e B;exact⟨o',(f.2 b (Zg (Zd (YV e) (I.ok.cab x c L t)))).trans e1⟩
   · by_cases K:j=i
     ·subst K;rw[hi]at e1;cases e1;rw[Ad4 J]at C;cases C;exact⟨u,r,.inr ⟨.inl F,c,t,W⟩⟩
     · rw[List.getElem?_set_ne (Aa7 K)]at C;obtain⟨u',r',q⟩:=hl j y v' e1 C e3;refine⟨u',r',?_⟩;rcases q with q|⟨k,P,e,z'⟩
       ·exact .inl q
       ·refine .inr ⟨k,P,e,z'.sameBut f ?_⟩;rintro rfl;exact K (vt hN e1 (I.ok.inj _ _ _ e t▸hi))
   · by_cases U:P=c
     ·subst U;exact⟨_,W⟩
     ·obtain⟨w2,z2⟩:=I.cell y P e;exact⟨w2,z2.sameBut f U⟩
   ·obtain⟨e,n,ne,nf,d⟩:=I.pin p hp;refine⟨(f.2 p.1 ?_).trans e,n,ne,nf,d⟩;intro q;rw[q,S]at e;have q':oc=p.2:=Y6 e;exact d w' (by rw[<-q'];exact R)
def nI{Q:Unit->Shared->Prop}(I:Inv X G Z H s)(d:X.N.Nodup)(hi:X.N[i]?=some x)(b:Tz X.env.scope x)(r:RelV v u)
 (h:∀a,Inv X G (Z.set i (some v)) H a->Q () a) (c:X.fn x=true\/X.env.scope.names.lookup x=some .local:=by first | exact .inl rfl | exact .inr rfl | assumption):wpAny M A (storeName X.env x u) Q E s:=
 Cf I d hi b r (λa e _=>h a e) c
def Inv.call'{a:Shared}(I:Inv X G Z H s)(f:a.os=s.os)(u:Un (yN X.stack) ch H H' s.heap a.heap)(hok:HOk X.prog X.w H' a.heap)(g:AllBare a.gens)
 (d:∀b∈ch,(b∈X.ex\/X.s₀.heap.objs.size<=b)/\b≠X.env.locals/\(∀x c,X.env.cells.lookup x=some c->c≠b)/\∀p∈X.pn++G,p.1≠b):Inv X G Z H' a:=by
 obtain⟨h',g',d',t',o'⟩:=a;have e:o'=s.os:=f;subst e;exact I.call (g':=g') (t':=t') (d':=d') u hok g d
end
abbrev XK:=Value->Option Addr->Hp->Prop
abbrev St:=List (Option V)
abbrev VK:=V->Hp->Prop
abbrev TE:=St->Hp->VK->Prop
abbrev TT:=St->Hp->(Bool->Hp->Prop)->Prop
abbrev TA:=St->Hp->(List V->Hp->Prop)->Prop
structure Ends where
 nx:St->Hp->Prop
 rt:VK
 bk:St->Hp->Prop:=λ_ _=>False
 ct:St->Hp->Prop:=λ_ _=>False
abbrev TS:=Ends->St->Hp->Prop
def EP(X:Cx)(G:L9)(Z:St)(Q:VK)(u:Value)(a:Shared):Prop:=∃v H',Inv X G Z H' a/\RelV v u/\Q v H'
def TP(X:Cx)(G:L9)(Z:St)(Q:Bool->Hp->Prop)(b:Bool)(a:Shared):Prop:=∃H',Inv X G Z H' a/\Q b H'
def AP(X:Cx)(G:L9)(Z:St)(Q:List V->Hp->Prop)(us:List Value)(a:Shared):Prop:=∃vs H',Inv X G Z H' a/\Vals vs us/\Q vs H'
def SP(X:Cx)(G:L9)(D:Ends)(f:Flow)(b:Shared):Prop:=
 match f with
 |.next=>∃a H',Inv X G a H' b/\D.nx a H'
 |.brk=>∃a H',Inv X G a H' b/\D.bk a H'
 |.cont=>∃a H',Inv X G a H' b/\D.ct a H'
 |.ret u=>∃v a H',Inv X G a H' b/\RelV v u/\D.rt v H'
def PE(X:Cx)(e:Expr)(t:TE):Prop:=
 ∀(G:L9) (s:Shared) (Z:St) (H:Hp) (Q:VK),Inv X G Z H s->t Z H Q->wpAny (model X.prog X.w) X.A (eval e X.env) (EP X G Z Q) X.xe s
def PT(X:Cx)(e:Expr)(t:TT):Prop:=
 ∀(G:L9) (s:Shared) (Z:St) (H:Hp) (Q:Bool->Hp->Prop),Inv X G Z H s->t Z H Q->wpAny (model X.prog X.w) X.A (isTrue e X.env (eval e X.env)) (TP X G Z Q) X.xe s
def PW(X:Cx)(e:Expr)(t:TT):Prop:=
 ∀(whole:Sem Value) (G:L9) (s:Shared) (Z:St) (H:Hp) (Q:Bool->Hp->Prop),Inv X G Z H s->t Z H Q->wpAny (model X.prog X.w) X.A (isTrue e X.env whole) (TP X G Z Q) X.xe s
def PW.pt{X:Cx}(h:PW X e t):PT X e t:=h _
def PA(X:Cx)(a:List Expr)(t:TA):Prop:=
 ∀(pos:Pos) (G:L9) (s:Shared) (Z:St) (H:Hp) (Q:List V->Hp->Prop),Inv X G Z H s->t Z H Q->wpAny (model X.prog X.w) X.A (spliced (backTo pos (starEach a X.env))) (AP X G Z Q) X.xe s
def PS(X:Cx)(st:Stmt)(t:TS):Prop:=
 ∀(G:L9) (s:Shared) (Z:St) (H:Hp) (D:Ends),Inv X G Z H s->t D Z H->wpAny (model X.prog X.w) X.A (exec st X.env) (SP X G D) X.xe s
def PSs(X:Cx)(st:List Stmt)(t:TS):Prop:=
 ∀(G:L9) (s:Shared) (Z:St) (H:Hp) (D:Ends),Inv X G Z H s->t D Z H->wpAny (model X.prog X.w) X.A (execs st X.env) (SP X G D) X.xe s
def br{Q b:W->Shared->Prop}(h:wpAny M A t Q E s)(c:∀a s,Q a s->b a s):wpAny M A t b E s:=Ae0 h c λ_ _ x=>x
section
variable{X:Cx}
def cK(i:Nat):TE:=λZ H Q=>∃v,Z[i]?=some (some v)/\Q v H
def tC(v:V):TE:=λ_ H Q=>Q v H
def Pl(p:X.N[i]?=some x)(j:XD X.env.scope x)(hd:(x==("__debug__" : Str))=false:=by decide)(f:(x==("__classdict__" : Str))=false:=by decide):PE X (.Name x pos) (cK i):=by
 intro G s Z H Q I h;obtain⟨v,e,h⟩:=h;obtain⟨m,k,o⟩:=I.loc;obtain⟨u,r,l⟩:=o i x v p e j;have d:EP X G Z Q u s:=⟨v,H,I,r,h⟩;rcases l with ⟨b,n⟩|⟨b,c,g,a⟩
 ·exact wpAny_Name (wpAny_loadName_local I.ok.kind b k n d) hd
 · rcases b with b|b
   ·exact wpAny_Name (wpAny_loadName_cell I.ok.kind b g a d) hd
   ·exact wpAny_Name (wpAny_loadName_free I.ok.kind b g a d f) hd
def Pt{i j pos}:PE X (.Constant (.int i) j pos) (tC (.int i)):=λ_ _ _ H _ I h=>wpAny_Constant_int ⟨.int i,H,I.tok _,⟨_,rfl⟩,h⟩
def UK{b j pos}:PE X (.Constant (.bool b) j pos) (tC (.bl b)):=λ_ _ _ H _ I h=>Constant_bool ⟨.bl b,H,I,rfl,h⟩
def Pr{j pos}:PE X (.Constant .none j pos) (tC .non):=λ_ _ _ H _ I h=>Constant_none ⟨.non,H,I,rfl,h⟩
def Pn{x j pos}:PE X (.Constant (.str x) j pos) (tC (.str x)):=λ_ _ _ H _ I h=>Calls.Constant_str ⟨.str x,H,I.tok _,⟨_,rfl⟩,h⟩
def Gl(X:Cx)(x:Str):Prop:=X.env.kindOf x=some .globalImplicit
def tX{Q:LV}(I:Inv X G Z H s)(b:Gl X x)(a:X.mg x=some u)(h:Q u s)
 (hd:(x==("__debug__" : Str))=false:=by decide):wpAny (model X.prog X.w) X.A (eval (.Name x pos) X.env) Q E s:=
 Calls.Name_function_global I.ok.kind b (Calls.loadGlobal_global (by rw[I.ok.glob];exact I.mod.glob.keeps I.bk) a h) hd
def jO{Q:LV}(I:Inv X G Z H s)(d:Gl X x)(c:X.mg x=none)(a:bootBuiltins x=some u)(h:Q u s)
 (b:x ≠ "__name__" := by decide) (hd:(x==("__debug__" : Str))=false:=by decide):wpAny (model X.prog X.w) X.A (eval (.Name x pos) X.env) Q E s:=by
 obtain⟨g,f,e⟩:=I.mod.blt;exact Calls.Name_function_global I.ok.kind d (Calls.loadGlobal_builtin (by rw[I.ok.glob];exact I.mod.glob.keeps I.bk) c (by rw[I.ok.blt];exact f.keeps I.bk) ((e x b).trans a) h) hd
def KU(b:Gl X x)(a:X.mg x=some u)(r:RelV v u)(hd:(x==("__debug__" : Str))=false:=by decide):PE X (.Name x pos) (tC v):=
 λ_ _ _ H _ I h=>tX I b a ⟨v,H,I,r,h⟩ hd
def K2(d:Gl X x)(c:X.mg x=none)(a:bootBuiltins x=some u)(r:RelV v u)(b:x ≠ "__name__" := by decide)(hd:(x==("__debug__" : Str))=false:=by decide):PE X (.Name x pos) (tC v):=
 λ_ _ _ H _ I h=>jO I d c a ⟨v,H,I,r,h⟩ b hd
variable{a b:Expr}{ta tb:TE}{pos:Pos}
def PC(X:Cx)(op:CmpOp)(a b:Expr)(t:TE):Prop:=
 ∀(G:L9) (s:Shared) (Z:St) (H:Hp) (Q:VK),Inv X G Z H s->t Z H Q->
  wpAny (model X.prog X.w) X.A (eval a X.env) (λv d=>wpAny (model X.prog X.w) X.A (eval b X.env) (λu c=>wpAny (model X.prog X.w) X.A (compareOp op v u) (EP X G Z Q) X.xe c) X.xe d) X.xe s
def vw(b:Expr)(h:op≠ .In)(a:op≠ .NotIn):behindInMarks op b=false:=by
 have e1:(op == CmpOp.In)=false:=by cases op <;> first | rfl | exact absurd rfl h
 have c:(op == CmpOp.NotIn)=false:=by cases op <;> first | rfl | exact absurd rfl a
 cases b<;>simp[behindInMarks,e1,c]
def tB(t:TE):TT:=λZ H Q=>t Z H λx H1=>∃c,x=.bl c/\Q c H1
def Pv(h:PC X op a b t)(d:behindInMarks op b=false:=by first | exact vw _ (by decide) (by decide) | rfl):PE X (.Compare a [op] [b] pos) t:=λG s Z H Q I c=>wpAny_Compare1 (h G s Z H Q I c) d
def O4(h:PC X op a b t)(e:behindInMarks op b=false:=by first | exact vw _ (by decide) (by decide) | rfl):PT X (.Compare a [op] [b] pos) (tB t):=by
 intro G s Z H Q I i;refine wpAny_isTrue_Compare1 (br (h G s Z H _ I i) λv n e=>br e λu m j=>br j λc l ⟨x,H1,k,f,g⟩=>?_) e;obtain⟨d,rfl,q⟩:=g;cases f;exact ZP ⟨H1,k,q⟩
def O2{e:Expr}(h:PE X e t)(f:∀whole,isTrue e X.env whole=(do let v <-whole;standAt e.pos;holding [v] (truthy v)):=by intro _;rfl):PT X e (tB t):=by
 intro G s Z H Q I c;refine isTrue_plain (br (h G s Z H _ I c) λv i ⟨x,H1,g,a,b⟩=>?_) (f _);obtain⟨d,rfl,q⟩:=b;cases a;exact ZP ⟨H1,g,q⟩
variable{tA tB':TT}{bf:List Expr}
def Oz(t u:TT):TT:=λZ H Q=>t Z H λc H1=>if c=true then u Z H1 Q else Q false H1
def XQ(t u:TT):TT:=λZ H Q=>t Z H λc H1=>if c=true then Q true H1 else u Z H1 Q
def Ot(t:TT):TT:=λZ H Q=>t Z H λc H1=>Q (!c) H1
def Ko(b:PT X a tA):PW X (.BoolOp .And [a] pos) tA:=by
 intro d G s Z H Q I h;refine isTrue_and (br (b G s Z H Q I h) λc f e=>?_);cases c with
 |true=>exact isTrue_and_nil e
 |false=>exact e
def OZ(b:PT X a tA):PW X (.BoolOp .Or [a] pos) tA:=by
 intro d G s Z H Q I h;refine isTrue_or (br (b G s Z H Q I h) λc f e=>?_);cases c with
 |false=>exact isTrue_or_nil e
 |true=>exact e
def O0(j:PT X a tA)(i:PW X (.BoolOp .And (b::bf) pos) tB'):PW X (.BoolOp .And (a::b::bf) pos) (Oz tA tB'):=by
 intro f G s Z H Q I h;refine isTrue_and (br (j G s Z H _ I h) λc g ⟨H1,e,d⟩=>?_);cases c with
 |true=>exact i f G g Z H1 Q e d
 |false=>exact⟨H1,e,d⟩
def UA(j:PT X a tA)(i:PW X (.BoolOp .Or (b::bf) pos) tB'):PW X (.BoolOp .Or (a::b::bf) pos) (XQ tA tB'):=by
 intro f G s Z H Q I h;refine isTrue_or (br (j G s Z H _ I h) λc g ⟨H1,e,d⟩=>?_);cases c with
 |true=>exact⟨H1,e,d⟩
 |false=>exact i f G g Z H1 Q e d
def O3(b:PT X a tA):PT X (.UnaryOp .Not a pos) (Ot tA):=by
 intro G s Z H Q I h;exact isTrue_not (b G s Z H (λc H1=>Q (!c) H1) I h)
def Eb(ta tb:TE):TE:=λZ H Q=>ta Z H λx H1=>∃c,x=.bl c/\if c=true then tb Z H1 Q else Q (.bl false) H1
def Os(ta tb:TE):TE:=λZ H Q=>ta Z H λx H1=>∃c,x=.bl c/\if c=true then Q (.bl true) H1 else tb Z H1 Q
def D6(ta:TE):TE:=λZ H Q=>ta Z H λx H1=>∃c,x=.bl c/\Q (.bl (!c)) H1
def Pp{op}(h:PE X a t):PE X (.BoolOp op [a] pos) t:=λG s Z H Q I b=>BoolOp_one (h G s Z H Q I b)
def Pw(j:PE X a ta)(i:PE X (.BoolOp .And (b::bf) pos) tb):PE X (.BoolOp .And (a::b::bf) pos) (Eb ta tb):=by
 intro G s Z H Q I h;refine BoolOp_and (br (j G s Z H _ I h) λv f ⟨x,H1,e,g,d⟩=>?_);obtain⟨c,rfl,d⟩:=d;cases g;refine ZP ?_;cases c with
 |true=>exact i G f Z H1 Q e d
 |false=>exact⟨.bl false,H1,e,rfl,d⟩
def UG(j:PE X a ta)(i:PE X (.BoolOp .Or (b::bf) pos) tb):PE X (.BoolOp .Or (a::b::bf) pos) (Os ta tb):=by
 intro G s Z H Q I h;refine BoolOp_or (br (j G s Z H _ I h) λv f ⟨x,H1,e,g,d⟩=>?_);obtain⟨c,rfl,d⟩:=d;cases g;refine ZP ?_;cases c with
 |false=>exact i G f Z H1 Q e d
 |true=>exact⟨.bl true,H1,e,rfl,d⟩
def Pq(e:PE X a ta):PE X (.UnaryOp .Not a pos) (D6 ta):=by
 intro G s Z H Q I h;refine UnaryOp_ (br (e G s Z H _ I h) λv g ⟨x,H1,f,d,b⟩=>?_);obtain⟨c,rfl,b⟩:=b;cases d;exact not_of (ZP ⟨.bl (!c),H1,f,rfl,b⟩)
end
def SqL(K:F0)(H:Hp)(a:Addr)(xs:List V):Prop:=
 Rd H a (.lst xs)\/
  ∃(o:Obj) (its:Array Value) (n:Nat),K.lookup a=some o/\o.cls=.type "list" /\ o.dict=none/\o.data=.seq its n/\its.size<=sizeLine/\Vals xs its.toList
def SqT(K:F0)(H:Hp)(a:Addr)(xs:List V):Prop:=
 Rd H a (.tup xs)\/
  ∃(o:Obj) (its:Array Value) (n:Nat),K.lookup a=some o/\o.cls=.type "tuple" /\ o.data=.seq its n/\its.size<=sizeLine/\Vals xs its.toList
def Yz:Value->Option V
 |.none=>some .non
 |.bool b=>some (.bl b)
 |.int i _=>some (.int i)
 |.str x _=>some (.str x)
 |.bytes b _=>some (.byt b)
 |.float b _=>some (.flt b)
 |.ref a=>some (.ref a)
 |.type n=>some (.ty n)
 |_=>none
def RelV.abs(r:RelV x u):Yz u=some x:=by
 cases x with
 |non=>cases r;rfl
 |bl _=>cases r;rfl
 |int _=>obtain⟨t,rfl⟩:=r;rfl
 |str _=>obtain⟨t,rfl⟩:=r;rfl
 |byt _=>obtain⟨t,rfl⟩:=r;rfl
 |flt _=>obtain⟨t,rfl⟩:=r;rfl
 |ref _=>cases r;rfl
 |ty _=>cases r;rfl
def RelV.inj(r:RelV x u)(q:RelV y u):x=y:=Y6 (r.abs.symm.trans q.abs)
def Vals.inj:∀{xs a:List V} {us:List Value},Vals xs us->Vals a us->xs=a
 |_,_,_,.nil,.nil=>rfl
 |_,_,_,.cons r t,.cons b t'=>by rw[r.inj b,Vals.inj t t']
section
variable{X:Cx}{G:L9}{Z:St}{H:Hp}{s:Shared}{a:Addr}{xs ys:List V}
def SqL.of{K:F0}(h:H a=some (.lst xs)):SqL K H a xs:=.inl (.inl h)
def SqT.of{K:F0}(h:H a=some (.tup xs)):SqT K H a xs:=.inl (.inl h)
def Inv.list(I:Inv X G Z H s)(h:SqL X.K H a xs):∃its:List Value,Vals xs its/\PlainL s.heap a its.toArray/\xs.length<=sizeLine:=by
 rcases h with h|⟨o,its,n,c,d,hd,b,hz,r⟩
 ·obtain⟨z,its,n,r,e⟩:=h.ok I.hok;exact⟨its,r,⟨_,n,e,rfl,rfl,rfl⟩,z⟩
 ·refine⟨its.toList,r,⟨o,n,I.kIn a o c,d,hd,by simpa using b⟩,?_⟩;have e:=r.length;simp only[Zq]at e;omega
def Inv.tuple(I:Inv X G Z H s)(h:SqT X.K H a xs):∃its:List Value,Vals xs its/\IsTup s.heap a its.toArray/\xs.length<=sizeLine:=by
 rcases h with h|⟨o,its,n,c,d,b,hz,r⟩
 ·obtain⟨z,its,r,p⟩:=h.ok I.hok;exact⟨its,r,p,z⟩
 ·refine⟨its.toList,r,⟨o,I.kIn a o c,d,n,by simpa using b⟩,?_⟩;have e:=r.length;simp only[Zq]at e;omega
def Inv.list_inj(I:Inv X G Z H s)(h:SqL X.K H a xs)(h':SqL X.K H a ys):xs=ys:=by
 obtain⟨its,r,⟨o,n,e,_,_,d⟩,_⟩:=I.list h;obtain⟨its',c,⟨o',g,b,_,_,d'⟩,_⟩:=I.list h';rw[e]at b;cases b;rw[d]at d';injection d' with f _
 have:its=its':=by simpa using congrArg Array.toList f
 subst this;exact r.inj c
end
abbrev Cx.wish(X:Cx)(E:LV):Cx:={X with xe:=E}
abbrev Cx.nox(X:Cx):Cx:=X.wish λ_ _=>False
def Cx.Ok.wish{X:Cx}(ok:X.Ok)(E:LV):(X.wish E).Ok:=
 ⟨ok.mod,ok.kind,ok.glob,ok.blt,ok.above,ok.inj,ok.has,ok.cab,ok.hd,ok.frames,ok.stk,ok.exf,ok.bs,ok.bsz,ok.noex,ok.exfs,ok.funs,ok.frf⟩
def Cx.Ok.unwish{X:Cx}(ok:(X.wish E).Ok):X.Ok:=
 ⟨ok.mod,ok.kind,ok.glob,ok.blt,ok.above,ok.inj,ok.has,ok.cab,ok.hd,ok.frames,ok.stk,ok.exf,ok.bs,ok.bsz,ok.noex,ok.exfs,ok.funs,ok.frf⟩
section
variable{X:Cx}{G:L9}{Z:St}{H:Hp}{s:Shared}{E:LV}
def Inv.wish(I:Inv X G Z H s)(E:LV):Inv (X.wish E) G Z H s:=⟨I.ok.wish E,I.os,I.bare,I.base,I.loc,I.cell,I.free,I.freeC,I.pin,I.hok,I.len⟩
def Inv.unwish(I:Inv (X.wish E) G Z H s):Inv X G Z H s:=⟨I.ok.unwish,I.os,I.bare,I.base,I.loc,I.cell,I.free,I.freeC,I.pin,I.hok,I.len⟩
def SP.unwish{D:Ends}(h:SP (X.wish E) G D f b):SP X G D f b:=by
 cases f with
 |next=>obtain⟨a,H',I,q⟩:=h;exact⟨a,H',I.unwish,q⟩
 |brk=>obtain⟨a,H',I,q⟩:=h;exact⟨a,H',I.unwish,q⟩
 |cont=>obtain⟨a,H',I,q⟩:=h;exact⟨a,H',I.unwish,q⟩
 |ret u=>obtain⟨v,a,H',I,r,q⟩:=h;exact⟨v,a,H',I.unwish,r,q⟩
def PSs.nox{st:List Stmt}{t:TS}(h:PSs X.nox st t):PSs X st t:=λG s Z H D I a=>
 Ae0 (h G s Z H D (I.wish _) a) (λ_ _ q=>q.unwish) λ_ _ z=>False.elim z
end
section
variable{X:Cx}{st:Stmt}{bf:List Stmt}{t u:TS}{e:Expr}{te:TE}{pos:Pos}
def D7:TS:=λD Z H=>D.nx Z H
def Oq(t u:TS):TS:=λD Z H=>t {D with nx:=u D} Z H
def Kw:PSs X [] D7:=λ_ _ Z H _ I h=>Ad0 ⟨Z,H,I,h⟩
def E6(d:PS X st t)(c:PSs X bf u):PSs X (st::bf) (Oq t u):=by
 intro G s Z H D I h;refine wpAny_execs_cons (br (d G s Z H {D with nx:=u D} I h) λf b q=>?_);cases f with
 |next=>
   obtain⟨a,H',e,q⟩:=q;exact c G b a H' D e q
 |ret v=>exact q
 |brk=>exact q
 |cont=>exact q
def Kv(a:PS X st t):PSs X [st] t:=by
 intro G s Z H D I h;refine wpAny_execs_cons (br (a G s Z H D I h) λf b q=>?_);cases f with
 |next=>exact Ad0 q
 |ret v=>exact q
 |brk=>exact q
 |cont=>exact q
def Ea:TS:=λD Z H=>D.ct Z H
def vg:PS X (.Continue pos) Ea:=λ_ _ Z H _ I h=>wpAny_Continue ⟨Z,H,I,h⟩
def Inv.quiet(I:Inv X G Z H s):interactive X.env=false:=by simp[interactive,I.ok.kind]
def D8(te:TE):TS:=λD Z H=>te Z H λ_ H1=>D.nx Z H1
def Ky(c:PE X e te)(b:swapsWith e none pos.line X.env=pure false:=by rfl):PS X (.Expr e pos) (D8 te):=by
 intro G s Z H D I h;exact wpAny_Expr_any (br (c G s Z H _ I h) λv f ⟨x,H1,d,g,a⟩=>⟨Z,H1,d,a⟩) I.quiet b
def JJ(te:TE):TS:=λD Z H=>te Z H D.rt
def O7(c:PE X e te):PS X (.Return (some e) pos) (JJ te):=by
 intro G s Z H D I h;exact wpAny_Return_some (br (c G s Z H _ I h) λv f ⟨x,H1,d,a,b⟩=>⟨x,Z,H1,d,a,b⟩)
def D5:TS:=λD _ H=>D.rt .non H
def Kx:PS X (.Return none pos) D5:=λ_ _ Z H _ I h=>wpAny_Return_none ⟨.non,Z,H,I,rfl,h⟩
def Ov(c:TT)(t u:TS):TS:=λD Z H=>c Z H λb H1=>if b=true then t D Z H1 else u D Z H1
def UC(i:PT X c tc)(k:PSs X a t)(j:PSs X b u):PS X (.If c a b pos) (Ov tc t u):=by
 intro G s Z H D I h;refine wpAny_If (br (i G s Z H _ I h) λd e ⟨H1,g,f⟩=>?_);cases d with
 |true=>exact k G e Z H1 D g f
 |false=>exact j G e Z H1 D g f
def xV:TS:=λ_ _ _=>False
def E8:PS X st xV:=λ_ _ _ _ _ _ h=>h.elim
end
abbrev TG:=V->St->Hp->(St->Hp->Prop)->Prop
abbrev Tv:=List V->St->Hp->(St->Hp->Prop)->Prop
def PG(X:Cx)(a:Expr)(t:TG):Prop:=
 ∀(G:L9) (s:Shared) (Z:St) (H:Hp) (v:V) (u:Value) (Q:St->Hp->Prop),Inv X G Z H s->RelV v u->t v Z H Q->
  wpAny (model X.prog X.w) X.A (assign a X.env u) (λ_ c=>∃b H',Inv X G b H' c/\Q b H') X.xe s
def Xj(X:Cx)(b:List Expr)(t:Tv):Prop:=
 ∀(G:L9) (s:Shared) (Z:St) (H:Hp) (vs:List V) (us:List Value) (Q:St->Hp->Prop),Inv X G Z H s->Vals vs us->t vs Z H Q->
  wpAny (model X.prog X.w) X.A (assignInOrder ((assignEach b X.env).map (·.2)) us) (λ_ c=>∃a H',Inv X G a H' c/\Q a H') X.xe s
abbrev Tu:=V->V->V->Hp->(Hp->Prop)->Prop
def Xi(X:Cx)(t:Tu):Prop:=
 ∀(G:L9) (s:Shared) (Z:St) (H:Hp) (o i v:V) (ov a u:Value) (Q:Hp->Prop),Inv X G Z H s->RelV o ov->RelV i a->RelV v u->t o i v H Q->
  wpAny (model X.prog X.w) X.A (setItem ov a u) (λ_ b=>∃H',Inv X G Z H' b/\Q H') X.xe s
abbrev XF:=V->V->Hp->VK->Prop
def YA(X:Cx)(op:Operator)(t:XF):Prop:=
 ∀(G:L9) (s:Shared) (Z:St) (H:Hp) (x y:V) (v u:Value) (Q:VK),Inv X G Z H s->RelV x v->RelV y u->t x y H Q->
  wpAny (model X.prog X.w) X.A (inplaceOp op v u) (EP X G Z Q) X.xe s
section
variable{X:Cx}{pos:Pos}
def dg(i:Nat):TG:=λv Z H Q=>Q (Z.set i (some v)) H
def tK(c:X.N.Nodup)(hi:X.N[i]?=some x)(a:Tz X.env.scope x)(b:X.fn x=true\/X.env.scope.names.lookup x=some .local:=by first | exact .inl rfl | exact .inr rfl | assumption):PG X (.Name x pos) (dg i):=by
 intro G s Z H v u Q I r h;exact wpAny_assign_Name (nI I c hi a r (λe d=>⟨_,H,d,h⟩) b)
def RX:Tv:=λvs Z H Q=>vs=[]/\Q Z H
def AX(t:TG)(u:Tv):Tv:=λvs Z H Q=>∃v r,vs=v::r/\t v Z H λa H'=>u r a H' Q
def KN:Xj X [] RX:=by
 intro G s Z H vs us Q I r h;obtain⟨e,h⟩:=h;subst e;cases r;exact assignInOrder_nil ⟨Z,H,I,h⟩
def Fe(j:PG X e t)(i:Xj X a u)
 (g:(assignEach (e::a) X.env).map (·.2)=assign e X.env::(assignEach a X.env).map (·.2):=by rfl):Xj X (e::a) (AX t u):=by
 intro G s Z H vs us Q I r h;obtain⟨v,vr,e1,h⟩:=h;subst e1;cases r with
 |cons r d=>
   rw[g];refine assignInOrder_cons (br (j G s Z H _ _ _ I r h) λ_ c ⟨b,H1,k,f⟩=>?_);exact i G c b H1 _ _ Q k d f
def RV(K:F0)(n:Nat)(t:Tv):TG:=λv Z H Q=>∃a xs,v=.ref a/\SqT K H a xs/\xs.length=n/\t xs Z H Q
def Pj(q:X.calm=true)(h:Xj X c t)
 (m:(assignEach c X.env).length=n:=by rfl) (f:(assignEach c X.env).findIdx? (·.1)=none:=by rfl):PG X (.Tuple c k pos) (RV X.K n t):=by
 intro G s Z H v u Q I r d;obtain⟨a,xs,e1,l,p,d⟩:=d;subst e1;cases r;obtain⟨its,g,j,hz⟩:=I.tuple l;refine assign_Tuple_tuple (I.ok.hd q) j (by simp[m,<-p,g.length]) f λh' i=>?_;have w:Inv X G Z H {s with heap:=h'}:=I.kept (t':=s.toks) λb o e=>i b o (Zg (YV e)) e;exact h G _ Z H xs _ Q w (by simpa using g) d
def RW(to a:TE)(t:Tu):TG:=λv Z H Q=>to Z H λo H1=>a Z H1 λi c=>t o i v c λb=>Q Z b
def Pk(m:PE X o to)(hi:PE X i b)(l:Xi X t)
 (n:∀v,assign (.Subscript o i pos) X.env v=(do
   let ov <-holding [v] (eval o X.env)
   let a <-holding [v,ov] (eval i X.env)
   standAt pos
   holding [v,ov,a] (setItem ov a v)
   release [v,ov,a] []):=by intro _;rfl):PG X (.Subscript o i pos) (RW to b t):=by
 intro G s Z H v u Q I r h;rw[n];refine YH (Z2 (br (m G s Z H _ I h) λov d ⟨x,H1,w,f,k⟩=>?_));refine YH (Z2 (br (hi G d Z H1 _ w k) λa c ⟨y,A,q,e,j⟩=>?_));refine YH (Ag7 (YH (Z2 (br (l G c Z A x y v ov a u _ q f e r j) λ_ B ⟨z,p,g⟩=>?_))));exact wpAny_release ⟨Z,z,p,g⟩
def qS(te:TE)(g:TG):TS:=λD Z H=>te Z H λx H1=>g x Z H1 D.nx
def Pb(k:PE X e te)(j:PG X a g)(i:swapsWithSole [a] e pos.line X.env=pure false:=by rfl)(f:swappedStores [a] e X.env=pure none:=by rfl)
 (l:(assignEach [a] X.env).map (·.2)=[assign a X.env]:=by rfl):PS X (.Assign [a] e pos) (qS te g):=by
 intro G s Z H D I h;refine wpAny_Assign_stores (br (k G s Z H _ I h) λv b ⟨x,H1,m,c,d⟩=>?_) i f;rw[l];exact br (j G b Z H1 x v _ m c d) λ_ n q=>q
def O6(k:X.N.Nodup)(hi:X.N[i]?=some x)(d:Tz X.env.scope x)(j:PE X e te)(f:swapsWith e (some (.Name x a)) pos.line X.env=pure false:=by rfl)(g:X.fn x=true\/X.env.scope.names.lookup x=some .local:=by first | exact .inl rfl | exact .inr rfl | assumption):
 PS X (.Assign [.Name x a] e pos) (qS te (dg i)):=by
 intro G s Z H D I h;refine wpAny_Assign_Name (br (j G s Z H _ I h) λv o ⟨y,H1,m,b,c⟩=>?_) f;exact nI m k hi d b (λn l=>⟨_,H1,l,c⟩) g
def T3(i:Nat)(te:TE)(a:XF):TS:=λD Z H=>∃x,Z[i]?=some (some x)/\te Z H λy H1=>a x y H1 λz b=>D.nx (Z.set i (some z)) b
def Pa(P:X.N.Nodup)(hi:X.N[i]?=some x)(n:Tz X.env.scope x)(M:PE X e te)(E:YA X op o)(L:X.fn x=true\/X.env.scope.names.lookup x=some .local:=by first | exact .inl rfl | exact .inr rfl | assumption):
 PS X (.AugAssign (.Name x g) op e pos) (T3 i te o):=by
 intro G s Z H D I h;obtain⟨v,e1,h⟩:=h;obtain⟨m,F,K⟩:=I.loc;have j:XD X.env.scope x:=by rcases n with k|k;exact .inl k;exact .inr (.inl k)
 obtain⟨u,r,l⟩:=K i x v hi e1 j;refine wpAny_AugAssign_Name ?_
 have go:wpAny (model X.prog X.w) X.A (eval e X.env) (λw f=>wpAny (model X.prog X.w) X.A (inplaceOp op u w) (λr d=>wpAny (model X.prog X.w) X.A (storeName X.env x r) (λ_=>SP X G D .next) X.xe d) X.xe f) X.xe s:=by
  refine br (M G s Z H _ I h) λw p ⟨y,H1,S,t,C⟩=>?_;refine br (E G p Z H1 v y u w _ S r t C) λz W ⟨U,T,R,q,B⟩=>?_;exact nI R P hi n q (λV Q=>⟨_,T,Q,B⟩) L
 rcases l with ⟨a,J⟩|⟨a,c,O,b⟩
 ·exact wpAny_loadName_local I.ok.kind a F J go
 · rcases a with a|a
   ·exact wpAny_loadName_cell I.ok.kind a O b go
   · rcases n with k|k
     · have:X.env.scope.names.lookup x=some .free:=a
       rw[k]at this;cases this
     · have:X.env.scope.names.lookup x=some .free:=a
       rw[k]at this;cases this
def ipI(f:Int->Int->Int):XF:=λx y H Q=>∃i j,x=.int i/\y=.int j/\Q (.int (f i j)) H
def HG:YA X .Add (ipI λi j=>i+j):=by
 intro G s Z H x y v u Q I b a h;obtain⟨i,j,e1,c,q⟩:=h;subst e1;subst c;obtain⟨t,rfl⟩:=b;obtain⟨t',rfl⟩:=a;exact iadd_int ⟨.int _,H,I.tok _,⟨_,rfl⟩,q⟩
end
section
variable{X:Cx}{pos:Pos}
def xU(c:TT)(tb:TS):TS:=λD Z H=>∃W:Nat->St->Hp->Prop,(∃m,W m Z H)/\∀m Z H,W m Z H->
 c Z H λb H1=>if b=true then ∃N:St->Hp->Prop,(∀a H',N a H'->∃d,d<m/\W d a H')/\tb {D with nx:=N,ct:=N,bk:=D.nx} Z H1 else D.nx Z H1
def E7(hp:PassesOwn (model X.prog X.w) X.A X.env X.xe)(J:PT X c tc)(K:PSs X e tb):PS X (.While c e [] pos) (xU tc tb):=by
 intro G s Z H D I h;obtain⟨W,⟨F,z⟩,i⟩:=h;refine wpAny_While (codeAny_whileLoop (λn E=>∃g H',Inv X G g H' E/\W n g H') ?_ F ⟨Z,H,I,z⟩);rintro n C ⟨d,H1,L,y⟩;refine ZB hp (br (J G C d H1 _ L (i n d H1 y)) λb B ⟨x,u,l⟩=>?_);cases b with
 |true=>
   obtain⟨N,t,l⟩:=l;rw[YG rfl];refine ZB hp (br (K G B d x _ u l) λf M k=>?_);cases f with
   |next=>
     obtain⟨a,j,r,o⟩:=k;obtain⟨p,q,m⟩:=t a j o;exact⟨p,q,a,j,r,m⟩
   |cont=>
     obtain⟨a,j,r,o⟩:=k;obtain⟨p,q,m⟩:=t a j o;exact⟨p,q,a,j,r,m⟩
   |brk=>exact k
   |ret v=>exact k
 |false=>
   rw[on YW];exact Ad0 ⟨d,x,u,l⟩
end
structure It where
 go:Nat->Hp->Prop
 yld:Nat->Hp->V->Hp->Prop
 stop:Nat->Hp->Prop
def qN(X:Cx)(G:L9)(H:Hp)(b:Addr):Prop:=
 H b=none/\b≠X.env.locals/\b∉X.fs/\(b∈X.ex\/X.s₀.heap.objs.size<=b)/\(∀x c,X.env.cells.lookup x=some c->c≠b)/\∀p∈X.pn++G,p.1≠b
def Inv.fpOk{X:Cx}{H':Hp}{s:Shared}(I:Inv X G Z H s)(a:s.heap.objs.size<=b)(d:H' b=none):qN X G H' b:=by
 refine⟨d,Nat.ne_of_gt (Zd I.lt a),I.nofs a,.inr (Ze I.sz a),λx c e z=>?_,λp hp z=>?_⟩
 ·obtain⟨v,q⟩:=I.cell x c e;exact absurd (Zd q.lt (by rw[z];exact a)) (ZG _)
 ·exact absurd (Zd (YV (I.pin p hp).1) (by rw[z];exact a)) (ZG _)
structure Turn (P:Program) (w:World) (K:F0) (tg:Expr) (J:It) (fp:List Addr) (it:Addr) (tn:Nat->Heap->Prop):Prop where
 mem:it∈fp
 obj:∀i h,tn i h->∀b∈fp,∃o,h.get? b=some o/\∀v,o.data≠ .cell v
 keep:∀i h h',tn i h->(∀b∈fp,∀o,h.get? b=some o->h'.get? b=some o)->tn i h'
 item:∀(X:Cx),X.prog=P->X.w=w->X.K=K->X.calm=true->∀(i:Nat) (G:L9) (s:Shared) (Z:St) (H:Hp) (E:LV),Inv X G Z H s->(∀b∈fp,qN X G H b)->tn i s.heap->J.go i H->
  wpAny (model P w) X.A (pyNext (.ref it)) (λr s1=>∃u,r=some u/\
   wpAny (model P w) X.A (letOwnedTupleGo tg (.ref it) u) (λ_ s2=>∃x H',Inv X G Z H' s2/\RelV x u/\J.yld i H x H'/\tn (i+1) s2.heap/\∀b∈fp,H' b=none) E s1) E s
 done:∀(X:Cx),X.prog=P->X.w=w->X.K=K->X.calm=true->∀(i:Nat) (G:L9) (s:Shared) (Z:St) (H:Hp) (E:LV),Inv X G Z H s->(∀b∈fp,qN X G H b)->tn i s.heap->J.stop i H->
  wpAny (model P w) X.A (pyNext (.ref it)) (λr s1=>r=none/\Inv X G Z H s1) E s
 self:∀(A:Around) (i:Nat) (s:Shared) (Q:LV) (E:LV),tn i s.heap->Q (.ref it) s->wpAny (model P w) A (pyIter (.ref it)) Q E s
abbrev TI:=St->Hp->(It->Hp->Prop)->Prop
def PIE(X:Cx)(G:L9)(Z:St)(f:Expr)(R:It->Hp->Prop)(a:Value)(c:Shared):Prop:=
 ∃(d:Addr) (e:List Addr) (tn:Nat->Heap->Prop) (J:It) (H':Hp),a=.ref d/\Inv X G Z H' c/\Turn X.prog X.w X.K f J e d tn/\tn 0 c.heap/\(∀b∈e,qN X G H' b)/\R J H'
def PI(X:Cx)(b iter:Expr)(a:TI):Prop:=
 ∀(G:L9) (s:Shared) (Z:St) (H:Hp) (R:It->Hp->Prop),Inv X G Z H s->a Z H R->
  wpAny (model X.prog X.w) X.A (eval iter X.env) (λv c=>wpAny (model X.prog X.w) X.A (pyIter v) (PIE X G Z b R) X.xe c) X.xe s
def AV{s:Shared}{o:Obj}{Q:Unit->Shared->Prop}(d:s.heap.get? c=some o)(f:o.cls=.type n)(hd:o.data=.fields vs)
 (e:["enumerate","zip","dict_itemiterator","dict_reverseitemiterator","odict_iterator","itertools.zip_longest","itertools.pairwise"].contains n=false) (a:Q () s):wpAny M A (letOwnedTupleGo b (.ref c) u) Q E s:=by
 unfold letOwnedTupleGo
 cases b <;> first
  |exact YR a
  | (cases u <;> first
      |exact YR a
      | (refine YH (wpAny_load d ?_)
         rw[f,hd];show wpAny M A (if (["enumerate","zip","dict_itemiterator","dict_reverseitemiterator","odict_iterator","itertools.zip_longest","itertools.pairwise"].contains n&&vs[0]?==some (rawInt _))=true then _ else _) Q E s;rw[on (by intro h;rw[e,Bool.false_and]at h;cases h)]
         exact YR a))
def YE(K:F0)(a:Addr):It:=
 ⟨λi H=>∃xs x,SqL K H a xs/\xs[i]?=some x,λi H x H'=>H'=H/\∀xs,SqL K H a xs->xs[i]?=some x,λi H=>∃xs,SqL K H a xs/\xs.length<=i⟩
def Xm(lo:Int)(n:Nat):It:=⟨λi _=>i<n,λi H x H'=>H'=H/\x=.int (lo+i),λi _=>n<=i⟩
def Ca{P:Program}{w:World}{K:F0}{M:Expr}(a f:Addr):Turn P w K M (YE K a) [f] f (λi h=>h.IsListIter f a i) where
 mem:=by simp
 obj:=λi h st b g=>by
  have e:b=f:=by simpa using g
  subst e;obtain⟨o,e,c,d⟩:=st;exact⟨o,e,λv z=>by rw[d]at z;cases z⟩
 keep:=λi h h' st k=>st.at λo e=>k f (by simp) o e
 item:=by
  intro X y r A L i G s Z H E I m st t;subst y r A;obtain⟨xs,x,l,q⟩:=t;obtain⟨its,n,p,hz⟩:=I.list l;obtain⟨u,R,O⟩:=n.get q;obtain⟨J,F,S,D,C,B⟩:=m f (by simp);refine wpAny_pyNext_list_item st p.isList (x:=u) (by simpa using R) λh' j N=>?_;have U:Inv X G Z H {s with heap:=h'}:=I.turned (t':=s.toks) (λb o g e=>(N.2 b g).trans e) J F D C B;obtain⟨o,e,c,d⟩:=id j;exact⟨u,rfl,AV (s:={s with heap:=h'}) e c d (by decide) ⟨x,H,U,O,⟨rfl,λV Q=>by rw[I.list_inj Q l];exact q⟩,j,λb g=>(m b g).1⟩⟩
 done:=by
  intro X y r A L i G s Z H E I m st t;subst y r A;obtain⟨xs,l,q⟩:=t;obtain⟨its,n,p,hz⟩:=I.list l;obtain⟨J,F,S,D,C,B⟩:=m f (by simp);have Y:=n.length;exact wpAny_pyNext_list_end (I.ok.hd L) st p.isList (by simp;omega) λh' T=>⟨rfl,I.turned (t':=s.toks) (λb o g e=>T b o g e) J F D C B⟩
 self:=λ_ _ _ _ _ st h=>wpAny_pyIter_listiter st h
def xQ{P:Program}{w:World}{K:F0}{C:Expr}(a:Addr)(lo:Int)(n:Nat):Turn P w K C (Xm lo n) [a] a (λi h=>IsRangeIter h a (lo+(i:Nat)*1) ((n:Int)-(i:Nat)) 1) where
 mem:=by simp
 obj:=λi h st b c=>by
  have e:b=a:=by simpa using c
  subst e
  exact⟨_,st,λv z=>by
   have B:Data.fields _=Data.cell v:=z
   cases B⟩
 keep:=λi h h' st k=>k a (by simp) _ st
 item:=by
  intro X m g p l i G s Z H E I f st j;subst m g p;obtain⟨y,x,J,u,r,q⟩:=f a (by simp);have W:=Walks.range (prog:=X.prog) (w:=X.w) (I.ok.hd l) a lo 1 n;refine W.item i s _ _ j st λv h' A F d D=>?_;obtain⟨t,rfl⟩:=F;have M:Inv X G Z H {s with heap:=h',toks:=A}:=I.turned (λb o c e=>D b o (by simpa using c) e) y x u r q;refine⟨_,rfl,AV (s:={s with heap:=h',toks:=A}) (n := "range_iterator") d rfl rfl (by decide) ⟨.int (lo+i),H,M,⟨t,?_⟩,⟨rfl,rfl⟩,d,λb c=>(f b c).1⟩⟩;rw[Int.mul_one]
 done:=by
  intro X m g p l i G s Z H E I f st j;subst m g p;obtain⟨y,x,J,u,r,q⟩:=f a (by simp);exact wpAny_pyNext_range_end (I.ok.hd l) st (by have:n<=i:=j;omega) λh' L=>⟨rfl,I.turned (t':=s.toks) (λb o c e=>L b o c e) y x u r q⟩
 self:=λ_ _ _ _ _ st h=>wpAny_pyIter_rangeiter st h
section
variable{X:Cx}{tg:Expr}
def sf(K:F0)(b:TE):TI:=λZ H R=>b Z H λx H1=>∃a,x=.ref a/\(∃xs,SqL K H1 a xs)/\R (YE K a) H1
def KM(k:PE X l f):PI X tg l (sf X.K f):=by
 intro G s Z H R I h;refine br (k G s Z H _ I h) λv c ⟨x,H1,d,g,i⟩=>?_;obtain⟨a,e,⟨xs,j⟩,q⟩:=i;subst e;cases g;obtain⟨its,n,p,hz⟩:=d.list j;refine Ad5 p.isList ?_;refine⟨c.heap.objs.size,[c.heap.objs.size],_,_,H1,rfl,d.kept (t':=c.toks) λb o e=>YN _ e,Ca a _,⟨_,Y4 _ rfl,rfl,rfl⟩,λb m=>?_,q⟩;have e:b=c.heap.objs.size:=by simpa using m
 subst e;exact d.fpOk (YY _) (d.hok.fresh (YY _))
def vd{s:Shared}{R:It->Hp->Prop}{lo:Int}(I:Inv X G Z H s)(i:-(2 ^ 62)<=lo)(h:lo<2 ^ 62)(g:-(2 ^ 62)<=hi)(f:hi<2 ^ 62)
 (q:R (Xm lo (hi-lo).toNat) H):wpAny (model X.prog X.w) X.A (pyIter (.ref s.heap.objs.size)) (PIE X G Z tg R) E {s with heap:=s.heap.push {cls:=.type "range",data:=.fields #[.int lo t,.int hi u,.int 1 v]},toks:=a}:=by
 refine wpAny_pyIter_range (IsRange.new ..) (small_one i h g f) ?_;have c:Inv X G Z H {s with heap:=s.heap.push {cls:=.type "range",data:=.fields #[.int lo t,.int hi u,.int 1 v]},toks:=a}:=I.kept λb o e=>YN _ e
 refine⟨(s.heap.push {cls:=.type "range",data:=.fields #[.int lo t,.int hi u,.int 1 v]}).objs.size,[(s.heap.push {cls:=.type "range",data:=.fields #[.int lo t,.int hi u,.int 1 v]}).objs.size],_,_,H,rfl,
  c.kept (t':=a) λb o e=>YN _ e,xQ _ lo (hi-lo).toNat,?_,λb d=>?_,q⟩
 · have e1:lo+((0:Nat):Int)*1=lo:=by simp
   have j:(((hi-lo).toNat:Nat):Int)-((0:Nat):Int)=Builtin.Range.rangeSize lo hi 1:=by rw[rangeSize_one];split<;>omega
   show IsRangeIter _ _ (lo+((0:Nat):Int)*1) ((((hi-lo).toNat:Nat):Int)-((0:Nat):Int)) 1;rw[e1,j];exact Y4 _ rfl
 · have e:b=(s.heap.push {cls:=.type "range",data:=.fields #[.int lo t,.int hi u,.int 1 v]}).objs.size:=by simpa using d
   subst e;exact c.fpOk (YY _) (c.hok.fresh (YY _))
def HK(ta:TA):TI:=λZ H R=>ta Z H λvs H1=>∃j:Int,vs=[.int j]/\-(2 ^ 62)<=j/\j<2 ^ 62/\R (Xm 0 j.toNat) H1
def HJ(ta:TA):TI:=λZ H R=>ta Z H λvs H1=>∃i j:Int,vs=[.int i,.int j]/\(-(2 ^ 62)<=i/\i<2 ^ 62/\-(2 ^ 62)<=j/\j<2 ^ 62)/\R (Xm i (j-i).toNat) H1
def Cw(k:Gl X "range")(i:X.mg "range" = none)(l:PA X [a] ta)(g:starEach [a] X.env=[(false,eval a X.env)]:=by rfl):PI X tg (.Call (.Name "range" p) [a] [] pos) (HK ta):=by
 intro G s Z H R I h;refine Call_ (jO I k i boot_range (Z1 (br (l pos G s Z H _ I h) λus n ⟨vs,H1,m,d,b⟩=>?_) g rfl));obtain⟨j,e,b,f,q⟩:=b;subst e;cases d with
 |cons r c=>
   cases c;obtain⟨t,rfl⟩:=r;exact call_range_1 (vd m (by omega) (by omega) b f (by simpa using q))
def Cv(v:Gl X "range")(u:X.mg "range" = none)(w:PA X [a,b] ta)(o:starEach [a,b] X.env=[(false,eval a X.env),(false,eval b X.env)]:=by rfl)(c:starEach [b] X.env=[(false,eval b X.env)]:=by rfl):
 PI X tg (.Call (.Name "range" p) [a,b] [] pos) (HJ ta):=by
 intro G s Z H R I h;refine Call_ (jO I v u boot_range (Z1 (br (w pos G s Z H _ I h) λus y ⟨vs,H1,x,g,f⟩=>?_) (by rw[o,c]) (by rw[c];rfl)));obtain⟨i,j,e,⟨f,n,m,l⟩,q⟩:=f;subst e;cases g with
 |cons r d=>
   cases d with
   |cons k d=>
     cases d;obtain⟨t,rfl⟩:=r;obtain⟨t',rfl⟩:=k;exact call_range_2 (vd x f n m l q)
def Ox(d:TI)(g:TG)(tb:TS):TS:=λD Z H=>d Z H λJ H1=>∃W:Nat->Nat->St->Hp->Prop,(∃m,W 0 m Z H1)/\∀i m Z H,W i m Z H->
 (J.stop i H/\D.nx Z H)\/(J.go i H/\∃N:St->Hp->Prop,(∀a H',N a H'->∃c,c<m/\W (i+1) c a H')/\∀x H',J.yld i H x H'->g x Z H' λb e=>tb {D with nx:=N,ct:=N,bk:=D.nx} b e)
def nR(a:List Addr)(h:Heap):L9:=a.filterMap λb=>(h.get? b).map λo=>(b,o)
def gO{h:Heap}(c:b∈a)(e:h.get? b=some o):(b,o)∈nR a h:=Af1.mpr ⟨b,c,by rw[e];rfl⟩
def CG{h:Heap}{p:Addr×Obj}(hp:p∈nR a h):p.1∈a/\h.get? p.1=some p.2:=by
 obtain⟨b,c,e⟩:=Af1.mp hp;cases q:h.get? b with
 |none=>rw[q]at e;cases e
 |some o=>
   rw[q]at e;have d:(b,o)=p:=Y6 e;subst d;exact⟨c,q⟩
def Inv.pinned{s:Shared}(I:Inv X G Z H s)(h:∀b∈a,qN X G H b)(g:∀b∈a,∃o,s.heap.get? b=some o/\∀v,o.data≠ .cell v):Inv X (G++nR a s.heap) Z H s:=
 I.pins_of λp hp=>(YX.mp hp).elim (λz=>I.pin p (YL _ z)) λz=>by
  obtain⟨c,e⟩:=CG z;obtain⟨k,j,i,_⟩:=h p.1 c;obtain⟨o,f,d⟩:=g p.1 c;rw[e]at f;cases f;exact⟨e,k,j,i,d⟩
def Inv.unpinned(I:Inv X (G++pl) Z H s):Inv X G Z H s:=I.pins_of λp hp=>I.pin p (YL _ (YU _ hp))
def O8(hp:PassesOwn (model X.prog X.w) X.A X.env X.xe)(hc:X.calm=true)(hi:PI X tg iter wi)(hg:PG X tg g)(l:PSs X z tb)
 (hs:∀x,foldedSetIterable iter X.env x=pure x:=by intro _;rfl):PS X (.For tg iter z [] pos) (Ox wi g tb):=by
 intro G s Z H D I h;refine wpAny_For (br (hi G s Z H _ I h) λv s1 h1=>br h1 λitv s2 h2=>?_) hs;obtain⟨it,M,tn,J,H2,e,I2,T,R,f2,W,⟨m0,w0⟩,C⟩:=h2;subst e
 -- what Q true of the y F through the loop
 have k:∀{H':Hp},(∀b∈M,H' b=none)->∀b∈M,qN X G H' b:=λhn b l=>⟨hn b l,(f2 b l).2⟩;refine codeAny_forLoop_any (λn s'=>∃i j H',Inv X G j H' s'/\tn i s'.heap/\(∀b∈M,H' b=none)/\W i n j H') ?_ m0 ⟨0,Z,H2,I2,R,λb l=>(f2 b l).1,w0⟩;rintro n s3 ⟨i,c,O,I3,E,L,w3⟩;rcases C i n c O w3 with ⟨stop,qn⟩|⟨go,N,hN,step⟩
 ·refine ZB hp (br (T.done X rfl rfl rfl hc i G s3 c O X.xe I3 (k L) E stop) λr s4 ⟨U,I4⟩=>?_);subst U;exact Ad0 ⟨c,O,I4,qn⟩
 · refine ZB hp (br (T.item X rfl rfl rfl hc i G s3 c O X.xe I3 (k L) E go) λr s4 ⟨u,U,h4⟩=>?_);subst U;refine ZB hp (br h4 λ_ s5 ⟨x,H5,I5,r5,y5,B,V⟩=>?_);have Y:=I5.pinned (k V) (T.obj _ _ B);refine ZB hp (br (hg _ s5 c H5 x u _ Y r5 (step x H5 y5)) λ_ s6 ⟨P,H6,I6,q6⟩=>?_);refine ZB hp (br (l _ s6 P H6 _ I6 q6) λf S t=>?_)
   have again:∀{a:St} {q:Hp},Inv X (G++nR M s5.heap) a q S->N a q->∃m,m<n/\∃i j H',Inv X G j H' S/\tn i S.heap/\(∀b∈M,H' b=none)/\W i m j H':=λ{a q} p K=>by
    obtain⟨m',hm,w7⟩:=hN a q K;refine⟨m',hm,i+1,a,q,p.unpinned,T.keep _ _ _ B λb l o e=>(p.pin (b,o) (YL _ (YL _ (gO l e)))).1,λb l=>?_,w7⟩;obtain⟨o,e,d⟩:=T.obj _ _ B b l;exact(p.pin (b,o) (YL _ (YL _ (gO l e)))).2.1
   cases f with
   |next=>obtain⟨a,q,p,K⟩:=t;exact again p K
   |cont=>obtain⟨a,q,p,K⟩:=t;exact again p K
   |brk=>obtain⟨a,q,p,t⟩:=t;exact⟨a,q,p.unpinned,t⟩
   |ret v=>obtain⟨x7,a,q,p,r7,t⟩:=t;exact⟨x7,a,q,p.unpinned,r7,t⟩
end
abbrev R2:=V->V->Hp->VK->Prop
def jt(X:Cx)(f:Value->Value->Sem Value)(r:R2):Prop:=
 ∀(G:L9) (s:Shared) (Z:St) (H:Hp) (x y:V) (v u:Value) (Q:VK),Inv X G Z H s->RelV x v->RelV y u->r x y H Q->
  wpAny (model X.prog X.w) X.A (f v u) (EP X G Z Q) X.xe s
def XE(X:Cx)(f:Value->Sem Value)(r:V->Hp->VK->Prop):Prop:=
 ∀(G:L9) (s:Shared) (Z:St) (H:Hp) (x:V) (v:Value) (Q:VK),Inv X G Z H s->RelV x v->r x H Q->
  wpAny (model X.prog X.w) X.A (f v) (EP X G Z Q) X.xe s
def cQ(X:Cx)(f:Value)(r:List V->Hp->VK->Prop):Prop:=
 ∀(G:L9) (s:Shared) (Z:St) (H:Hp) (xs:List V) (us:List Value) (Q:VK),Inv X G Z H s->Vals xs us->r xs H Q->
  wpAny (model X.prog X.w) X.A (call f us) (EP X G Z Q) X.xe s
def DM(r:R2)(ta tb:TE):TE:=λZ H Q=>ta Z H λx H1=>tb Z H1 λy a=>r x y a Q
def XN(r:V->Hp->VK->Prop)(ta:TE):TE:=λZ H Q=>ta Z H λx H1=>r x H1 Q
def rI(C:Int->Int->Prop)(g:Int->Int->V):R2:=λx y H Q=>∃i j,x=.int i/\y=.int j/\C i j/\Q (g i j) H
def yn(g:Int->Int->V):R2:=λx y H Q=>∃i j,x=.int i/\y=.int j/\Q (g i j) H
def rU(g:Int->V):V->Hp->VK->Prop:=λx H Q=>∃i,x=.int i/\Q (g i) H
section
variable{X:Cx}{a b c:Expr}{ta tb tc:TE}{pos:Pos}
def Tf(p:PE X a ta)(o:PE X b tb){R:V->V->Hp->Prop}(I:Inv X G Z H s)
 (h:ta Z H λx H1=>tb Z H1 λy c=>R x y c)  {f:Value->Value->Sem Value}
 (n:∀v u g x y c,Inv X G Z c g->RelV x v->RelV y u->R x y c->wpAny (model X.prog X.w) X.A (f v u) Q X.xe g):
 wpAny (model X.prog X.w) X.A (eval a X.env) (λv e=>wpAny (model X.prog X.w) X.A (eval b X.env) (λu d=>wpAny (model X.prog X.w) X.A (f v u) Q X.xe d) X.xe e) X.xe s:=by
 refine br (p G s Z H _ I h) λv i ⟨x,H1,r,k,m⟩=>?_;refine br (o G i Z H1 _ r m) λu g ⟨y,c,q,j,l⟩=>?_;exact n v u g x y c q k j l
def UH(f:jt X (binaryOp op) r)(i:PE X a ta)(g:PE X b tb):PE X (.BinOp a op b pos) (DM r ta tb):=by
 intro G s Z H Q I h;exact wpAny_BinOp (Tf i g I h λv u c x y k j e d q=>f G c Z k x y v u Q j e d q)
def UF(e:XE X (unaryOp op) r)(f:PE X a ta):PE X (.UnaryOp op a pos) (XN r ta):=by
 intro G s Z H Q I h;exact UnaryOp_ (br (f G s Z H _ I h) λv b ⟨x,H1,g,c,d⟩=>e G b Z H1 x v Q g c d)
def Xs{f:Value->Value->Sem Value}{C:Int->Int->Prop}{g:Int->Int->Int}
 (rule:∀(i j:Int) (t u:Tok) (s:Shared) (Q:LV) (E:LV),C i j->Q (.int (g i j) s.toks) {s with toks:=s.toks+1}->wpAny (model X.prog X.w) X.A (f (.int i t) (.int j u)) Q E s):
 jt X f (rI C λi j=>.int (g i j)):=by
 intro G s Z H x y v u Q I b a h;obtain⟨i,j,rfl,rfl,c,q⟩:=h;obtain⟨t,rfl⟩:=b;obtain⟨t',rfl⟩:=a;exact rule i j t t' s _ _ c ⟨.int (g i j),H,I.tok _,⟨_,rfl⟩,q⟩
def Vf{f:Value->Value->Sem Value}{g:Int->Int->Int}
 (rule:∀(i j:Int) (t u:Tok) (s:Shared) (Q:LV) (E:LV),Q (.int (g i j) s.toks) {s with toks:=s.toks+1}->wpAny (model X.prog X.w) X.A (f (.int i t) (.int j u)) Q E s):
 jt X f (yn λi j=>.int (g i j)):=by
 intro G s Z H x y v u Q I b a h;obtain⟨i,j,rfl,rfl,q⟩:=h;obtain⟨t,rfl⟩:=b;obtain⟨t',rfl⟩:=a;exact rule i j t t' s _ _ ⟨.int (g i j),H,I.tok _,⟨_,rfl⟩,q⟩
def Qm{f:Value->Value->Sem Value}{g:Int->Int->Bool}
 (rule:∀(i j:Int) (t u:Tok) (s:Shared) (Q:LV) (E:LV),Q (.bool (g i j)) s->wpAny (model X.prog X.w) X.A (f (.int i t) (.int j u)) Q E s):
 jt X f (yn λi j=>.bl (g i j)):=by
 intro G s Z H x y v u Q I b a h;obtain⟨i,j,rfl,rfl,q⟩:=h;obtain⟨t,rfl⟩:=b;obtain⟨t',rfl⟩:=a;exact rule i j t t' s _ _ ⟨.bl (g i j),H,I,rfl,q⟩
def TC(i j:Int):Prop:=0<j/\j<1073741824
def CMul(i j:Int):Prop:=(-(2 ^ 64)<i/\i<2 ^ 64)\/(-(2 ^ 64)<j/\j<2 ^ 64)
def CMul.ok(h:CMul i j):IntMulOk i j:=by
 rcases h with ⟨b,a⟩|⟨b,a⟩
 ·exact .of_left (intBits_le_64 b a)
 ·exact .of_right (intBits_le_64 b a)
def xP(k:Nat):(0:Int)<=2 ^ k:=by
 rw[two_pow_cast];exact Int.natCast_nonneg _
def Ql:jt X (binaryOp .Add) (yn λi j=>.int (i+j)):=Vf λ_ _ _ _ _ _ _ q=>add_int q
def P9:jt X (binaryOp .Sub) (yn λi j=>.int (i-j)):=Vf λ_ _ _ _ _ _ _ q=>sub_int q
def Qd:jt X (binaryOp .Mult) (rI CMul λi j=>.int (i*j)):=Xs λ_ _ _ _ _ _ _ a q=>mul_int q a.ok
def Lg:jt X (binaryOp .FloorDiv) (rI TC λi j=>.int (i / j)):=Xs λi j _ _ _ _ _ a q=>by
 have c:(0:Int)<j:=a.1;have b:j<1073741824:=a.2;exact floordiv_int (by omega) (by rw[Af2 i (by omega)];exact q) (.inl (PyProof.noPylong_small (by omega)))
def Qf:jt X (binaryOp .Mod) (rI (λ_ j=>0<j) λi j=>.int (i%j)):=Xs λi j _ _ _ _ _ a q=>by
 have b:(0:Int)<j:=a;exact mod_int' (by omega) (by rw[Int.fmod_eq_emod_of_nonneg i (by omega)];exact q)
def Qa:jt X (binaryOp .RShift) (rI (λ_ j=>0<=j) λi j=>.int (i / 2 ^ j.toNat)):=Xs λi j _ _ _ _ _ a q=>
 rshift_int a (by rw[Af2 i (xP _)];exact q)
def unI{f:Value->Sem Value}{g:Int->Int}
 (rule:∀(i:Int) (t:Tok) (s:Shared) (Q:LV) (E:LV),Q (.int (g i) s.toks) {s with toks:=s.toks+1}->wpAny (model X.prog X.w) X.A (f (.int i t)) Q E s):
 XE X f (rU λi=>.int (g i)):=by
 intro G s Z H x v Q I a h;obtain⟨i,rfl,q⟩:=h;obtain⟨t,rfl⟩:=a;exact rule i t s _ _ ⟨.int (g i),H,I.tok _,⟨_,rfl⟩,q⟩
def Om:XE X (unaryOp .USub) (rU λi=>.int (-i)):=unI λ_ _ _ _ _ q=>neg_int q
end
def OF:V->V->Bool
 |.non,.non=>true | .non,.int _=>true | .int _,.non=>true | .non,.bl _=>true | .bl _,.non=>true | .non,.str _=>true | .str _,.non=>true
 |.int _,.int _=>true | .bl _,.bl _=>true | .str _,.str _=>true | .byt _,.byt _=>true
 |.int _,.str _=>true | .str _,.int _=>true | .bl _,.str _=>true | .str _,.bl _=>true
 |_,_=>false
def rEq:R2:=λx y H Q=>OF x y=true/\Q (.bl (decide (x=y))) H
def rNe:R2:=λx y H Q=>OF x y=true/\Q (.bl (!decide (x=y))) H
def A5:decide (V.int i=V.int j)=(i==j):=by
 rw[Ae3];simp
def Ij:decide (V.bl i=V.bl j)=(i==j):=by
 rw[Ae3];simp
def A4:decide (V.str i=V.str j)=(i==j):=by
 rw[Ae3];simp
def A6{i j:Array UInt8}:decide (V.byt i=V.byt j)=(i.toList==j.toList):=by
 rw[Ae3];cases i;cases j;simp
section
variable{X:Cx}{a b c:Expr}{ta tb tc:TE}{pos:Pos}
def aY{G:L9}{Z:St}{H:Hp}{s:Shared}{Q:VK}{k a:Bool}(I:Inv X G Z H s)(q:Q (.bl k) H)(e:k=a):EP X G Z Q (.bool a) s:=by
 subst e;exact⟨.bl k,H,I,rfl,q⟩
def Ve:jt X (compareOp .Eq) rEq:=by
 intro G s Z H x y v u Q I c a h;obtain⟨b,q⟩:=h;cases x with
 |non=>
   cases c;cases y with
   |non=>cases a;exact PySem.EqNone.eq_none_none (aY I q (by simp))
   |bl j=>cases a;exact PySem.EqNone.eq_none_bool (aY I q (by simp))
   |int j=>obtain⟨t',rfl⟩:=a;exact PySem.EqNone.eq_none_int (aY I q (by simp))
   |str j=>obtain⟨t',rfl⟩:=a;exact PySem.EqNone.eq_none_str (aY I q (by simp))
   |_=>exact absurd (show false=true from b) YW
 |bl i=>
   cases c;cases y with
   |non=>cases a;exact PySem.EqNone.eq_bool_none (aY I q (by simp))
   |bl j=>cases a;exact eq_bool (aY I q Ij)
   |str j=>obtain⟨t',rfl⟩:=a;exact PySem.EqMixed.eq_bool_str (aY I q (by simp))
   |_=>exact absurd (show false=true from b) YW
 |int i=>
   obtain⟨t,rfl⟩:=c;cases y with
   |non=>cases a;exact PySem.EqNone.eq_int_none (aY I q (by simp))
   |int j=>obtain⟨t',rfl⟩:=a;exact eq_int (aY I q A5)
   |str j=>obtain⟨t',rfl⟩:=a;exact PySem.EqMixed.eq_int_str (aY I q (by simp))
   |_=>exact absurd (show false=true from b) YW
 |str i=>
   obtain⟨t,rfl⟩:=c;cases y with
   |non=>cases a;exact PySem.EqNone.eq_str_none (aY I q (by simp))
   |bl j=>cases a;exact PySem.EqMixed.eq_str_bool (aY I q (by simp))
   |int j=>obtain⟨t',rfl⟩:=a;exact PySem.EqMixed.eq_str_int (aY I q (by simp))
   |str j=>obtain⟨t',rfl⟩:=a;exact eq_str (aY I q A4)
   |_=>exact absurd (show false=true from b) YW
 |byt i=>
   obtain⟨t,rfl⟩:=c;cases y with
   |byt j=>obtain⟨t',rfl⟩:=a;exact PySem.W.eq_bytes (aY I q A6)
   |_=>exact absurd (show false=true from b) YW
 |_=>cases y<;>exact absurd (show false=true from b) YW
def Va:jt X (compareOp .NotEq) rNe:=by
 intro G s Z H x y v u Q I c a h;obtain⟨b,q⟩:=h;cases x with
 |non=>
   cases c;cases y with
   |non=>cases a;exact PySem.EqNone.ne_none_none (aY I q (by simp))
   |bl j=>cases a;exact PySem.EqNone.ne_none_bool (aY I q (by simp))
   |int j=>obtain⟨t',rfl⟩:=a;exact PySem.EqNone.ne_none_int (aY I q (by simp))
   |str j=>obtain⟨t',rfl⟩:=a;exact PySem.EqNone.ne_none_str (aY I q (by simp))
   |_=>exact absurd (show false=true from b) YW
 |bl i=>
   cases c;cases y with
   |non=>cases a;exact PySem.EqNone.ne_bool_none (aY I q (by simp))
   |bl j=>cases a;exact ne_bool (aY I q (congrArg not Ij))
   |str j=>obtain⟨t',rfl⟩:=a;exact PySem.EqMixed.ne_bool_str (aY I q (by simp))
   |_=>exact absurd (show false=true from b) YW
 |int i=>
   obtain⟨t,rfl⟩:=c;cases y with
   |non=>cases a;exact PySem.EqNone.ne_int_none (aY I q (by simp))
   |int j=>obtain⟨t',rfl⟩:=a;exact ne_int (aY I q (congrArg not A5))
   |str j=>obtain⟨t',rfl⟩:=a;exact PySem.EqMixed.ne_int_str (aY I q (by simp))
   |_=>exact absurd (show false=true from b) YW
 |str i=>
   obtain⟨t,rfl⟩:=c;cases y with
   |non=>cases a;exact PySem.EqNone.ne_str_none (aY I q (by simp))
   |bl j=>cases a;exact PySem.EqMixed.ne_str_bool (aY I q (by simp))
   |int j=>obtain⟨t',rfl⟩:=a;exact PySem.EqMixed.ne_str_int (aY I q (by simp))
   |str j=>obtain⟨t',rfl⟩:=a;exact ne_str (aY I q (congrArg not A4))
   |_=>exact absurd (show false=true from b) YW
 |byt i=>
   obtain⟨t,rfl⟩:=c;cases y with
   |byt j=>obtain⟨t',rfl⟩:=a;exact PySem.W.ne_bytes (aY I q (congrArg not A6))
   |_=>exact absurd (show false=true from b) YW
 |_=>cases y<;>exact absurd (show false=true from b) YW
def Vb:jt X (compareOp .Lt) (yn λi j=>.bl (decide (i<j))):=Qm λ_ _ _ _ _ _ _ q=>lt_int q
def Vc:jt X (compareOp .Gt) (yn λi j=>.bl (decide (j<i))):=Qm λ_ _ _ _ _ _ _ q=>gt_int q
def Vd:jt X (compareOp .GtE) (yn λi j=>.bl (decide (j<=i))):=Qm λ_ _ _ _ _ _ _ q=>ge_int q
def Qh:jt X (compareOp .Is) (λx y H Q=>y=.non/\Q (.bl (decide (x=.non))) H):=by
 intro G s Z H x y v u Q I a b h;obtain⟨rfl,q⟩:=h;cases b;refine is_none_gen (aY I q ?_)
 cases x <;> first
  |(cases a;rfl)
  |(obtain⟨t,rfl⟩:=a;rfl)
def Lc:jt X (compareOp .IsNot) (λx y H Q=>y=.non/\Q (.bl (!decide (x=.non))) H):=by
 intro G s Z H x y v u Q I a b h;obtain⟨rfl,q⟩:=h;cases b;refine isnot_none_gen (aY I q ?_)
 cases x <;> first
  |(cases a;rfl)
  |(obtain⟨t,rfl⟩:=a;rfl)
def K0(f:jt X (compareOp op) r)(j:PE X a ta)(i:PE X b tb)(g:behindInMarks op b=false):PE X (.Compare a [op] [b] pos) (DM r ta tb):=by
 intro G s Z H Q I h;exact wpAny_Compare1 (Tf j i I h λv u c x y l k e d q=>f G c Z l x y v u Q k e d q) g
def D4(t:TE):TT:=λZ H Q=>t Z H λx H'=>∃k,x=.bl k/\Q k H'
def Ku(o:jt X (compareOp op) r)(t:PE X a ta)(q:PE X b tb)(p:behindInMarks op b=false):PT X (.Compare a [op] [b] pos) (D4 (DM r ta tb)):=by
 intro G s Z H Q I h
 refine wpAny_isTrue_Compare1 (br (t G s Z H _ I h) λv f ⟨x,H1,B,j,n⟩=>br (q G f Z H1 _ B n) λu d ⟨y,D,A,i,m⟩=>
  br (o G d Z D x y v u _ A j i m) λc E ⟨z,C,w,g,k,e,l⟩=>?_) p
 subst e;cases g;exact ZP ⟨C,w,l⟩
def tU:(sizeLine:Nat)<2 ^ 63:=by rw[Ak3];decide
def zN(r:Vals [x] us):∃u,us=[u]/\RelV x u:=by
 cases r with
 |cons b a=>cases a;exact⟨_,rfl,b⟩
def DX(r:Vals [x,y] us):∃u a,us=[u,a]/\RelV x u/\RelV y a:=by
 cases r with
 |cons e d=>
   cases d with
   |cons c b=>cases b;exact⟨_,_,rfl,e,c⟩
def Du(b:X.calm=true):cQ X (.builtin "max") (λxs H Q=>∃i j,xs=[.int i,.int j]/\Q (.int (if j>i then j else i)) H):=by
 intro G s Z H xs us Q I r h;obtain⟨i,j,rfl,q⟩:=h;obtain⟨u,c,rfl,⟨t,rfl⟩,⟨t',rfl⟩⟩:=DX r;refine max_two_ints (I.ok.hd b) λh' d k=>⟨_,H,I.kept k,?_,q⟩;by_cases a:j>i
 ·rw[YG a,YG a];exact⟨_,rfl⟩
 ·rw[on a,on a];exact⟨_,rfl⟩
def Dt(b:X.calm=true):cQ X (.builtin "min") (λxs H Q=>∃i j,xs=[.int i,.int j]/\Q (.int (if j<i then j else i)) H):=by
 intro G s Z H xs us Q I r h;obtain⟨i,j,rfl,q⟩:=h;obtain⟨u,c,rfl,⟨t,rfl⟩,⟨t',rfl⟩⟩:=DX r;refine min_two_ints (I.ok.hd b) λh' d k=>⟨_,H,I.kept k,?_,q⟩;by_cases a:j<i
 ·rw[YG a,YG a];exact⟨_,rfl⟩
 ·rw[on a,on a];exact⟨_,rfl⟩
end
structure ObjM (h:Heap) (x dx C:Addr) (mA:Str->Option Value):Prop where
 obj:h.get? x=some (PySem.W.instObj C dx)
 ns:h.Ns1 dx mA
 ne:dx≠x
def CY{h:Heap}{d:Str->Option Value}(n:h.Ns1 dx d):∃c,h.get? dx=some c/\∀name,PySem.W.lookIn name c=some (d name):=by
 obtain⟨o,f,ep,i,hd,k,_,j⟩:=n;refine⟨o,i,λname=>?_⟩;have e:=j name;unfold nsFind findBy at e;rw[<-Array.find?_toList]at e;unfold PySem.W.lookIn;rw[hd];dsimp only;split
 ·rename_i y q;rw[q]at e;exact congrArg some e
 · rename_i q;rw[q]at e
   have a:f.toList.any (·.refKey)=false:=by
    rw[List.any_eq_false];intro y g;obtain⟨z,t,b⟩:=k y (Ae2.mp g);simp[DictEntry.refKey,b]
   have l:¬ f.toList.any (·.refKey)=true:=by rw[a];exact YW
   rw[on l];exact congrArg some e
def ObjM.look{b:Str->Option Value}(I:ObjM h x dx C b):∃a,PySem.W.InstAt h x (PySem.W.instObj C dx) C (some a)/\∀name,PySem.W.lookIn name a=some (b name):=
 let ⟨a,c,d⟩:=CY I.ns
 ⟨a,⟨I.obj,rfl,rfl,c⟩,d⟩
section
variable{prog:Program}{w:World}{A:Around}{E:LV}{s:Shared}{K:F0}{x dx C f:Addr}{mA:Str->Option Value}{name:Str}{v:Value}
def LX{Q:LV}(X:K.In s.heap)(I:ObjM s.heap x dx C mA)(f:PySem.W.plainGet K C name=true)(e:PySem.W.hasDictIn K C=true)
 (g:PySem.W.findIn K (.ref C) name=some none) (c:mA name=some v) (b:PySem.W.handedIn v=true) (h:Q v {s with toks:=s.toks+1}):
 wpAny (model prog w) A (getAttr (.ref x) name a) Q E s:=by
 obtain⟨i,J,d⟩:=I.look;exact PySem.W.get_value X J (Ae4 f).1 (PySem.W.findObj_own e g rfl (by rw[d,c])) b h
def HM{Q:Value×List Value->Shared->Prop}(X:K.In s.heap)(I:ObjM s.heap x dx C mA)(a:PySem.W.plainGet K C name=true)
 (g:PySem.W.findIn K (.ref C) name=some (some (.ref f))) (d:PySem.W.isFn K (.ref f)=true) (c:mA name=none) (h:Q (.ref f,[.ref x]) s):
 wpAny (model prog w) A (getMethod (.ref x) name pl) Q E s:=by
 obtain⟨b,J,e⟩:=I.look;exact PySem.W.method_fn X J (Ae4 a).1 (Ae4 a).2 g (Af3.mp d) (by show(PySem.W.lookIn name b).map (·.isSome)=some false;rw[e,c];rfl) h
def Ke{ns:List Str}{Q:Unit->Shared->Prop}(X:K.In s.heap)(I:ObjM s.heap x dx C mA)
 (m:PySem.W.findIn K (.ref C) "__setattr__" = some (some (.builtin "object.__setattr__"))) (hp:PySem.W.plainOver K C=true) (l:PySem.W.takerIn K C name=some none) (n:PySem.W.hasDictIn K C=true)
 (k:PySem.Within mA ns) (hsz:ns.length<=sizeLine)
 (h:∀h',ObjM h' x dx C (λy=>if y=name then some v else mA y)->Heap.SameBut dx s.heap h'->Q () {s with heap:=h',toks:=s.toks+2}):
 wpAny (model prog w) A (setAttr (.ref x) name v) Q E s:=by
 obtain⟨t,J,z⟩:=I.look;refine PySem.W.set_plain X J m (PySem.W.osa_open (s:={s with toks:=s.toks+1}) (r:=none) X J hp l λb=>?_);obtain⟨B,o,g⟩:=PySem.W.any_some n;have j:s.heap.get? x=some ⟨.ref C,some dx,.plain,#[]⟩:=I.obj;refine YH (YR (YH (YH (wpAny_loadPart j (YH (PySem.W.Looks.here (s:={s with toks:=s.toks+1}) (PySem.W.looks_clsIn X o) ?_))))));rw[g];refine YR (a:=some dx) (YH (YR (YH ?_)));refine wpAny_nsSet1 (s:={s with toks:=s.toks+1}) I.ns λh' d c=>?_;obtain⟨u,p,q,e,f,i⟩:=d.count (PySem.Within.cons name v k);refine YH (wpAny_lookBehind e (by rw[f];exact pastItsLine_dict (Ze i (by rw[YO];omega))) ?_);exact YR (h _ ⟨(c.2 _ (Aa7 I.ne)).trans I.obj,d,I.ne⟩ c)
def GD(X:K.In s.heap)(b:PySem.W.makesIn K C=true)
 (hi:PySem.W.findIn K (.ref C) "__init__" = some (some (.ref f))) (c:PySem.W.typeIn K (.ref f)=some (.type "function"))
 (h:codeAny (model prog w) (A.under (.builtin "type.__call__" ⟨.ref C::vs,a⟩)) (.call (.ref f) ⟨.ref (s.heap.objs.size+1)::vs,a⟩) (PySem.W.InitBack (s.heap.objs.size+1) R)
   {s with heap:=(s.heap.push PySem.W.emptyDict).push (PySem.W.instObj C s.heap.objs.size)}):
 codeAny (model prog w) A (.call (.ref C) ⟨vs,a⟩) R s:=by
 obtain⟨e,g,d,t,os⟩:=s;exact PySem.W.make_core (PySem.W.makes_of X b) (PySem.W.looks_findIn X hi) (λself=>PySem.W.bind_fn X self c) (.inl rfl) h
end
def fc(f:Str)(v:V):List (Str×V)->List (Str×V)
 |[]=>[(f,v)]
 |(g,x)::r=>if g=f then (g,v)::r else (g,x)::fc f v r
def mI(f g:Str)(v:V):∀fs:List (Str×V),(fc f v fs).lookup g=if g=f then some v else fs.lookup g
 | []=>by
   show List.lookup g [(f,v)]=_;by_cases h:g=f
   ·have a:(g==f)=true:=Af3.mpr h;simp only[List.lookup,a,YG h]
   ·have a:(g==f)=false:=Zp.mpr h;simp only[List.lookup,a,on h]
 | (k,x)::r=>by
   have c:=mI f g v r;rw[show fc f v ((k,x)::r)=(if k=f then (k,v)::r else (k,x)::fc f v r) from rfl];by_cases b:k=f
   · rw[YG b];by_cases h:g=k
     ·have a:(g==k)=true:=Af3.mpr h;simp only[List.lookup,a,YG (h.trans b)]
     ·have a:(g==k)=false:=Zp.mpr h;simp only[List.lookup,a,on (λe:g=f=>h (e.trans b.symm))]
   · rw[on b];by_cases h:g=k
     ·have a:(g==k)=true:=Af3.mpr h;simp only[List.lookup,a,on (λe:g=f=>b (h.symm.trans e))]
     ·have a:(g==k)=false:=Zp.mpr h;simp only[List.lookup,a];exact c
def lW(f:Str)(v:V):∀fs:List (Str×V),f∈(fc f v fs).map (·.1)/\∀g,g∈fs.map (·.1)->g∈(fc f v fs).map (·.1)
 |[]=>⟨by simp[fc],λg h=>by simp at h⟩
 | (k,x)::r=>by
   obtain⟨c,b⟩:=lW f v r;rw[show fc f v ((k,x)::r)=(if k=f then (k,v)::r else (k,x)::fc f v r) from rfl];by_cases a:k=f
   ·rw[YG a];subst a;exact⟨by simp,λg h=>by simpa using h⟩
   · rw[on a];refine⟨?_,λg h=>?_⟩
     ·rw[YI];exact YM _ c
     · rw[YI]at h ⊢;rcases YS.mp h with e|e
       ·exact YS.mpr (.inl e)
       ·exact YM _ (b g e)
def mM(f:Str)(v:V):∀fs:List (Str×V),(fc f v fs).length<=fs.length+1
 |[]=>by simp[fc]
 | (k,x)::r=>by
   have b:=mM f v r;rw[show fc f v ((k,x)::r)=(if k=f then (k,v)::r else (k,x)::fc f v r) from rfl];by_cases a:k=f
   ·rw[YG a,YO,YO];omega
   ·rw[on a,YO,YO];omega
def RelO.some_of(r:RelO (some v) o):∃u,o=some u/\RelV v u:=by
 cases o with
 |none=>exact(show False from r).elim
 |some u=>exact⟨u,rfl,r⟩
def RelO.none_of(r:RelO none o):o=none:=by
 cases o with
 |none=>rfl
 |some u=>exact(show False from r).elim
def Da(r:RelV v u):PySem.W.handedIn u=true:=by
 cases v with
 |non=>cases(show u=Value.none from r);rfl
 |bl b=>cases(show u=Value.bool b from r);rfl
 |int i=>obtain⟨t,e⟩:=(show ∃t,u=Value.int i t from r);cases e;rfl
 |str x=>obtain⟨t,e⟩:=(show ∃t,u=Value.str x t from r);cases e;rfl
 |byt b=>obtain⟨t,e⟩:=(show ∃t,u=Value.bytes b t from r);cases e;rfl
 |flt b=>obtain⟨t,e⟩:=(show ∃t,u=Value.float b t from r);cases e;rfl
 |ref a=>cases(show u=Value.ref a from r);rfl
 |ty n=>cases(show u=Value.type n from r);rfl
section
variable{P:Program}{w:World}{H H':Hp}{h h':Heap}{a C dx:Addr}{fs fs':List (Str×V)}
def nw(hok:HOk P w H h)(e:H a=some (.ins C dx fs)):∃b,ObjM h a dx C b/\(∀f,RelO (fs.lookup f) (b f))/\PySem.Within b (fs.map (·.1))/\fs.length<=1000/\H dx=some (.own a):=by
 obtain⟨d,z,ne,ob,b,n,r,q⟩:=(show ObjOk P w H h a (.ins C dx fs) from hok a _ e);exact⟨b,⟨ob,n,ne⟩,r,q,z,d⟩
end
structure Cls (K:F0) (C:Addr):Prop where
 pg:PySem.W.plainGet K C Str.empty=true
 hd:PySem.W.hasDictIn K C=true
 po:PySem.W.plainOver K C=true
 sa:PySem.W.findIn K (.ref C) "__setattr__" = some (some (.builtin "object.__setattr__"))
def Cls.get{K:F0}(c:Cls K C)(f:Str):PySem.W.plainGet K C f=true:=c.pg
def NoAttr(K:F0)(C:Addr)(f:Str):Prop:=PySem.W.findIn K (.ref C) f=some none
def NoAttr.taker{K:F0}(n:NoAttr K C f):PySem.W.takerIn K C f=some none:=by
 unfold PySem.W.takerIn;rw[show PySem.W.findIn K (.ref C) f=some none from n];rfl
structure Meth (K:F0) (C:Addr) (m:Str) (f:Addr):Prop where
 at_:PySem.W.findIn K (.ref C) m=some (some (.ref f))
 fn:PySem.W.isFn K (.ref f)=true
 kp:PySem.W.keepIn K (.ref f)=true
section
variable{X:Cx}{G:L9}{Z:St}{H:Hp}{s:Shared}{a C dx:Addr}{fs:List (Str×V)}{f:Str}{v:V}{A:Around}{E:LV}
def yM{Q:LV}(I:Inv X G Z H s)(e:H a=some (.ins C dx fs))(c:Cls X.K C)(n:NoAttr X.K C f)(l:fs.lookup f=some v)
 (h:∀u d,Inv X G Z H d->RelV v u->Q u d):wpAny (model X.prog X.w) A (getAttr (.ref a) f b) Q E s:=by
 obtain⟨i,O,r,_,_,_⟩:=nw I.hok e;obtain⟨u,j,g⟩:=RelO.some_of (v:=v) (o:=i f) (by rw[<-l];exact r f);exact LX I.kIn O (c.get f) c.hd n j (Da g) (h u _ (I.tok _) g)
def oH{Q:Value×List Value->Shared->Prop}(I:Inv X G Z H s)(e:H a=some (.ins C dx fs))(c:Cls X.K C)(k:Meth X.K C m g)(l:fs.lookup m=none)
 (h:Q (.ref g,[.ref a]) s):wpAny (model X.prog X.w) A (getMethod (.ref a) m pl) Q E s:=by
 obtain⟨b,O,r,_,_,_⟩:=nw I.hok e;have d:b m=none:=RelO.none_of (by rw[<-l];exact r m);exact HM I.kIn O (c.get m) k.at_ k.fn d h
def yf{Q:Unit->Shared->Prop}(I:Inv X G Z H s)(e:H a=some (.ins C dx fs))(c:Cls X.K C)(n:NoAttr X.K C f)(D:fs.length<1000)(p:RelV y u)
 (h:∀j,Inv X G Z (upd H a (.ins C dx (fc f y fs))) j->Q () j):wpAny (model X.prog X.w) A (setAttr (.ref a) f u) Q E s:=by
 obtain⟨k,O,r,i,_,l⟩:=nw I.hok e;have hz:(fs.map (·.1)).length<=sizeLine:=by rw[YJ,Ak3];omega
 refine Ke I.kIn O c.sa c.po n.taker c.hd i hz λh' d m=>h _ ?_;have hd:∃o,h'.get? dx=some o:=let ⟨o,_,_,B,_⟩:=d.ns;⟨o,B⟩
 refine I.write (x:=a) (e:=dx) (by rw[e];exact True.intro) (.inr l) (λb q v z=>(m.2 b v).trans z) hd ?_;refine⟨by rw[aq O.ne];exact l,?_,O.ne,d.obj,_,d.ns,λg=>?_,λg t=>?_⟩
 ·have:=mM f y fs;omega
 · show RelO ((fc f y fs).lookup g) (if g=f then some u else k g);rw[mI];by_cases q:g=f
   ·rw[YG q,YG q];exact p
   ·rw[on q,on q];exact r g
 · by_cases q:g=f
   ·rw[q];exact(lW f y fs).1
   ·refine(lW f y fs).2 g (i g λz=>t ?_);show(if g=f then some u else k g)=none;rw[on q];exact z
def Inv.made(I:Inv X G Z H s):Inv X G Z (upd (upd H s.heap.objs.size (.own (s.heap.objs.size+1))) (s.heap.objs.size+1) (.ins C s.heap.objs.size []))
 {s with heap:=(s.heap.push PySem.W.emptyDict).push (PySem.W.instObj C s.heap.objs.size)}:=by
 have e1:(s.heap.push PySem.W.emptyDict).get? s.heap.objs.size=some PySem.W.emptyDict:=Y4 s.heap rfl
 have g:((s.heap.push PySem.W.emptyDict).push (PySem.W.instObj C s.heap.objs.size)).get? (s.heap.objs.size+1)=some (PySem.W.instObj C s.heap.objs.size):=by
  have:=Y4 (s.heap.push PySem.W.emptyDict) (o:=PySem.W.instObj C s.heap.objs.size) rfl
  rwa [Ac3]at this
 have f:(s.heap.push PySem.W.emptyDict).Ns s.heap.objs.size (λ_=>none):=⟨PySem.W.emptyDict,#[],_,e1,rfl,(λe d=>absurd d (by simp)),λ_=>rfl⟩;have h:=I.laid (a:=s.heap.objs.size) (o:=.own (s.heap.objs.size+1)) (h':=s.heap.push PySem.W.emptyDict) (t':=s.toks) (λb u q=>YN _ q) (YY _) ⟨_,e1⟩;refine h.laid (a:=s.heap.objs.size+1) (o:=.ins C s.heap.objs.size []) (t':=s.toks) (λb u q=>YN _ q) (Nat.le_of_eq (Ac3 _ _)) ?_;have ne:s.heap.objs.size≠s.heap.objs.size+1:=Zg (Ac4 _);refine⟨by rw[aq ne,ay],Z3 _,ne,g,λ_=>none,(Heap.Ns1.of_empty f).at λo q=>YN _ q,λ_=>True.intro,λy c=>absurd rfl c⟩
def Mn(b:attributeBase e f env (eval e env)=eval e env)
 (h:wpAny (model prog w) A (eval e env) (λo a=>wpAny (model prog w) A (getAttr o f true) Q E a) E s):wpAny (model prog w) A (eval (.Attribute e f pos) env) Q E s:=
 Attribute_any_ h (by rw[arm_eval_Attribute,b])
end
def nH(K:F0)(ta:TE)(f:Str):TE:=λZ H Q=>ta Z H λx H1=>∃a C dx fs v,x=.ref a/\H1 a=some (.ins C dx fs)/\Cls K C/\NoAttr K C f/\fs.lookup f=some v/\Q v H1
def Et(K:F0)(ta c:TE)(f:Str):TS:=λD Z H=>c Z H λy H1=>ta Z H1 λx b=>∃a C dx fs,x=.ref a/\b a=some (.ins C dx fs)/\Cls K C/\NoAttr K C f/\fs.length<1000/\
 D.nx Z (upd b a (.ins C dx (fc f y fs)))
section
variable{X:Cx}{o e value:Expr}{f:Str}{pos pos' tpos:Pos}{ta tv:TE}
def Pu(g:PE X e ta)(i:attributeBase e f X.env (eval e X.env)=eval e X.env):PE X (.Attribute e f pos) (nH X.K ta f):=by
 intro G s Z H Q I h;refine Mn i (br (g G s Z H _ I h) λu r ⟨x,H1,m,b,a,C,dx,fs,v,ex,j,c,n,l,q⟩=>?_);subst ex;obtain rfl:u=Value.ref a:=b;exact yM m j c n l λo p k d=>⟨v,H1,k,d,q⟩
def O9(k:PE X o ta)(i:PE X value tv)(j:swapsWith value (some (.Attribute o f pos')) pos.line X.env=pure false):PS X (.Assign [.Attribute o f pos'] value pos) (Et X.K ta tv f):=by
 intro G s Z H D I h;refine plainObj_wpAny_Assign_Attribute (br (i G s Z H _ I h) λu b ⟨y,H1,t,d,q⟩=>br (k G b Z H1 _ t q) λov w ⟨x,z,r,e,a,C,dx,fs,ex,m,c,n,l,g⟩=>?_) j;subst ex;obtain rfl:ov=Value.ref a:=e;exact yf r m c n l d λv p=>⟨Z,_,p,g⟩
end
section
variable{X:Cx}{G:L9}{Z:St}{H:Hp}{s:Shared}{A:Around}{E:LV}{Q:LV}{c:Value}{b:Bool}
inductive TyOf (K:F0) (H:Hp):V->Value->Prop where
 |non:TyOf K H .non (.type "NoneType")
 |bl (x:Bool):TyOf K H (.bl x) (.type "bool")
 |int (i:Int):TyOf K H (.int i) (.type "int")
 |str (x:Str):TyOf K H (.str x) (.type "str")
 |flt (x:UInt64):TyOf K H (.flt x) (.type "float")
 |lst {a:Addr} {xs:List V} (e:H a=some (.lst xs)):TyOf K H (.ref a) (.type "list")
 |frz {a:Addr} {o:Obj} {xs:List V} (e:H a=some (.frz o (.lst xs))):TyOf K H (.ref a) (.type "list")
 |tup {a:Addr} {xs:List V} (e:H a=some (.tup xs)):TyOf K H (.ref a) (.type "tuple")
 |dK {a:Addr} {kvs:List (aH×V)} (e:H a=some (.dK kvs)):TyOf K H (.ref a) (.type "dict")
 |dT {a:Addr} {kvs:List (List aH×V)} (e:H a=some (.dT kvs)):TyOf K H (.ref a) (.type "dict")
 | ins {a C dx:Addr} {fs:List (Str×V)} (e:H a=some (.ins C dx fs)) (cl:Cls K C) (ha:PySem.W.findIn K (.ref C) "__class__" = some (some (.builtin "object.__class__")))
    (hn:PySem.W.specialIn K (.builtin "object.__class__") "__get__" = some (some (.builtin "getset_descriptor.__get__"))) (htk:PySem.W.takesIn K (.builtin "object.__class__")=some true)
    (hm:PySem.W.mroIn K C (.type "object")=some true):TyOf K H (.ref a) (.ref C)
def C5(I:Inv X G Z H s)(d:RelV x u)(ty:TyOf X.K H x t)(e:PySem.W.kitOne X.K t c=some b)(h:∀m,Q (.bool b) {s with toks:=m}):
 wpAny (model X.prog X.w) A (call (.builtin "isinstance") [u,c]) Q E s:=by
 cases ty with
 |non=>cases(show u=Value.none from d);exact ZH PySem.W.kitx_none I.kIn True.intro e (λz=>nomatch z) h
 |bl y=>cases(show u=Value.bool y from d);exact ZH PySem.W.kitx_bool I.kIn True.intro e (λz=>nomatch z) h
 |int i=>obtain⟨t,q⟩:=(show ∃t,u=Value.int i t from d);cases q;exact ZH PySem.W.kitx_int I.kIn True.intro e (λz=>nomatch z) h
 |str y=>obtain⟨t,q⟩:=(show ∃t,u=Value.str y t from d);cases q;exact ZH PySem.W.kitx_str I.kIn True.intro e (λz=>nomatch z) h
 |flt y=>obtain⟨t,q⟩:=(show ∃t,u=Value.float y t from d);cases q;exact ZH PySem.W.kitx_float I.kIn True.intro e (λz=>nomatch z) h
 |@lst a xs f=>
   cases(show u=Value.ref a from d);obtain⟨_,_,n,_,g⟩:=(show ObjOk X.prog X.w H s.heap a (.lst xs) from I.hok a _ f);exact ZH PySem.W.kitx_list I.kIn ⟨_,g,rfl⟩ e (λz=>nomatch z) h
 |@frz a ob xs f=>
   cases(show u=Value.ref a from d);obtain⟨_,_,_,n,_,g⟩:=(show ObjOk X.prog X.w H s.heap a (.frz ob (.lst xs)) from I.hok a _ f);exact ZH PySem.W.kitx_list I.kIn ⟨_,g,rfl⟩ e (λz=>nomatch z) h
 |@tup a xs f=>
   cases(show u=Value.ref a from d);obtain⟨_,_,_,p⟩:=(show ObjOk X.prog X.w H s.heap a (.tup xs) from I.hok a _ f);obtain⟨o,g,j,_⟩:=p;exact ZH PySem.W.kitx_tuple I.kIn ⟨o,g,j⟩ e (λz=>nomatch z) h
 |@dK a kvs f=>
   cases(show u=Value.ref a from d);obtain⟨_,_,vs,_,p⟩:=(show ObjOk X.prog X.w H s.heap a (.dK kvs) from I.hok a _ f);obtain⟨o,D,ep,g,j,_⟩:=p;exact ZH PySem.W.kitx_dict I.kIn ⟨o,g,j.1⟩ e (λz=>nomatch z) h
 |@dT a kvs f=>
   cases(show u=Value.ref a from d);obtain⟨_,_,xs,_,o,D,ep,g,j,_⟩:=(show ObjOk X.prog X.w H s.heap a (.dT kvs) from I.hok a _ f);exact ZH PySem.W.kitx_dict I.kIn ⟨o,g,j.1⟩ e (λz=>nomatch z) h
 |@ins a C dx fs f l B r k v=>
   cases(show u=Value.ref a from d);obtain⟨L,O,_⟩:=nw I.hok f;obtain⟨F,J,_⟩:=O.look;exact ZH (PySem.W.kitx_own (l.get _) l.hd B r k v) I.kIn J e (λz=>nomatch z) h
end
structure Room (k:Nat) (A:Around):Prop where
 hd:A.handled=none
 dp:A.depth+3*k+5<recursionLimit
 un:A.units+16*k+200<cLine
def Room.mono(r:Room k A)(h:j<=k):Room j A:=⟨r.hd,by have:=r.dp;omega,by have:=r.un;omega⟩
def Room.deeper{A:Around}(r:Room (k+1) A)(env:Env):Room k (A.deeper env):=
 ⟨r.hd,by have:=r.dp;show A.depth+1+3*k+5<_;omega,by have:=r.un;show A.units+3+16*k+200<_;omega⟩
def yD{A:Around}:(A.under (.builtin "type.__call__" ⟨.ref C::us,a⟩)).depth=A.depth+1:=by
 first | rfl | simp[Around.under,Code.weight,Code.isCreation,Code.isGuard,Code.isCaller,Code.frames,Code.isFrame,guardIds]
def yC{A:Around}:(A.under (.builtin "type.__call__" ⟨.ref C::us,a⟩)).units=A.units+1:=by
 first | rfl | simp[Around.under,Code.cUnits,Code.frames,Code.isFrame]
def Room.make{A:Around}(r:Room (k+1) A)(C:Addr)(us:List Value)(a:List (Str×Value)):Room k (A.under (.builtin "type.__call__" ⟨.ref C::us,a⟩)):=
 ⟨r.hd,by have:=r.dp;rw[yD];omega,by have:=r.un;rw[yC];omega⟩
def Room.depth{A:Around}(r:Room k A):A.depth<recursionLimit:=by have:=r.dp;omega
def Room.units{A:Around}(r:Room k A):A.units+64<cLine:=by have:=r.un;omega
def bT:TA:=λ_ H Q=>Q [] H
def aN(ta:TE)(a:TA):TA:=λZ H Q=>ta Z H λx H1=>a Z H1 λxs b=>Q (x::xs) b
section
variable{X:Cx}{e:Expr}{es:List Expr}{te:TE}{t:TA}{pos:Pos}
def PD:PA X [] bT:=λ_ _ _ _ H Q I h=>ZX ⟨[],H,I,.nil,h⟩
def K6(j:PE X e te)(i:PA X es t)(g:starEach (e::es) X.env=(false,eval e X.env)::starEach es X.env:=by rfl):PA X (e::es) (aN te t):=by
 intro pos G s Z H Q I h;rw[g];show wpAny _ _ (spliced ((false,eval e X.env)::backTo pos (starEach es X.env))) _ _ s;refine Zz (br (j G s Z H _ I h) λu a ⟨x,H1,l,c,f⟩=>?_);exact br (i pos G a Z H1 _ l f) λus n ⟨xs,m,k,b,d⟩=>⟨x::xs,m,k,.cons c b,d⟩
def JI(t:TA):TE:=λZ H Q=>t Z H λxs H1=>xs.length<=sizeLine/\∀p,H1 p=none->Q (.ref p) (upd H1 p (.tup xs))
def Ou(t:TA):TE:=λZ H Q=>t Z H λxs H1=>xs.length<=sizeLine/\∀p,H1 p=none->Q (.ref p) (upd H1 p (.lst xs))
def Pm{d}(h:PA X es t):PE X (.Tuple es d pos) (JI t):=by
 intro G s Z H Q I f;refine wpAny_Tuple_spliced (br (h pos G s Z H _ I f) λus a ⟨xs,H1,c,r,z,q⟩=>⟨by rw[<-r.length];exact z,?_⟩);have g:H1 a.heap.objs.size=none:=c.hok.fresh (YY _);refine⟨.ref a.heap.objs.size,upd H1 a.heap.objs.size (.tup xs),c.laid (t':=a.toks) (λb u e=>YN _ e) (YY _) ?_,rfl,q _ g⟩;exact⟨z,us,r,⟨_,Y4 _ rfl,rfl,_,rfl⟩⟩
def Ps(h:PA X es t):PE X (.List es pos) (Ou t):=by
 intro G s Z H Q I d;refine wpAny_List_spliced (br (h pos G s Z H _ I d) λus a ⟨xs,H1,c,r,z,q⟩=>⟨by rw[<-r.length];exact z,?_⟩);have f:H1 a.heap.objs.size=none:=c.hok.fresh (YY _);refine⟨.ref a.heap.objs.size,upd H1 a.heap.objs.size (.lst xs),c.laid (t':=a.toks) (λb u e=>YN _ e) (YY _) ?_,rfl,q _ f⟩;exact⟨z,us,0,r,Y4 _ rfl⟩
end
abbrev Sp:=List V->Hp->VK->XK->Prop
abbrev DL:=List Env->Hp->Shared->XK->Value->Shared->Prop
structure Env0 (P:Program) (w:World) (K:F0) (mg:Str->Option Value) (base:Heap) (A:Around) (outer:List Env) (s:Shared) (H:Hp):Prop where
 frames:A.frames=some outer
 mod:Mod K mg base
 bs:∀b o,base.get? b=some o->s.heap.get? b=some o/\H b=none
 bsz:base.objs.size<=s.heap.objs.size
 funs:s.heap.FunFrames base outer
 frf:∀b∈yN outer,H b=none
 hok:HOk P w H s.heap
 bare:AllBare s.gens
def CE(outer:List Env)(P:Program)(w:World)(H:Hp)(s:Shared)(Q:VK)(u:Value)(a:Shared):Prop:=
 ∃v H',a.os=s.os/\AllBare a.gens/\Un (yN outer) [] H H' s.heap a.heap/\HOk P w H' a.heap/\RelV v u/\Q v H'
def CR(CX:DL)(outer:List Env)(P:Program)(w:World)(H:Hp)(s:Shared)(Q:VK)(E:XK)(r:Result)(a:Shared):Prop:=
 match r with
 |.ok (.ret u)=>CE outer P w H s Q u a
 |.ok _=>False
 |.error e=>CX outer H s E e a
structure FnOk (P:Program) (w:World) (K:F0) (mg:Str->Option Value) (base:Heap) (CX:DL) (k:Nat) (f:Addr) (fd:FuncData) (ps:List Str) (sp:Sp):Prop where
 len:∀vs H Q E,sp vs H Q E->vs.length=ps.length
 run:∀(A:Around) (outer:List Env) (s:Shared) (H:Hp) (args:Args) (us:List Value) (vs:List V) (Q:VK) (E:XK),Room k A->Env0 P w K mg base A outer s H->BindsTo s fd args (ps.zip us)->Vals vs us->sp vs H Q E->
  codeAny (model P w) A (.call (.ref f) args) (CR CX outer P w H s Q E) s
def FnOk.imp{K:F0}{sp a:Sp}(F:FnOk P w K mg base CX k f fd ps sp)
 (h:∀vs H Q E,a vs H Q E->sp vs H Q E):FnOk P w K mg base CX k f fd ps a:=
 ⟨λvs H Q E q=>F.len vs H Q E (h _ _ _ _ q),λA outer s H args us vs Q E d e g b c=>F.run A outer s H args us vs Q E d e g b (h _ _ _ _ c)⟩
def Env0.make{K:F0}{A:Around}(e:Env0 P w K mg base A outer s H)(C:Addr)(us:List Value)(a:List (Str×Value)):
 Env0 P w K mg base (A.under (.builtin "type.__call__" ⟨.ref C::us,a⟩)) outer s H:=⟨by first | exact e.frames | (simpa [Around.under,Code.envs,Code.isFrame,pushEnvs] using e.frames),e.mod,e.bs,e.bsz,e.funs,e.frf,e.hok,e.bare⟩
section
variable{X:Cx}{G:L9}{Z:St}{H:Hp}{s s':Shared}
def Inv.env0(I:Inv X G Z H s):Env0 X.prog X.w X.K X.mg X.base X.A X.stack s H:=
 ⟨I.ok.frames,I.ok.mod,I.bs,Ze I.ok.bsz I.sz,I.stack,I.stkFree,I.hok,I.bare⟩
def Inv.after(I:Inv X G Z H s)(h:CE X.stack X.prog X.w H s Q u s'):EP X G Z Q u s':=by
 obtain⟨v,H',os,bare,un,hok,r,q⟩:=h;obtain⟨c,g,d,t,a⟩:=s';obtain rfl:a=s.os:=os;exact⟨v,H',I.call (h':=c) (g':=g) (d':=d) (t':=t) (ch:=[]) un hok bare (λb z=>absurd z (by simp)),r,q⟩
end
def iL(sp:Sp)(a:List V)(E:XK)(t:TA):TE:=λZ H Q=>t Z H λvs H1=>sp (vs++a) H1 Q E
def cY(C:Addr)(m:Str)(sp:Sp)(b:List V)(E:XK)(ta:TE)(t:TA):TE:=λZ H Q=>ta Z H λx H1=>∃a dx fs,x=.ref a/\H1 a=some (.ins C dx fs)/\fs.lookup m=none/\
 t Z H1 λvs c=>sp (x::(vs++b)) c Q E
def rA(C:Addr)(sp:Sp)(a:List V)(E:XK)(t:TA):TE:=λZ H Q=>t Z H λvs H1=>∀x dx,H1 x=none->H1 dx=none->dx≠x->
 sp (.ref x::(vs++a)) (upd (upd H1 dx (.own x)) x (.ins C dx [])) (λv b=>v=.non/\Q (.ref x) b) E
def Binds(K:F0)(fd:FuncData)(ps:List Str)(ds:List Value):Prop:=
 ∀(s:Shared) (us:List Value),K.In s.heap->(us++ds).length=ps.length->BindsTo s fd ⟨us,[]⟩ (ps.zip (us++ds))
def Binds.all{K:F0}{ps:List Str}(h:∀us:List Value,us.length=ps.length->bindArgs fd ⟨us,[]⟩=pure (ps.zip us)):Binds K fd ps []:=λs us _ a=>by
 rw[Zm]at a ⊢;exact .of_eq (h us a)
def kh(CX:DL)(X:Cx)(E:XK):Prop:=∀(G:L9) (Z:St) (H:Hp) (s:Shared) (e:Value) (a:Shared),Inv X G Z H s->CX X.stack H s E e a->X.xe e a
section
variable{X:Cx}{CX:DL}{k:Nat}{f C:Addr}{fd:FuncData}{ps:List Str}{sp:Sp}{dvs:List V}{ds:List Value}{E:XK}{x m:Str}{p pos apos:Pos}{e o:Expr}{es:List Expr}{ta:TE}{t:TA}
def yg(F:FnOk X.prog X.w X.K X.mg X.base CX k f fd ps sp)(g:Room k X.A)(j:Binds X.K fd ps ds)(hd:Vals dvs ds)(d:kh CX X E)
 (I:Inv X G Z H s) (r:Vals vs us) (h:sp (vs++dvs) H Q E):wpAny (model X.prog X.w) X.A (call (.ref f) us) (EP X G Z Q) X.xe s:=by
 have b:Vals (vs++dvs) (us++ds):=r.append hd;have i:(us++ds).length=ps.length:=by rw[<-b.length];exact F.len _ _ _ _ h
 refine wpAny_call (Ah8 (F.run X.A X.stack s H ⟨us,[]⟩ (us++ds) (vs++dvs) Q E g I.env0 (j s us I.kIn i) b h) λr c a=>?_);cases r with
 |error e=>exact d G Z H s e c I a
 |ok l=>
   cases l with
   |ret u=>exact I.after a
   |next=>exact False.elim a
   |brk=>exact False.elim a
   |cont=>exact False.elim a
def K1(F:FnOk X.prog X.w X.K X.mg X.base CX k f fd ps sp)(g:Room k X.A)(l:Gl X x)(i:X.mg x=some (.ref f))(j:PySem.W.keepIn X.K (.ref f)=true)(n:Binds X.K fd ps ds)(hd:Vals dvs ds)(d:kh CX X E)
 (o:PA X (e::es) t) (b:(x==("__debug__" : Str))=false:=by decide) (m:starEach (e::es) X.env=(false,eval e X.env)::starEach es X.env:=by rfl) (a:(backTo pos (starEach es X.env)).any (·.1)=false:=by rfl):
 PE X (.Call (.Name x p) (e::es) [] pos) (iL sp dvs E t):=by
 intro G s Z H Q I h;refine Z5 (tX I l i ?_ b);refine Af4 (h₀:=X.base) I.ok.mod.kin j (br (o pos G s Z H _ I h) λus u ⟨vs,H1,c,r,q⟩=>⟨c.kIn,?_⟩) m a;exact yg F g n hd d c r q
def KQ(D:PE X o ta)(c:Cls X.K C)(g:Meth X.K C m f)(F:FnOk X.prog X.w X.K X.mg X.base CX k f fd ps sp)(B:Room k X.A)(J:Binds X.K fd ps ds)(hd:Vals dvs ds)(y:kh CX X E)(L:PA X (e::es) t)
 (b:starEach (e::es) X.env=(false,eval e X.env)::starEach es X.env:=by rfl) (d:(backTo pos (starEach es X.env)).any (·.1)=false:=by rfl)
 (z:eval (.Call (.Attribute o m apos) (e::es) [] pos) X.env=(do
   let ov <-eval o X.env
   standAt apos.atName
   let (f,first) <-holding [ov] (getMethod ov m pl)
   callWith pos f first (backTo pos (starEach (e::es) X.env)) (backToKw pos (keywordEach [] X.env))):=by rfl):
 PE X (.Call (.Attribute o m apos) (e::es) [] pos) (cY C m sp dvs E ta t):=by
 intro G s Z H Q I h;refine Aj3 (pl:=pl) (br (D G s Z H _ I h) λu n ⟨x,H1,j,p,a,dx,fs,ex,M,l,q⟩=>?_) z;subst ex;obtain rfl:u=Value.ref a:=p;refine oH j M c g l ?_;refine Af4 (first:=[.ref a]) (h₀:=X.base) I.ok.mod.kin g.kp (br (L pos G n Z H1 _ j q) λus N ⟨vs,O,i,r,v⟩=>⟨i.kIn,?_⟩) b d;exact yg (us:=.ref a::us) (vs:=.ref a::vs) F B J hd y i (.cons rfl r) v
def Fh(n:PE X o ta)(c:Cls X.K C)(d:Meth X.K C m f)(F:FnOk X.prog X.w X.K X.mg X.base CX k f fd ps sp)(j:Room k X.A)(p:Binds X.K fd ps ds)(hd:Vals dvs ds)(g:kh CX X E)
 (i:eval (.Call (.Attribute o m apos) [] [] pos) X.env=(do
   let ov <-eval o X.env
   standAt apos.atName
   let (f,first) <-holding [ov] (getMethod ov m pl)
   callWith pos f first (backTo pos (starEach [] X.env)) (backToKw pos (keywordEach [] X.env))):=by rfl):
 PE X (.Call (.Attribute o m apos) [] [] pos) (cY C m sp dvs E ta bT):=by
 intro G s Z H Q I h;refine Aj3 (pl:=pl) (br (n G s Z H _ I h) λu t ⟨x,H1,b,e,a,dx,fs,ex,r,l,q⟩=>?_) i;subst ex;obtain rfl:u=Value.ref a:=e;refine oH b r c d l ?_;exact PySem.W.callWith_K0 (first:=[.ref a]) b.kIn d.kp (yg (us:=[.ref a]) (vs:=[.ref a]) F j p hd g b (.cons rfl .nil) q)
structure Mk (K:F0) (C f:Addr):Prop where
 makes:PySem.W.makesIn K C=true
 init:PySem.W.findIn K (.ref C) "__init__" = some (some (.ref f))
 fn:PySem.W.isFn K (.ref f)=true
 kp:PySem.W.keepIn K (.ref C)=true
def Ev{H:Hp}(M:Mk X.K C f)(F:FnOk X.prog X.w X.K X.mg X.base CX k f fd ps sp)(m:Room (k+1) X.A)(o:Binds X.K fd ps ds)(hd:Vals dvs ds)
 (l:kh CX X E) (I:Inv X G Z H s) (r:Vals vs us)
 (h:∀x dx,H x=none->H dx=none->dx≠x->sp (.ref x::(vs++dvs)) (upd (upd H dx (.own x)) x (.ins C dx [])) (λv y=>v=.non/\Q (.ref x) y) E):
 wpAny (model X.prog X.w) X.A (call (.ref C) us) (EP X G Z Q) X.xe s:=by
 have d:=h (s.heap.objs.size+1) s.heap.objs.size (I.hok.fresh (Nat.le_succ _)) (I.hok.fresh (YY _)) (Zg (Ac4 _));have b:=Inv.made (C:=C) I;have c:Vals (V.ref (s.heap.objs.size+1)::(vs++dvs)) (Value.ref (s.heap.objs.size+1)::(us++ds)):=.cons rfl (r.append hd)
 have n:(Value.ref (s.heap.objs.size+1)::us++ds).length=ps.length:=by
  have e:=c.length;rw[F.len _ _ _ _ d]at e;exact e.symm
 refine wpAny_call (GD (f:=f) I.kIn M.makes M.init (Af3.mp M.fn) (Ah8 (F.run _ X.stack _ _ ⟨Value.ref (s.heap.objs.size+1)::us,[]⟩ (Value.ref (s.heap.objs.size+1)::(us++ds)) _ _ E (m.make C us [])
  (b.env0.make C us []) (o _ (Value.ref (s.heap.objs.size+1)::us) b.kIn n) c d) λr g a=>?_))
 cases r with
 |error e=>exact l G Z _ _ e g b a
 |ok p=>
   cases p with
   |ret u=>
     obtain⟨v,H',t,i,q,j⟩:=b.after a;subst q;exact⟨i,⟨V.ref (s.heap.objs.size+1),H',t,rfl,j⟩⟩
   |next=>exact False.elim a
   |brk=>exact False.elim a
   |cont=>exact False.elim a
def KS(M:Mk X.K C f)(F:FnOk X.prog X.w X.K X.mg X.base CX k f fd ps sp)(g:Room (k+1) X.A)(j:Gl X x)(i:X.mg x=some (.ref C))(m:Binds X.K fd ps ds)(hd:Vals dvs ds)(d:kh CX X E)
 (n:PA X (e::es) t) (b:(x==("__debug__" : Str))=false:=by decide) (l:starEach (e::es) X.env=(false,eval e X.env)::starEach es X.env:=by rfl) (a:(backTo pos (starEach es X.env)).any (·.1)=false:=by rfl):
 PE X (.Call (.Name x p) (e::es) [] pos) (rA C sp dvs E t):=by
 intro G s Z H Q I h;refine Z5 (tX I j i ?_ b);refine Af4 (h₀:=X.base) I.ok.mod.kin M.kp (br (n pos G s Z H _ I h) λus o ⟨vs,H1,c,r,q⟩=>⟨c.kIn,?_⟩) l a;exact Ev M F g m hd d c r q
end
def PK(X:Cx)(a:List Keyword)(t:TA):Prop:=
 ∀(pos:Pos) (G:L9) (s:Shared) (Z:St) (H:Hp) (Q:List V->Hp->Prop),Inv X G Z H s->t Z H Q->wpAny (model X.prog X.w) X.A (evalAll ((backToKw pos (keywordEach a X.env)).map (·.2))) (AP X G Z Q) X.xe s
section
variable{X:Cx}{CX:DL}{k:Nat}{f C:Addr}{fd:FuncData}{ps ks:List Str}{sp:Sp}{E:XK}{x m:Str}{p pos apos kpos:Pos}{e o:Expr}{es:List Expr}{kws:List Keyword}{te ta:TE}{t tk:TA}{nm:Option Str}
def Pg:PK X [] bT:=λ_ _ _ _ H Q I h=>wpAny_evalAll_nil ⟨[],H,I,.nil,h⟩
def KH(i:PE X e te)(g:PK X kws t):PK X (⟨nm,e,kpos⟩::kws) (aN te t):=by
 intro pos G s Z H Q I h;show wpAny _ _ (evalAll ((do let v <-eval e X.env;standAt pos;pure v)::(backToKw pos (keywordEach kws X.env)).map (·.2))) _ _ s;refine wpAny_evalAll_cons (YH (br (i G s Z H _ I h) λu a ⟨x,H1,k,c,f⟩=>YH (Ag7 (YR ?_))));exact br (g pos G a Z H1 _ k f) λus m ⟨xs,l,j,b,d⟩=>⟨x::xs,l,j,.cons c b,d⟩
variable{g:List Value->List Value->List Value}{gV:List V->List V->List V}
end
structure FnScope (N P:List Str) (sc:Scope):Prop where
 kind:sc.kind=.function
 co:sc.isCoroutine=false
 gen:sc.isGenerator=false
 nd:N.Nodup
 pre:N.take P.length=P
 par:∀x∈P,sc.names.lookup x=some .local\/sc.names.lookup x=some .cell
 nofree:∀y∈sc.names,y.2≠ .free
def sG{kindOf:Str->Option NameKind}:∀{binds:List (Str×Value)} {m:Str->Option Value},(∀v,(x,v)∉binds)->bindL kindOf binds m x=m x
 |[],_,_=>rfl
 | (n,v)::r,m,h=>by
   unfold bindL;rw[sG λw a=>h w (List.mem_cons_of_mem _ a)];split
   · have:x≠n:=by rintro rfl;exact h v YK
     simp[this]
   ·rfl
def sJ{kindOf:Str->Option NameKind}:∀{binds:List (Str×Value)} {m:Str->Option Value},(∀v,(x,v)∉binds)->bindC kindOf binds m x=m x
 |[],_,_=>rfl
 | (n,v)::r,m,h=>by
   unfold bindC;rw[sJ λw a=>h w (List.mem_cons_of_mem _ a)];split
   ·rfl
   · have:x≠n:=by rintro rfl;exact h v YK
     simp[this]
def sI{kindOf:Str->Option NameKind}:∀{P:List Str} {vs:List Value} {i:Nat} {m:Str->Option Value},P.Nodup->P[i]?=some x->vs[i]?=some v->kindOf x=some .local->
 bindL kindOf (P.zip vs) m x=some v
 |[],_,_,_,_,h,_,_=>by simp at h
 |_::_,[],_,_,_,_,h,_=>by simp at h
 | p::P,w::vs,0,m,nd,b,a,c=>by
   simp at b a;subst b;subst a;show bindL kindOf ((p,w)::P.zip vs) m p=_;unfold bindL;rw[sG λv d=>(List.nodup_cons.mp nd).1 (List.of_mem_zip d).1,if_pos c];simp
 | p::P,w::vs,i+1,m,nd,b,a,c=>by
   show bindL kindOf ((p,w)::P.zip vs) m x=_;unfold bindL;exact sI (i:=i) (List.nodup_cons.mp nd).2 (by simpa using b) (by simpa using a) c
def sK{kindOf:Str->Option NameKind}:∀{P:List Str} {vs:List Value} {i:Nat} {m:Str->Option Value},P.Nodup->P[i]?=some x->vs[i]?=some v->kindOf x≠some .local->
 bindC kindOf (P.zip vs) m x=some v
 |[],_,_,_,_,h,_,_=>by simp at h
 |_::_,[],_,_,_,_,h,_=>by simp at h
 | p::P,w::vs,0,m,nd,b,a,c=>by
   simp at b a;subst b;subst a;show bindC kindOf ((p,w)::P.zip vs) m p=_;unfold bindC;rw[sJ λv d=>(List.nodup_cons.mp nd).1 (List.of_mem_zip d).1,if_neg c];simp
 | p::P,w::vs,i+1,m,nd,b,a,c=>by
   show bindC kindOf ((p,w)::P.zip vs) m x=_;unfold bindC;exact sK (i:=i) (List.nodup_cons.mp nd).2 (by simpa using b) (by simpa using a) c
def iw(N:List Str)(vs:List V):St:=vs.map some++List.replicate (N.length-vs.length) none
def wd(CX:DL)(P:Program)(w:World)(K:F0)(mg:Str->Option Value)(base:Heap)(N:List Str)(qual:Str)(scope:Scope)(f:Addr)(b:Value)(A:Around)(outer:List Env)(s:Shared)(H:Hp)(E:XK):Cx where
 prog:=P
 w:=w
 K:=K
 mg:=mg
 base:=base
 A:=A.deeper (envOfC qual scope s.heap.objs.size f b)
 N:=N
 s₀:=s
 H₀:=H
 env:=envOfC qual scope s.heap.objs.size f b
 outer:=outer
 stack:=envOfC qual scope s.heap.objs.size f b::outer
 ex:=[]
 calm:=true
 fn:=λ_=>true
 pn:=[]
 xe:=λe c=>wpAny (model P w) (A.deeper (envOfC qual scope s.heap.objs.size f b)) («leaving» (envOfC qual scope s.heap.objs.size f b) e) (λ_ a=>CX outer H s E e a) (λd a=>CX outer H s E d a) c
def xn{sc:Scope}(h:sc.names.lookup x=some .cell):∃c,(cellsFrom n sc.names []).lookup x=some c:=by
 have q:=Ah9 sc.names n [] (.inl h);exact Aa4.mp q
def C6{K:F0}{ps:List Str}{scope:Scope}{A:Around}{s:Shared}{vs:List V}
 (S:FnScope N ps scope) (hd:A.handled=none) (e0:Env0 P w K mg base A outer s H) (J:vs.length=ps.length) (r:Vals vs us)
 (x:InCallC s s.heap.objs.size (bindL (envOfC qual scope s.heap.objs.size f o).kindOf (ps.zip us) λ_=>none) (cellsFrom (s.heap.objs.size+1) scope.names []) (bindC (envOfC qual scope s.heap.objs.size f o).kindOf (ps.zip us) λ_=>none) t):
 Inv (wd CX P w K mg base N qual scope f o A outer s H E) [] (iw N vs) H t:=by
 have F:ps.length<=N.length:=by have:=congrArg List.length S.pre;rw[Ah2]at this;omega
 obtain⟨m,I,rfl,C⟩:=x.done;have g:∀b:Addr,b∉(wd CX P w K mg base N qual scope f o A outer s H E).ex:=λb z=>absurd (show b∈([]:List Addr) from z) (by simp)
 refine⟨⟨e0.mod,S.kind,rfl,rfl,YY _,λy z c m d=>?_,λy j=>?_,λy c _ h=>?_,λ_=>hd,Around.frames_deeper e0.frames,.inr ⟨rfl,rfl⟩,λb z=>absurd z (g b),e0.bs,e0.bsz,λb _ _=>g b,λb z=>absurd z (g b),e0.funs,e0.frf⟩,
  rfl,e0.bare,Un.kept C,⟨_,x.toInCall.ns,λi y v m d L=>?_⟩,λy c h=>⟨_,x.cell y c h⟩,e0.hok.fresh (YY _),λy c h=>?_,λp hp=>absurd (show p∈([]:L9) from hp) (by simp),e0.hok.kept C,?_⟩
 ·exact name_of_addr x.apart (ZY m) (ZY d)
 · have j:scope.names.lookup y=some .cell\/scope.names.lookup y=some .free:=j;rcases j with j|j
   ·exact xn j
   ·exact absurd rfl (S.nofree _ (ZY j))
 ·exact ZO (x.above y c (ZY h))
 · have hi:i<vs.length:=by
    unfold iw at d;by_cases hi:i<vs.length
    ·exact hi
    ·rw[Zu (by simpa using hi)]at d;rw[Aa8]at d;split at d<;>cases d
   have G:vs[i]?=some v:=by
    unfold iw at d;rw[List.getElem?_append_left (by simpa using hi),List.getElem?_map]at d;cases e:vs[i]? with
    |none=>rw[e]at d;cases d
    |some a=>rw[e]at d;cases d;rfl
   obtain⟨u,B,D⟩:=r.get G
   have hp:ps[i]?=some y:=by
    rw[<-S.pre,List.getElem?_take_of_lt (by omega)];exact m
   have l:ps.Nodup:=by rw[<-S.pre];exact S.nd.sublist (List.take_sublist _ _)
   refine⟨u,D,?_⟩;rcases S.par y (ZF hp) with k|k
   ·exact .inl ⟨k,sI l hp B k⟩
   ·obtain⟨c,e⟩:=xn (n:=s.heap.objs.size+1) k;refine .inr ⟨.inl k,c,e,?_⟩;have q:=x.cell y c e;rw[sK l hp B (by show scope.names.lookup y≠_;rw[k];decide)]at q;exact q
 ·exact e0.hok.fresh (ZO (x.above y c (ZY h)))
 ·unfold iw;show _=N.length;rw[List.length_append,List.length_map,List.length_replicate];omega
def fn_of{CX:DL}{P:Program}{w:World}{K:F0}{mg:Str->Option Value}{base:Heap}{k:Nat}{f:Addr}{name qual:Str}{c:Arguments}{d:List Stmt}{scope:Scope}{M kV p pm a ct oc:Value}{an R:Option Addr}
 {C:Array (Option Value)} {N ps:List Str} {sp:Sp} (lk:K.lookup f=some ⟨oc,R,.func (PySem.W.fnOf name qual c d scope M kV p pm an a ct),C⟩) (G:PySem.W.codeIn K a qual=true) (S:FnScope N ps scope)
 (len:∀vs H Q E,sp vs H Q E->vs.length=ps.length)
 (i:∀(A:Around) (outer:List Env) (s:Shared) (H:Hp) (vs:List V) (Q:VK) (E:XK),Room k (A.deeper (envOfC qual scope s.heap.objs.size f a))->sp vs H Q E->
   ∃t,PSs (wd CX P w K mg base N qual scope f a A outer s H E) d t/\t {nx:=λ_ H'=>Q .non H',rt:=Q} (iw N vs) H):
 FnOk P w K mg base CX (k+1) f (PySem.W.fnOf name qual c d scope M kV p pm an a ct) ps sp:=by
 refine⟨len,λA outer s H args us vs Q E F e0 hb r l=>?_⟩;have Y:=len _ _ _ _ l;have O:K.In s.heap:=e0.mod.kin.keeps λb o e=>(e0.bs b o e).1;have D:s.heap.NoLimit:=e0.mod.nolimit.keeps λb o e=>(e0.bs b o e).1
 have h:∀y∈ps.zip us,scope.names.lookup y.1=some .local\/(scope.names.lookup y.1=some .cell/\((cellsFrom (s.heap.objs.size+1) scope.names []).lookup y.1).isSome=true):=λ⟨n,v⟩ T=>by
  rcases S.par n (List.of_mem_zip T).1 with q|q
  ·exact .inl q
  ·exact .inr ⟨q,Ah9 _ _ _ (.inl q)⟩
 refine codeAny_call_function F.depth (O _ _ lk) rfl S.co S.gen rfl (PySem.W.codeRec_of O G) (hb _ _ _ _ ?_);refine wpAny_newFunctionEnv_cells S.kind h λenv Z L x=>?_;subst Z;refine⟨D.keeps x.toInCall.keep,codeAny_func ?_⟩;obtain⟨t,U,X⟩:=i A outer s H vs Q E (F.deeper _) l;have I:Inv (wd CX P w K mg base N qual scope f a A outer s H E) [] (iw N vs) H L:=C6 S F.hd e0 Y r x;refine Ae0 (U [] L (iw N vs) H _ I X) (λfl z j=>?_) λe z j=>j
 have m:∀{g:St} {H':Hp} {v:V} {u:Value},Inv (wd CX P w K mg base N qual scope f a A outer s H E) [] g H' z->RelV v u->Q v H'->CE outer P w H s Q u z:=
  λ{g H' v u} J B q=>⟨v,H',J.os,J.bare,J.base,J.hok,B,q⟩
 cases fl with
 |ret u=>
   obtain⟨v,g,H',J,B,q⟩:=j;exact m J B q
 |next=>
   obtain⟨g,H',J,q⟩:=j;exact m (v:=V.non) (u:=Value.none) J rfl q
 |brk=>
   obtain⟨_,_,_,q⟩:=j;exact False.elim q
 |cont=>
   obtain⟨_,_,_,q⟩:=j;exact False.elim q
section
variable{X:Cx}{x:Str}{p pos:Pos}{e:Expr}{es:List Expr}{t:TA}{id T:String}{r:List V->Hp->VK->Prop}
def xK(r:List V->Hp->VK->Prop)(t:TA):TE:=λZ H Q=>t Z H λvs H1=>r vs H1 Q
def Fq(m:cQ X (.builtin id) r)(k:Gl X x)(j:X.mg x=none)(g:bootBuiltins x=some (.builtin id))(n:PA X (e::es) t)(i:x ≠ "__name__" := by decide)(b:(x==("__debug__" : Str))=false:=by decide)
 (l:starEach (e::es) X.env=(false,eval e X.env)::starEach es X.env:=by rfl) (a:(backTo pos (starEach es X.env)).any (·.1)=false:=by rfl):PE X (.Call (.Name x p) (e::es) [] pos) (xK r t):=by
 intro G s Z H Q I h;refine Z5 (jO I k j g ?_ i b);exact PyProof.Rows.callWith_builtin1 (br (n pos G s Z H _ I h) λus c ⟨vs,H1,o,d,f⟩=>m G c Z H1 vs us Q o d f) l a
def CA(m:cQ X (.type T) r)(k:Gl X x)(j:X.mg x=none)(g:bootBuiltins x=some (.type T))(n:PA X (e::es) t)(i:x ≠ "__name__" := by decide)(b:(x==("__debug__" : Str))=false:=by decide)
 (l:starEach (e::es) X.env=(false,eval e X.env)::starEach es X.env:=by rfl) (a:(backTo pos (starEach es X.env)).any (·.1)=false:=by rfl):PE X (.Call (.Name x p) (e::es) [] pos) (xK r t):=by
 intro G s Z H Q I h;refine Z5 (jO I k j g ?_ i b);exact Z1 (br (n pos G s Z H _ I h) λus c ⟨vs,H1,o,d,f⟩=>m G c Z H1 vs us Q o d f) l a
end
section
variable{W:Type}[DecidableEq W]
def cJ(kvs:List (W×V))(k:W):Option V:=(kvs.find? λa=>decide (a.1=k)).map (·.2)
def eF(kvs:List (W×V))(k:W)(v:V):List (W×V):=
 if (kvs.any λa=>decide (a.1=k))=true then kvs.map (λa=>if a.1=k then (a.1,v) else a) else kvs++[(k,v)]
def dZ(kvs:List (W×V))(k:W):List (W×V):=kvs.filter λa=>decide (a.1≠k)
def DY:cJ ([]:List (W×V)) k=none:=rfl
def kj{p:W×V}(e:p.1=k):cJ (p::r) k=some p.2:=by simp[cJ,ZC,e]
def kl{p:W×V}(e:¬ p.1=k):cJ (p::r) k=cJ r k:=by simp[cJ,ZC,e]
def u6(k:W):∀kvs:List (W×V),(kvs.any λa=>decide (a.1=k))=(cJ kvs k).isSome
 |[]=>rfl
 | p::r=>by
   rw[Ab8];by_cases e:p.1=k
   ·simp only[kj e,Zj e,Bool.true_or,Af5]
   ·rw[kl e,Zc e,Bool.false_or];exact u6 k r
def mL(kvs:List (W×V))(k:W)(v:V):(eF kvs k v).length<=kvs.length+1:=by
 unfold eF;split
 ·rw[YJ];omega
 ·rw[YQ,YO,List.length_nil];omega
def RelO.isSome_eq{o:Option V}{u:Option Value}(r:RelO o u):o.isSome=u.isSome:=by
 cases o with
 | none=>cases u with
   |none=>rfl
   |some _=>exact(show False from r).elim
 | some _=>cases u with
   |none=>exact(show False from r).elim
   |some _=>rfl
def RelO.getD{o:Option V}{u:Option Value}(r:RelO o u)(rd:RelV d d'):RelV (o.getD d) (u.getD d'):=by
 cases o with
 | none=>cases u with
   |none=>exact rd
   |some _=>exact(show False from r).elim
 | some _=>cases u with
   |none=>exact(show False from r).elim
   |some _=>exact r
def KV.val(r:KV kvs vs)(k:W):RelO (cJ kvs k) (valueAt vs k):=by
 unfold KV at r
 induction r with
 |nil=>exact True.intro
 |@cons p q ps a h t f=>
   obtain⟨d,g⟩:=h;by_cases e:p.1=k
   · have c:q.1=k:=d.symm.trans e;have b:valueAt (q::a) k=some q.2:=by simp[valueAt,ZC,c]
     rw[kj e,b];exact g
   · have c:¬ q.1=k:=λz=>e (d.trans z);have b:valueAt (q::a) k=valueAt a k:=by simp[valueAt,ZC,c]
     rw[kl e,b];exact f
def KV.any{kvs:List (W×V)}{vs:List (W×Value)}(r:KV kvs vs)(k:W):(kvs.any λa=>decide (a.1=k))=vs.any λa=>decide (a.1=k):=by
 unfold KV at r
 induction r with
 |nil=>rfl
 |cons h t b=>rw[Ab8,Ab8,b,h.1]
def KV.repl{kvs:List (W×V)}{vs:List (W×Value)}(r:KV kvs vs)(k:W)(c:RelV y u):
 KV (kvs.map λa=>if a.1=k then (a.1,y) else a) (vs.map λa=>if a.1=k then (a.1,u) else a):=by
 unfold KV at r ⊢
 induction r with
 |nil=>exact .nil
 |@cons p q ps g h t d=>
   rw[YI,YI];refine .cons ?_ d;obtain⟨b,f⟩:=h;by_cases e:p.1=k
   ·rw[YG e,YG (b.symm.trans e)];exact⟨b,c⟩
   ·rw[on e,on (λz=>e (b.trans z))];exact⟨b,f⟩
def KV.put(r:KV kvs vs)(k:W)(a:RelV y u):KV (eF kvs k y) (stored vs k u):=by
 unfold eF stored;rw[r.any k];by_cases e:(vs.any λb=>decide (b.1=k))=true
 ·rw[YG e,YG e];exact r.repl k a
 ·rw[on e,on e];exact Paired.snoc r ⟨rfl,a⟩
def KV.drop(r:KV kvs vs)(k:W):KV (dZ kvs k) (without vs k):=by
 unfold KV at r ⊢;unfold dZ without
 induction r with
 |nil=>exact .nil
 |@cons p q ps i h t d=>
   obtain⟨c,f⟩:=h;rw[ZM,ZM];by_cases e:p.1=k
   · have a:¬ decide (p.1≠k)=true:=by simp[e]
     have b:¬ decide (q.1≠k)=true:=by simp[c.symm.trans e]
     rw[on a,on b];exact d
   · have g:¬ q.1=k:=λz=>e (c.trans z);have a:decide (p.1≠k)=true:=by simp[e]
     have b:decide (q.1≠k)=true:=by simp[g]
     rw[YG a,YG b];exact .cons ⟨c,f⟩ d
def KV.length{kvs:List (W×V)}{vs:List (W×Value)}(r:KV kvs vs):kvs.length=vs.length:=ZU r
def oR(kvs:List (W×V))(k:W):(dZ kvs k).length<=kvs.length:=Ab9 _ _
end
def kL(r:RelV (kV k) u):(au P w).is k u=true:=by
 cases k with
 |inl i=>obtain⟨t,e⟩:=(show ∃t,u=Value.int i t from r);subst e;exact vD P w i t
 |inr x=>obtain⟨t,e⟩:=(show ∃t,u=Value.str x t from r);subst e;exact vB P w x t
def r8:∀{a:List aH} {us:List Value},Vals (a.map kV) us->ItemsAre (au P w) a us
 |[],_,r=>by rw[ZL]at r;cases r;exact .nil
 | k::a,_,r=>by
   rw[YI]at r;cases r with
   |cons h t=>exact .cons (kL h) (r8 t)
abbrev KT(H:Hp):List (List aH×V)->List (List aH×Addr×Value)->Prop:=Paired λp q=>p.1=q.1/\H q.2.1=some (.tup (p.1.map kV))/\RelV p.2 q.2.2
def KT.val(r:KT H kvs xs)(k:List aH):RelO (cJ kvs k) ((atKey xs k).map (·.2)):=by
 induction r with
 |nil=>exact True.intro
 |@cons p q ps a h t f=>
   obtain⟨d,_,g⟩:=h;by_cases e:p.1=k
   · have c:q.1=k:=d.symm.trans e;have b:atKey (q::a) k=some q.2:=by simp[atKey,ZC,c]
     rw[kj e,b];exact g
   · have c:¬ q.1=k:=λz=>e (d.trans z);have b:atKey (q::a) k=atKey a k:=by simp[atKey,ZC,c]
     rw[kl e,b];exact f
def KT.repl{kvs:List (List aH×V)}{xs:List (List aH×Addr×Value)}(r:KT H kvs xs)(k:List aH)(d:RelV y u):
 KT H (kvs.map λb=>if b.1=k then (b.1,y) else b) (xs.map (putAt k u)):=by
 induction r with
 |nil=>exact .nil
 |@cons p q ps i h t f=>
   rw[List.map_cons,List.map_cons];refine .cons ?_ f;obtain⟨a,c,g⟩:=h;unfold putAt;by_cases e:p.1=k
   ·rw[YG e,YG (a.symm.trans e)];exact⟨a,c,d⟩
   ·rw[on e,on (λz=>e (a.trans z))];exact⟨a,c,g⟩
def KT.put{H:Hp}(r:KT H kvs xs)(k:List aH)(d:H b=some (.tup (k.map kV)))(a:RelV y u):
 KT H (eF kvs k y) (storedH xs k b u):=by
 have e:(kvs.any λc=>decide (c.1=k))=(atKey xs k).isSome:=by
  rw[u6,(r.val k).isSome_eq,Ag2]
 unfold eF storedH;rw[e];by_cases q:(atKey xs k).isSome=true
 ·rw[YG q,YG q];exact r.repl k a
 ·rw[on q,on q];exact Paired.snoc r ⟨rfl,d,a⟩
def KT.keeps{H H':Hp}(r:KT H kvs xs)(c:∀b a,H b=some (.tup a)->H' b=some (.tup a)):KT H' kvs xs:=
 Paired.mapP r λ_ _ z=>⟨z.1,c _ _ z.2.1,z.2.2⟩
section
variable{P:Program}{w:World}{H:Hp}{h:Heap}{a:Addr}
def M3(ok:HOk P w H h)(e:Rd H a u):ObjOk P w H h a u:=e.ok ok
def kZ{kvs:List (aH×V)}(ok:HOk P w H h)(e:Rd H a (.dK kvs)):kvs.length<=sizeLine/\(a==sysModules)=false/\∃vs,KV kvs vs/\h.DictOf (au P w) a vs:=
 show ObjOk P w H h a (.dK kvs) from M3 ok e
def Ic{kvs:List (aH×V)}(ok:HOk P w H h)(e:H a=some (.dK kvs)):kvs.length<=sizeLine/\(a==sysModules)=false/\∃vs,KV kvs vs/\h.DictOf (au P w) a vs:=kZ ok (.inl e)
def dD{b:List aH}(ok:HOk P w H h)(e:H a=some (.tup (b.map kV))):(tupleKind (au P w)).is h b a:=by
 obtain⟨_,its,r,o,f,d,n,c⟩:=(show ObjOk P w H h a (.tup (b.map kV)) from ok a _ e);exact⟨o,its.toArray,n,f,d,c,by simpa using r8 r⟩
def mR{kvs:List (List aH×V)}(ok:HOk P w H h)(e:Rd H a (.dT kvs)):kvs.length<=sizeLine/\(a==sysModules)=false/\
 ∃xs,KT H kvs xs/\h.DictOfH (tupleKind (au P w)) a xs:=by
 obtain⟨z,y,xs,r,o,n,ep,k,j,i,g,f⟩:=(show ObjOk P w H h a (.dT kvs) from M3 ok e);refine⟨z,y,xs,r,o,n,ep,k,j,i,g,λx b=>?_,f⟩
 have all:∀{l:List (List aH×V)} {m:List (List aH×Addr×Value)},KT H l m->∀x∈m,(tupleKind (au P w)).is h x.1 x.2.1:=by
  intro l m q
  induction q with
  |nil=>intro x b;exact nomatch b
  |@cons p q ps s c t d=>
    intro x b;rcases YS.mp b with e|b
    ·subst e;exact dD ok (by rw[<-c.1];exact c.2.1)
    ·exact d x b
 exact all r x b
def H0{kvs:List (List aH×V)}(ok:HOk P w H h)(e:H a=some (.dT kvs)):kvs.length<=sizeLine/\(a==sysModules)=false/\
 ∃xs,KT H kvs xs/\h.DictOfH (tupleKind (au P w)) a xs:=mR ok (.inl e)
end
def DGet(H:Hp)(a:Addr)(y:V)(r:Option V):Prop:=
 (∃kvs k,Rd H a (.dK kvs)/\y=kV k/\r=cJ kvs k)\/∃kvs k b,Rd H a (.dT kvs)/\y=.ref b/\H b=some (.tup (k.map kV))/\r=cJ kvs k
def DPut(H:Hp)(a:Addr)(y v:V)(H':Hp):Prop:=
 (∃kvs k,H a=some (.dK kvs)/\y=kV k/\kvs.length<sizeLine/\H'=upd H a (.dK (eF kvs k v)))\/
 ∃kvs k b,H a=some (.dT kvs)/\y=.ref b/\H b=some (.tup (k.map kV))/\kvs.length<sizeLine/\H'=upd H a (.dT (eF kvs k v))
def DGet.k{H:Hp}{a:Addr}{kvs:List (aH×V)}{k:aH}(e:H a=some (.dK kvs)):DGet H a (kV k) (cJ kvs k):=.inl ⟨kvs,k,.inl e,rfl,rfl⟩
def DPut.k{H:Hp}{a:Addr}{kvs:List (aH×V)}{k:aH}{v:V}(e:H a=some (.dK kvs))(b:kvs.length<sizeLine):DPut H a (kV k) v (upd H a (.dK (eF kvs k v))):=.inl ⟨kvs,k,e,rfl,b,rfl⟩
def DPut.t{H:Hp}{kvs:List (List aH×V)}{k:List aH}(e:H a=some (.dT kvs))(d:H b=some (.tup (k.map kV)))(c:kvs.length<sizeLine):
 DPut H a (.ref b) v (upd H a (.dT (eF kvs k v))):=.inr ⟨kvs,k,b,e,rfl,d,c,rfl⟩
section
variable{X:Cx}{G:L9}{Z:St}{H:Hp}{s:Shared}{a:Addr}{y v:V}{u r:Value}{o:Option V}{A:Around}{E:LV}
def Inv.big(I:Inv X G Z H s):sysModules<s.heap.objs.size:=by
 have h:mainGlobals<s.heap.objs.size:=(I.mod.glob.keeps I.bk).lt;exact Nat.lt_trans (by decide) h
def Dh{Q:LV}(r:A.units+1<cLine)(I:Inv X G Z H s)(g:DGet H a y (some v))(q:RelV y u)(h:∀f n,Inv X G Z H n->RelV v f->Q f n):
 wpAny (model X.prog X.w) A (getItem (.ref a) u) Q E s:=by
 rcases g with ⟨kvs,k,e,m,l⟩|⟨kvs,k,b,e,m,t,l⟩
 ·subst m;obtain⟨z,hd,vs,d,dd⟩:=kZ I.hok e;obtain⟨f,i,c⟩:=RelO.some_of (v:=v) (o:=valueAt vs k) (by rw[l];exact d.val k);exact wpAny_getItem_of (kL q) dd.mapOf i (h f _ (I.tok _) c)
 ·subst m;cases(show u=Value.ref b from q);obtain⟨z,hd,xs,d,dd⟩:=mR I.hok e;obtain⟨f,i,c⟩:=RelO.some_of (v:=v) (o:=(atKey xs k).map (·.2)) (by rw[l];exact d.val k);obtain⟨p,hp,j⟩:=Y3.mp i;refine wpAny_getItem_heap (Z6 r) (dD I.hok t) dd hp ?_;rw[j];exact h f _ (I.tok _) c
def Yv{Q:LV}(j:A.units+1<cLine)(I:Inv X G Z H s)(g:DGet H a y o)(i:RelV y u)(h:∀f,Inv X G Z H f->Q (.bool o.isSome) f):
 wpAny (model X.prog X.w) A (compareOp .In u (.ref a)) Q E s:=by
 rcases g with ⟨kvs,k,e,d,l⟩|⟨kvs,k,b,e,d,m,l⟩
 ·subst d;obtain⟨z,hd,vs,c,dd⟩:=kZ I.hok e;refine wpAny_in_of (kL i) hd dd.mapOf ?_;rw[<-(c.val k).isSome_eq,<-l];exact h _ (I.tok _)
 ·subst d;cases(show u=Value.ref b from i);obtain⟨z,hd,xs,c,dd⟩:=mR I.hok e;refine wpAny_in_heap (Z6 j) (dD I.hok m) hd dd ?_;have q:=(c.val k).isSome_eq;rw[Ag2]at q;rw[<-q,<-l];exact h _ (I.tok _)
def Mc{Q:LV}(j:A.units+1<cLine)(I:Inv X G Z H s)(g:DGet H a y o)(i:RelV y u)(h:∀f,Inv X G Z H f->Q (.bool (!o.isSome)) f):
 wpAny (model X.prog X.w) A (compareOp .NotIn u (.ref a)) Q E s:=by
 rcases g with ⟨kvs,k,e,d,l⟩|⟨kvs,k,b,e,d,m,l⟩
 ·subst d;obtain⟨z,hd,vs,c,dd⟩:=kZ I.hok e;refine wpAny_notIn_of (kL i) hd dd.mapOf ?_;rw[<-(c.val k).isSome_eq,<-l];exact h _ (I.tok _)
 ·subst d;cases(show u=Value.ref b from i);obtain⟨z,hd,xs,c,dd⟩:=mR I.hok e;refine wpAny_notIn_heap (Z6 j) (dD I.hok m) hd dd ?_;have q:=(c.val k).isSome_eq;rw[Ag2]at q;rw[<-q,<-l];exact h _ (I.tok _)
def k9{h':Heap}(I:Inv X G Z H s)(c:Xl (H a))(d:Heap.SameBut a s.heap h')(f:∃q,h'.get? a=some q)(new:ObjOk X.prog X.w (upd H a ob) h' a ob):
 Inv X G Z (upd H a ob) {s with heap:=h',toks:=t'}:=
 I.write (x:=a) (e:=a) c (.inl rfl) (λb q g z=>(d.2 b g).trans z) f new
def Ie{h':Heap}{kvs:List (aH×V)}(z:kvs.length<=sizeLine)(hd:(a==sysModules)=false)(b:KV kvs vs)(dd:h'.DictOf (au P w) a vs):
 ObjOk P w H' h' a (.dK kvs):=⟨z,hd,vs,b,dd⟩
def Dg{Q:Unit->Shared->Prop}(D:A.units+1<cLine)(I:Inv X G Z H s)(g:DPut H a y v H')(t:RelV y u)(x:RelV v r)(h:∀p,Inv X G Z H' p->Q () p):
 wpAny (model X.prog X.w) A (setItem (.ref a) u r) Q E s:=by
 rcases g with ⟨kvs,k,e,n,l,o⟩|⟨kvs,k,b,e,n,C,l,o⟩
 · subst n o;obtain⟨z,hd,vs,d,dd⟩:=Ic I.hok e;have hz:vs.length<=sizeLine:=by rw[<-d.length];exact z
   have m:(eF kvs k v).length<=sizeLine:=by have:=mL kvs k v;omega
   refine wpAny_setItem_pairs (hsz:=hz) (kL t) dd λh' f j=>h _ ?_;have F:∃q,h'.get? a=some q:=let ⟨q,_,_,i,_⟩:=f;⟨q,i⟩
   exact k9 I (by rw[e];exact True.intro) j F (Ie m hd (d.put k x) f)
 · subst n o;cases(show u=Value.ref b from t);obtain⟨z,hd,xs,d,dd⟩:=H0 I.hok e;have hz:xs.length<=sizeLine:=by rw[<-ZU d];exact z
   have m:(eF kvs k v).length<=sizeLine:=by have:=mL kvs k v;omega
   refine wpAny_setItem_heap (hsz:=hz) (Z6 D) (dD I.hok C) dd λh' f j=>h _ ?_;obtain⟨q,N,ep,i,M,L,K,_,J⟩:=f;refine k9 I (by rw[e];exact True.intro) j ⟨q,i⟩ ⟨m,hd,_,(d.put k C x).keeps λc O B=>?_,q,N,ep,i,M,L,K,J⟩;rw[aq (FS B e (λz=>nomatch z))];exact B
end
section
variable{X:Cx}{G:L9}{Z:St}{H:Hp}{s:Shared}{a:Addr}{kvs:List (aH×V)}{k:aH}{u:Value}{A:Around}{E:LV}
def Ww{Q:LV}(I:Inv X G Z H s)(e:H a=some (.dK kvs))(f:RelV (kV k) u)(l:cJ kvs k=some v)(m:more=[]\/∃x,more=[x])
 (h:∀c j,Inv X G Z (upd H a (.dK (dZ kvs k))) j->RelV v c->Q c j):wpAny (model X.prog X.w) A (call (.builtin "dict.pop") (.ref a::u::more)) Q E s:=by
 obtain⟨z,hd,vs,b,dd⟩:=Ic I.hok e;obtain⟨c,n,g⟩:=RelO.some_of (v:=v) (o:=valueAt vs k) (by rw[<-l];exact b.val k)
 have hp:(keyPart u).isSome=true:=by
  cases k with
  |inl i=>obtain⟨t,q⟩:=(show ∃t,u=Value.int i t from f);subst q;rfl
  |inr x=>obtain⟨t,q⟩:=(show ∃t,u=Value.str x t from f);subst q;rfl
 have B:argsOk "dict.pop" ⟨.ref a::u::more,[]⟩:=by
  rcases m with q|⟨x,q⟩
  ·subst q;exact PySem.F.args_dict_pop_2 _ _
  ·subst q;exact Ah3 _ _ _
 refine Ac5 Z7 dd.typeIs Ai0 B (meets_dict_pop_there (au X.prog X.w) a (kL f) more m hp)
  ⟨vs,c,dd,by rw[<-b.length];exact z,n,λh' d p=>h c _ ?_ g⟩
 have y:∃q,h'.get? a=some q:=let ⟨q,_,_,r,_⟩:=d;⟨q,r⟩
 exact k9 I (by rw[e];exact True.intro) p y (Ie (Ze (oR kvs k) z) hd (b.drop k) d)
def Sc{Q:LV}(I:Inv X G Z H s)(e:H a=some (.dK kvs))(b:RelV (kV k) u)(l:cJ kvs k=none)(h:∀d,Inv X G Z H d->Q r d):
 wpAny (model X.prog X.w) A (call (.builtin "dict.pop") [.ref a,u,r]) Q E s:=by
 obtain⟨z,hd,vs,c,dd⟩:=Ic I.hok e;have f:valueAt vs k=none:=RelO.none_of (by rw[<-l];exact c.val k)
 have hp:(keyPart u).isSome=true:=by
  cases k with
  |inl i=>obtain⟨t,q⟩:=(show ∃t,u=Value.int i t from b);subst q;rfl
  |inr x=>obtain⟨t,q⟩:=(show ∃t,u=Value.str x t from b);subst q;rfl
 exact Ac5 Z7 dd.typeIs Ai0 (Ah3 _ _ _) (meets_dict_pop_default (au X.prog X.w) a (kL b) hd hp r) ⟨vs,dd,f,h _ (I.tok _)⟩
end
def Xk(i:Expr):Prop:=∀ov a,subscripted i false ov a=operate [ov,a] (getItem ov a)
def JK{id:String}
 (n:typeLookup (.type T) "__getitem__" = pure (some (.builtin id))) (m:Xk a)
 (h:wpAny (model prog w) A (eval b env) (λo f=>wpAny (model prog w) A (eval a env) (λi c=>c.TypeIs o T/\wpAny (model prog w) A (getItem o i) Q E c) E f) E s):
 wpAny (model prog w) A (eval (.Subscript b a pos) env) Q E s:=by
 refine Subscript_ (wpAny_mono h (λo f k=>wpAny_mono k (λi c d=>?_) λ_ _ x=>x) λ_ _ x=>x);obtain⟨l,d⟩:=d;unfold subscriptTail;refine wpAny_bind ?_;rw[getitemInPython_of_ne l.not_modules];refine wpAny_bind (wpAny_specialOf l n ?_)
 have g:wpAny (model prog w) A (subscripted a false o i) (λr e=>wpAny (model prog w) A (letTemporaryGo b o r >>= λ_=>pure r) Q E e) E c:=by
  rw[m o i];exact wpAny_operating (Ae0 d (λr e j=>YH (wpAny_letTemporaryGo (YR j))) λ_ _ x=>x)
 first
  |exact YR (YH g)
  |exact YH (YR (YH g))
  |exact YH g
def v6{X:Cx}{s:Shared}(I:Inv X G Z H s)(g:DGet H a y o):s.TypeIs (.ref a) "dict" := by
 rcases g with ⟨kvs,k,e,_,_⟩|⟨kvs,k,b,e,_,_,_⟩
 ·obtain⟨_,_,vs,_,dd⟩:=kZ I.hok e;exact dd.typeIs
 ·obtain⟨_,_,xs,_,dd⟩:=mR I.hok e;exact dd.typeIs
def D9(c ty:TE):TE:=λZ H Q=>c Z H λx H1=>ty Z H1 λy b=>∃a v,x=.ref a/\DGet b a y (some v)/\Q v b
def Oy(ty c:TE):TE:=λZ H Q=>ty Z H λy H1=>c Z H1 λx b=>∃a o,x=.ref a/\DGet b a y o/\Q (.bl o.isSome) b
def sW(ty c:TE):TE:=λZ H Q=>ty Z H λy H1=>c Z H1 λx b=>∃a o,x=.ref a/\DGet b a y o/\Q (.bl (!o.isSome)) b
def Eu(d ty c:TE):TS:=λD Z H=>c Z H λv H1=>d Z H1 λx f=>ty Z f λy e=>∃a b,x=.ref a/\DPut e a y v b/\D.nx Z b
section
variable{X:Cx}{o i e value:Expr}{pos pos' tpos:Pos}{td ty tv:TE}
def KY(l:X.A.units+1<cLine)(n:PE X o td)(hi:PE X i ty)(m:Xk i):PE X (.Subscript o i pos) (D9 td ty):=by
 intro G s Z H Q I h;refine JK PySem.F.slot_dict_getitem.lookup m (br (n G s Z H _ I h) λu d ⟨x,H1,q,f,k⟩=>br (hi G d Z H1 _ q k) λB z ⟨y,r,c,e,a,v,ex,g,j⟩=>?_);subst ex;obtain rfl:u=Value.ref a:=f;exact⟨v6 c g,Dh l c g e λt w p b=>⟨v,r,p,b,j⟩⟩
def Pz(j:X.A.units+1<cLine)(hi:PE X i ty)(k:PE X o td):PC X .In i o (Oy ty td):=by
 intro G s Z H Q I h;refine br (hi G s Z H _ I h) λt b ⟨y,H1,n,c,f⟩=>br (k G b Z H1 _ n f) λu r ⟨x,p,m,d,a,ov,ex,g,e⟩=>?_;subst ex;obtain rfl:u=Value.ref a:=d;exact Yv j m g c λq l=>⟨.bl ov.isSome,p,l,rfl,e⟩
def CC(j:X.A.units+1<cLine)(hi:PE X i ty)(k:PE X o td):PC X .NotIn i o (sW ty td):=by
 intro G s Z H Q I h;refine br (hi G s Z H _ I h) λt b ⟨y,H1,n,c,f⟩=>br (k G b Z H1 _ n f) λu r ⟨x,p,m,d,a,ov,ex,g,e⟩=>?_;subst ex;obtain rfl:u=Value.ref a:=d;exact Mc j m g c λq l=>⟨.bl (!ov.isSome),p,l,rfl,e⟩
def Kz(n:X.A.units+1<cLine)(q:PE X o td)(hi:PE X i ty)(m:PE X value tv)(p:swapsWith value (some (.Subscript o i pos')) pos.line X.env=pure false):
 PS X (.Assign [.Subscript o i pos'] value pos) (Eu td ty tv):=by
 intro G s Z H D I h;refine wpAny_Assign_Subscript (br (m G s Z H _ I h) λr c ⟨v,H1,B,f,l⟩=>br (q G c Z H1 _ B l) λu b ⟨x,E,z,e,k⟩=>br (hi G b Z E _ z k) λK J ⟨y,L,w,d,a,C,ex,g,j⟩=>?_) p;subst ex;obtain rfl:u=Value.ref a:=e;exact Dg n w g d f λF t=>⟨Z,C,t,j⟩
end
def Ig(h:Heap)(a:sysModules<h.objs.size):ObjOk P w H (h.push {cls:=.type "dict",data:=.dict #[]}) h.objs.size (.dK []):=
 ⟨Z3 _,Zp.mpr (Aa7 (Zg a)),[],.nil,Heap.DictOf.new h⟩
def H8(h:Heap)(a:sysModules<h.objs.size):ObjOk P w H (h.push {cls:=.type "dict",data:=.dict #[]}) h.objs.size (.dT []):=
 ⟨Z3 _,Zp.mpr (Aa7 (Zg a)),[],.nil,_,#[],0,Y4 _ rfl,⟨rfl,rfl,rfl⟩,rfl,rfl,ZD⟩
def x5:TE:=λ_ H Q=>∀p,H p=none->Q (.ref p) (upd H p (.dK []))
def xZ:TE:=λ_ H Q=>∀p,H p=none->Q (.ref p) (upd H p (.dT []))
section
variable{X:Cx}{pos:Pos}
def Fm:PE X (.Dict [] [] pos) x5:=λG s Z H Q I h=>
 wpAny_Dict_empty ⟨.ref s.heap.objs.size,_,I.laid (a:=s.heap.objs.size) (o:=.dK []) (t':=s.toks) (λ_ _ q=>YN _ q) (YY _) (Ig s.heap I.big),rfl,h _ (I.hok.fresh (YY _))⟩
def Fl:PE X (.Dict [] [] pos) xZ:=λG s Z H Q I h=>
 wpAny_Dict_empty ⟨.ref s.heap.objs.size,_,I.laid (a:=s.heap.objs.size) (o:=.dT []) (t':=s.toks) (λ_ _ q=>YN _ q) (YY _) (H8 s.heap I.big),rfl,h _ (I.hok.fresh (YY _))⟩
end
structure M1 (X:Cx) (o:Expr) (m:Str) (apos:Pos) (e:Expr) (cpos:Pos):Prop where
 base:attributeBase o m X.env (eval o X.env)=eval o X.env
 few:((backTo cpos (starEach [e] X.env)).all (λx=>!x.1)&&(backToKw cpos (keywordEach [] X.env)).all (λx=>x.1.isSome)
  && decide (([e]:List Expr).length+([]:List Keyword).length+(if ([]:List Keyword).isEmpty then 0 else 1)<30))=true
 line:(apos.endLine==cpos.line)=true
 trees:backTo cpos (starEach [e] X.env)=[(false,eval e X.env)]
structure M2 (X:Cx) (o:Expr) (m:Str) (apos:Pos) (e f:Expr) (cpos:Pos):Prop where
 base:attributeBase o m X.env (eval o X.env)=eval o X.env
 few:((backTo cpos (starEach [e,f] X.env)).all (λx=>!x.1)&&(backToKw cpos (keywordEach [] X.env)).all (λx=>x.1.isSome)
  && decide (([e,f]:List Expr).length+([]:List Keyword).length+(if ([]:List Keyword).isEmpty then 0 else 1)<30))=true
 line:(apos.endLine==cpos.line)=true
 trees:backTo cpos (starEach [e,f] X.env)=[(false,eval e X.env),(false,eval f X.env)]
def Oi(H:Hp)(a:Addr):Prop:=(∃kvs,Rd H a (.dK kvs))\/∃kvs,Rd H a (.dT kvs)
def lZ{X:Cx}{s:Shared}(I:Inv X G Z H s)(d:Oi H a):
 s.TypeIs (.ref a) "dict" /\ (∀b,Value.ref a=.ref b->∃ob,s.heap.get? b=some ob/\ob.dict=none)/\(a==sysModules)=false:=by
 rcases d with ⟨kvs,e⟩|⟨kvs,e⟩
 ·obtain⟨_,hd,vs,_,dd⟩:=kZ I.hok e;refine⟨dd.typeIs,λb q=>?_,hd⟩;cases q;obtain⟨ob,_,_,f,c,_⟩:=dd;exact⟨ob,f,c.2.1⟩
 ·obtain⟨_,hd,xs,_,dd⟩:=mR I.hok e;refine⟨dd.typeIs,λb q=>?_,hd⟩;cases q;obtain⟨ob,_,_,f,c,_⟩:=dd;exact⟨ob,f,c.2.1⟩
section
variable{X:Cx}{G:L9}{Z:St}{H:Hp}{s:Shared}{a:Addr}{y d:V}{u r:Value}{o:Option V}{A:Around}{E:LV}
def Se{Q:LV}(m:A.units+1<cLine)(I:Inv X G Z H s)(g:DGet H a y o)(j:RelV y u)(h:∀f i,Inv X G Z H i->RelV (o.getD .non) f->Q f i):
 wpAny (model X.prog X.w) A (call (.builtin "dict.get") [.ref a,u]) Q E s:=by
 rcases g with ⟨kvs,k,e,d,l⟩|⟨kvs,k,b,e,d,n,l⟩
 ·subst d;obtain⟨z,hd,vs,c,dd⟩:=kZ I.hok e;refine Ac5 ZS dd.typeIs Ab2 (Ah4 _ _) (meets_dict_get (au X.prog X.w) a (kL j) hd) ⟨_,dd.mapOf,h _ _ (I.tok _) ?_⟩;rw[l];exact(c.val k).getD rfl
 ·subst d;cases(show u=Value.ref b from j);obtain⟨z,hd,xs,c,dd⟩:=mR I.hok e;refine Ac5 ZS dd.typeIs Ab2 (Ah4 _ _) (meetsH_dict_get (tupleKind (au X.prog X.w)) a b hd) ⟨Z6 m,k,xs,dD I.hok n,dd,h _ _ (I.tok _) ?_⟩;rw[l];exact(c.val k).getD rfl
def Sd{Q:LV}(n:A.units+1<cLine)(I:Inv X G Z H s)(g:DGet H a y o)(m:RelV y u)(rd:RelV d r)(h:∀i j,Inv X G Z H j->RelV (o.getD d) i->Q i j):
 wpAny (model X.prog X.w) A (call (.builtin "dict.get") [.ref a,u,r]) Q E s:=by
 rcases g with ⟨kvs,k,e,f,l⟩|⟨kvs,k,b,e,f,p,l⟩
 ·subst f;obtain⟨z,hd,vs,c,dd⟩:=kZ I.hok e;refine Ac5 ZS dd.typeIs Ab2 (Ah5 _ _ _) (meets_dict_get_default (au X.prog X.w) a (kL m) hd r) ⟨_,dd.mapOf,h _ _ (I.tok _) ?_⟩;rw[l];exact(c.val k).getD rd
 ·subst f;cases(show u=Value.ref b from m);obtain⟨z,hd,xs,c,dd⟩:=mR I.hok e;refine Ac5 ZS dd.typeIs Ab2 (Ah5 _ _ _) (meetsH_dict_get_default (tupleKind (au X.prog X.w)) a b hd r) ⟨Z6 n,k,xs,dD I.hok p,dd,h _ _ (I.tok _) ?_⟩;rw[l];exact(c.val k).getD rd
end
def x9(c ty:TE):TE:=λZ H Q=>c Z H λx H1=>∃a,x=.ref a/\Oi H1 a/\ty Z H1 λy b=>∃o,DGet b a y o/\Q (o.getD .non) b
def x8(d ty c:TE):TE:=λZ H Q=>d Z H λx H1=>∃a,x=.ref a/\Oi H1 a/\ty Z H1 λy e=>c Z e λz b=>∃o,DGet b a y o/\Q (o.getD z) b
def xY(d ty c:TE):TE:=λZ H Q=>d Z H λx H1=>∃a,x=.ref a/\Oi H1 a/\ty Z H1 λy e=>c Z e λz b=>∃kvs k,b a=some (.dK kvs)/\y=kV k/\
 (∀v,cJ kvs k=some v->Q v (upd b a (.dK (dZ kvs k))))/\(cJ kvs k=none->Q z b)
section
variable{X:Cx}{o e f:Expr}{apos cpos:Pos}{td ty tx:TE}
def Fo(q:X.A.units+1<cLine)(r:PE X o td)(t:PE X e ty)(m:M1 X o "get" apos e cpos):PE X (.Call (.Attribute o "get" apos) [e] [] cpos) (x9 td ty):=by
 intro G s Z H Q I h;refine Ac1 m.base m.few m.line ZE ZS Aj4 (br (r G s Z H _ I h) λu j ⟨x,H1,c,l,a,ex,d,p⟩=>?_);subst ex;obtain rfl:u=Value.ref a:=l;obtain⟨i,f,_⟩:=lZ c d;refine⟨i,f,?_⟩;rw[m.trees];refine ZI rfl (ZV (Zz (br (t G j Z H1 _ c p) λE D ⟨y,z,w,k,ov,g,n⟩=>ZX ?_)));exact Se q w g k λB C v b=>⟨_,z,v,b,n⟩
def Fn(w:X.A.units+1<cLine)(B:PE X o td)(D:PE X e ty)(C:PE X f tx)(m:M2 X o "get" apos e f cpos):PE X (.Call (.Attribute o "get" apos) [e,f] [] cpos) (x8 td ty tx):=by
 intro G s Z H Q I h;refine Ac1 m.base m.few m.line ZE ZS Aj4 (br (B G s Z H _ I h) λu l ⟨x,H1,c,q,a,ex,d,v⟩=>?_);subst ex;obtain rfl:u=Value.ref a:=q;obtain⟨j,i,_⟩:=lZ c d;refine⟨j,i,?_⟩;rw[m.trees]
 refine ZI rfl (ZV (Zz (br (D G l Z H1 _ c v) λP k ⟨y,L,J,p,t⟩=>
  Zz (br (C G k Z L _ J t) λR O ⟨z,K,F,n,ov,g,r⟩=>ZX ?_))))
 exact Sd w F g p n λM N E b=>⟨_,K,E,b,r⟩
def Fk(J:PE X o td)(L:PE X e ty)(K:PE X f tx)(m:M2 X o "pop" apos e f cpos):PE X (.Call (.Attribute o "pop" apos) [e,f] [] cpos) (xY td ty tx):=by
 intro G s Z H Q I h;refine Ac1 m.base m.few m.line ZE Z7 Ad8 (br (J G s Z H _ I h) λu w ⟨x,H1,n,B,a,ex,d,F⟩=>?_);subst ex;obtain rfl:u=Value.ref a:=B;obtain⟨q,p,_⟩:=lZ n d;refine⟨q,p,?_⟩;rw[m.trees]
 refine ZI rfl (ZV (Zz (br (L G w Z H1 _ n F) λU t ⟨y,R,O,g,E⟩=>
  Zz (br (K G t Z R _ O E) λM T ⟨z,P,j,A,kvs,k,i,N,D,C⟩=>ZX ?_))))
 subst N;cases l:cJ kvs k with
 |some v=>exact Ww j i g l (.inr ⟨M,rfl⟩) λS r c b=>⟨v,_,c,b,D v l⟩
 |none=>exact Sc j i g l λr c=>⟨z,P,c,A,C l⟩
end
end L2
namespace HT
open PySem PyProof.Rows
def fT:List Int->List Int->Bool
 |[],[]=>false
 |[],_::_=>true
 |_::_,[]=>false
 |x::xs,y::a=>if x=y then fT xs a else decide (x<y)
def fg(x y:Int)(xs a:List Int):fT (x::xs) (y::a)=if x=y then fT xs a else decide (x<y):=rfl
def EZ(A:Around)(s:Shared)(a:Int)(t:Tok)(c:Int)(u:Tok)(prog:Program)(w:World)(E:LV)(Q:LV)(h:Q (.bool (decide (a<c))) s):
 wpAny (model prog w) A (richCompare .Lt (.int a t) (.int c u)) Q E s:=
 (PyProof.Rows.lt_int h:wpAny (model prog w) A (compareOp .Lt (.int a t) (.int c u)) Q E s)
section
variable{prog:Program}{w:World}{A:Around}{E:LV}{s:Shared}
def vc(n d:Nat):Option Int->Nat
 |none=>d
 |some v=>if v<0 then (v+(n:Int)).toNat else min v.toNat n
def Es(n d:Nat):vc n d none=d:=rfl
end
end HT
namespace L2
open PySem PySem.Spec PyProof.Rows
abbrev TO:=St->Hp->(Option Int->Hp->Prop)->Prop
def PO(X:Cx)(e:Option Expr)(t:TO):Prop:=
 ∀(G:L9) (s:Shared) (Z:St) (H:Hp) (Q:Option Int->Hp->Prop),Inv X G Z H s->t Z H Q->
  wpAny (model X.prog X.w) X.A (evalPart e X.env) (λu a=>∃o H',Inv X G Z H' a/\IsPart u o/\Q o H') X.xe s
def zO:TO:=λ_ H Q=>Q none H
def MO(t:TE):TO:=λZ H Q=>t Z H λx H1=>∃i,x=.int i/\Q (some i) H1
def yL{ns:List Int}:∀{us:List Value},Vals (ns.map V.int) us->IntsAre us ns:=by
 induction ns with
 |nil=>intro us r;rw[ZL]at r;cases r;exact .nil
 |cons n ns c=>
   intro us r;rw[YI]at r;cases r with
   |cons b a=>
     obtain⟨t,e⟩:=b;subst e;exact .cons n t (c a)
section
variable{X:Cx}{e:Expr}{te:TE}{lo hi:Option Expr}{tl th:TO}{pos p2:Pos}
def KF:PO X none zO:=by
 intro G s Z H Q I h;rw[evalPart_none];exact YR ⟨none,H,I,.none,h⟩
def KE(h:PE X e te):PO X (some e) (MO te):=by
 intro G s Z H Q I c;rw[evalPart_some];refine br (h G s Z H _ I c) λu f ⟨x,H1,d,a,b⟩=>?_;obtain⟨i,rfl,q⟩:=b;obtain⟨t,rfl⟩:=a;exact⟨some i,H1,d,.int i t,q⟩
def XG(X:Cx)(r:V->Option Int->Option Int->Hp->VK->Prop):Prop:=
 ∀(G:L9) (s:Shared) (Z:St) (H:Hp) (x:V) (v b a:Value) (lo hi:Option Int) (c:Addr) (Q:VK),Inv X G Z H s->RelV x v->s.heap.IsSliceOf c b a .none->IsPart b lo->IsPart a hi->r x lo hi H Q->
  ∃T id,typeLookup (.type T) "__getitem__" = pure (some (.builtin id))/\s.TypeIs v T/\wpAny (model X.prog X.w) X.A (getItem v (.ref c)) (EP X G Z Q) X.xe s
def XO(r:V->Option Int->Option Int->Hp->VK->Prop)(te:TE)(tl th:TO):TE:=λZ H Q=>te Z H λx H1=>tl Z H1 λl b=>th Z b λu a=>r x l u a Q
def Ff(y:XG X r)(C:PE X e te)(z:PO X lo tl)(p:PO X hi th):PE X (.Subscript e (.Slice lo hi none p2) pos) (XO r te tl th):=by
 intro G s Z H Q I h;refine Subscript_ (br (C G s Z H _ I h) λv i ⟨x,H1,K,j,n⟩=>?_);refine wpAny_Slice (br (z G i Z H1 _ K n) λd g ⟨l,L,J,pl,m⟩=>br (p G g Z L _ J m) λc a ⟨u,f,F,o,k⟩=>?_);rw[evalPart_none];refine wpAny_pure ?_;have E:Inv X G Z f {a with heap:=a.heap.push {cls:=.type "slice",data:=.fields #[d,c,.none]}}:=F.kept (t':=a.toks) λb ob q=>Heap.get?_push_of_some _ q;obtain⟨T,id,D,t,B⟩:=y G {a with heap:=a.heap.push {cls:=.type "slice",data:=.fields #[d,c,.none]}} Z f x v d c l u a.heap.objs.size Q E j (Heap.IsSliceOf.new ..) pl o k;show wpAny (model X.prog X.w) X.A (subscriptTail e (.Slice lo hi none p2) v (.ref a.heap.objs.size)) (EP X G Z Q) X.xe {a with heap:=a.heap.push {cls:=.type "slice",data:=.fields #[d,c,.none]}};exact tail_any (ops:=[.ref a.heap.objs.size,v]) t D B (by with_unfolding_all rfl)
def Di(xs:List V)(lo hi:Option Int):List V:=(xs.drop (HT.vc xs.length 0 lo)).take (HT.vc xs.length xs.length hi-HT.vc xs.length 0 lo)
def wj(xs:List V)(lo hi:Option Int):(Di xs lo hi).length<=xs.length:=by
 unfold Di;rw[List.length_take,List.length_drop];omega
end
def oB(n:Nat)(i:Int):Option Nat:=if 0<=i then (if i<n then some i.toNat else none) else if -(n:Int)<=i then some (i+n).toNat else none
def ke{W:Type}(xs:List W)(i:Int):Option W:=(oB xs.length i).bind λj=>xs[j]?
def t3(h:oB n i=some j):seqIndex? i n=some j/\j<n/\-(n:Int)<=i/\i<n:=by
 unfold oB at h;by_cases h0:0<=i
 · rw[YG h0]at h;by_cases a:i<n
   ·rw[YG a]at h;have e:i.toNat=j:=Y6 h;exact⟨by rw[seqIndex_of h0 a,e],by omega,by omega,a⟩
   ·rw[on a]at h;cases h
 · rw[on h0]at h;by_cases a:-(n:Int)<=i
   ·rw[YG a]at h;have e:(i+n).toNat=j:=Y6 h;exact⟨by rw[seqIndex_neg (by omega) a,e],by omega,a,by omega⟩
   ·rw[on a]at h;cases h
def BL{xs:List W}(h:ke xs i=some v):∃j,seqIndex? i xs.length=some j/\xs[j]?=some v/\j<xs.length/\-(xs.length:Int)<=i/\i<xs.length:=by
 unfold ke at h;cases e:oB xs.length i with
 |none=>rw[e]at h;cases h
 |some j=>
   rw[e]at h;obtain⟨d,c,b,a⟩:=t3 e;exact⟨j,d,h,c,b,a⟩
def qG(xs:List W)(v:W):ke (xs++[v]) (-1)=some v:=by
 have a:(xs++[v]).length=xs.length+1:=by simp
 have e:oB (xs++[v]).length (-1)=some xs.length:=by
  unfold oB;rw[a,if_neg (by decide),if_pos (by omega)];congr 1;omega
 unfold ke;rw[e];show(xs++[v])[xs.length]?=some v;simp
def Mw(b:Expr):Prop:=∀o i,subscripted b false o i=operate [o,i] (getItem o i)
def TY(X:Cx)(r:R2):Prop:=
 ∀(b a:Expr) (G:L9) (s:Shared) (Z:St) (H:Hp) (x y:V) (v u:Value) (Q:VK),Inv X G Z H s->RelV x v->RelV y u->r x y H Q->
  subscripted a false v u=operate [v,u] (getItem v u)->wpAny (model X.prog X.w) X.A (subscriptTail b a v u) (EP X G Z Q) X.xe s
def MtR(X:Cx)(id:String)(r:V->List V->Hp->VK->Prop):Prop:=
 ∀(G:L9) (s:Shared) (Z:St) (H:Hp) (x:V) (xs:List V) (v:Value) (us:List Value) (Q:VK),Inv X G Z H s->RelV x v->Vals xs us->r x xs H Q->
  wpAny (model X.prog X.w) X.A (call (.builtin id) (v::us)) (EP X G Z Q) X.xe s
section
variable{X:Cx}{a b:Expr}{ta tb:TE}{pos:Pos}
def UI(g:TY X r)(j:PE X a ta)(i:PE X b tb)(f:Mw b):PE X (.Subscript a b pos) (DM r ta tb):=by
 intro G s Z H Q I h;exact Subscript_ (Tf j i I h λv u c x y l k e d q=>g a b G c Z l x y v u Q k e d q (f _ _))
def Kn(K:F0):R2:=λx y H Q=>∃p xs i v,x=.ref p/\y=.int i/\SqL K H p xs/\ke xs i=some v/\Q v H
def OX(K:F0):R2:=λx y H Q=>∃p xs i v,x=.ref p/\y=.int i/\SqT K H p xs/\ke xs i=some v/\Q v H
def LQ:TY X (Kn X.K):=by
 intro c d G s Z H x y v u Q I n m h g;obtain⟨p,xs,i,z,rfl,rfl,o,B,q⟩:=h;cases n;obtain⟨t,rfl⟩:=m;obtain⟨its,r,pl,hz⟩:=I.list o;obtain⟨j,b,E,J,D,C⟩:=BL B;obtain⟨w,k,e⟩:=r.get E;have A:=r.length;have F:=tU;have a:EP X G Z Q w s:=⟨z,H,I,e,q⟩;by_cases h0:0<=i
 · have f:i.toNat=j:=by
    rw[seqIndex_of h0 C]at b;exact Y6 b
   exact item_listR pl.isList h0 (by omega) (by rw[f];simpa using k) a g
 · have f:(i+(its.toArray.size:Int)).toNat=j:=by
    rw[seqIndex_neg (by omega) D]at b;rw[YZ,<-A];exact Y6 b
   exact subscriptTail_builtinR (x:=w) pl.isList.typeIs slot_list_getitem.lookup
    (wpAny_getItem_list_neg (Q:=λr l=>r=w/\EP X G Z Q r l) pl.isList (by omega) (by rw[YZ]<;>omega) (by omega) (by rw[f];simpa using k) ⟨rfl,a⟩) g
def RS:TY X (OX X.K):=by
 intro a b G s Z H x y v u Q I g f h k;obtain⟨p,xs,i,z,rfl,rfl,l,n,q⟩:=h;cases g;obtain⟨t,rfl⟩:=f;obtain⟨its,r,pl,hz⟩:=I.tuple l;obtain⟨j,A,o,F,E,D⟩:=BL n;obtain⟨w,B,c⟩:=r.get o;have m:=r.length;have C:=tU;have d:EP X G Z Q w s:=⟨z,H,I,c,q⟩
 exact subscriptTail_builtinR (x:=w) pl.typeIs slot_tuple_getitem.lookup
  (getItem_tuple (j:=j) (Q:=λr e=>r=w/\EP X G Z Q r e) pl (by omega) (by omega) (by rw[YZ,<-m];exact A) (by simpa using B) ⟨rfl,d⟩) k
def yB(its:List Value)(n j:Nat)(u:Value):Obj.mapSeq (·.setIfInBounds j u) {cls:=.type "list",data:=.seq its.toArray n}={cls:=.type "list",data:=.seq (its.set j u).toArray n}:=by
 simp[Obj.mapSeq]
def Inv.lst{G:L9}{Z:St}{H:Hp}{s:Shared}{p:Addr}{xs:List V}(I:Inv X G Z H s)(h:H p=some (.lst xs)):
 ∃(its:List Value) (n:Nat),Vals xs its/\s.heap.get? p=some {cls:=.type "list",data:=.seq its.toArray n}/\xs.length<=sizeLine:=by
 obtain⟨z,its,n,r,e⟩:=I.hok p _ h;exact⟨its,n,r,e,z⟩
def Inv.lstUpd{H:Hp}{s:Shared}{a:List V}{its its':List Value}(I:Inv X G Z H s)(h:H p=some (.lst xs))
 (g:s.heap.get? p=some {cls:=.type "list",data:=.seq its.toArray n}) (d:f {cls:=.type "list",data:=.seq its.toArray n}={cls:=.type "list",data:=.seq its'.toArray c}) (r:Vals a its') (hz:a.length<=sizeLine) (t:Nat):
 Inv X G Z (upd H p (.lst a)) {s with heap:=s.heap.update p f,toks:=t}:=by
 have e:(s.heap.update p f).get? p=some {cls:=.type "list",data:=.seq its'.toArray c}:=by
  rw[Zo f g (by rw[d]<;>rfl),d]
 refine I.write (x:=p) (e:=p) (by rw[h];trivial) (.inl rfl) (λb u i q=>(Zk _ _ (Aa7 i)).trans q) ⟨_,e⟩ ?_;exact⟨hz,its',c,r,e⟩
def M4:V->V->V->Hp->(Hp->Prop)->Prop:=λo i v H Q=>∃p xs k j,o=.ref p/\i=.int k/\H p=some (.lst xs)/\oB xs.length k=some j/\Q (upd H p (.lst (xs.set j v)))
def Eo:Xi X M4:=by
 intro G s Z H o i v ov y u Q I m w l h;obtain⟨p,xs,k,j,rfl,rfl,hp,x,q⟩:=h;cases m;obtain⟨t,rfl⟩:=w;obtain⟨its,n,r,b,hz⟩:=I.lst hp;obtain⟨a,A,f,e⟩:=t3 x;have c:=r.length;have z:=tU
 have g:Inv X G Z (upd H p (.lst (xs.set j v))) {s with heap:=s.heap.update p (Obj.mapSeq (·.setIfInBounds j u))}:=
  I.lstUpd hp b (yB its n j u) (r.set l j) (by rw[Za];exact hz) s.toks
 by_cases h0:0<=k
 · have d:k.toNat=j:=by
    rw[seqIndex_of h0 e]at a;exact Y6 a
   exact PySem.W.ki_setAt b h0 (by omega) (by rw[YZ,<-c];exact e) (by rw[d];exact⟨_,g,q⟩)
 · have d:(k+(its.toArray.size:Int)).toNat=j:=by
    rw[seqIndex_neg (by omega) f]at a;rw[YZ,<-c];exact Y6 a
   exact PySem.W.ki_setBack b (by omega) (by rw[YZ,<-c];exact f) (by omega) (by rw[d];exact⟨_,g,q⟩)
def tj(lo hi:Option Int)(n:Nat):(sliceBounds lo hi none n).1=((HT.vc n 0 lo:Nat):Int)/\(sliceBounds lo hi none n).2.1=((HT.vc n n hi:Nat):Int)/\(sliceBounds lo hi none n).2.2=1:=by
 refine⟨?_,?_,rfl⟩
 · cases lo with
   |none=>simp[sliceBounds,HT.vc]
   |some i=>
     simp only[sliceBounds,HT.vc,Option.getD_none,show(1:Int)>0 by decide,Ai2];by_cases h:i<0
     ·simp only[h,Ai2]<;>omega
     ·simp only[h,Af6]<;>omega
 · cases hi with
   |none=>simp[sliceBounds,HT.vc]
   |some i=>
     simp only[sliceBounds,HT.vc,Option.getD_none,show(1:Int)>0 by decide,Ai2];by_cases h:i<0
     ·simp only[h,Ai2]<;>omega
     ·simp only[h,Af6]<;>omega
def qT(its:List Value)(lo hi:Option Int):slicePick its.toArray lo hi none=((its.drop (HT.vc its.length 0 lo)).take (HT.vc its.length its.length hi-HT.vc its.length 0 lo)).toArray:=by
 obtain⟨c,b,a⟩:=tj lo hi its.toArray.size;unfold slicePick;rw[c,b,a];simp only[sliceRange_one,pick_run,List.size_toArray]<;>rfl
def OV(K:F0):V->Option Int->Option Int->Hp->VK->Prop:=λx lo hi H Q=>∃a xs,x=.ref a/\SqL K H a xs/\∀p,H p=none->Q (.ref p) (upd H p (.lst (Di xs lo hi)))
def Kb:XG X (OV X.K):=by
 intro G s Z H x v k j lo hi l Q I e i pl f h;obtain⟨a,xs,rfl,g,q⟩:=h;cases e;obtain⟨its,r,d,hz⟩:=I.list g;have c:=r.length;refine⟨"list",_,slot_list_getitem.lookup,d.isList.typeIs,?_⟩;refine wpAny_getItem_list_slice d.isList i pl f .none (by simp) ?_ (by rw[YZ]<;>omega);rw[qT,<-c];refine⟨.ref s.heap.objs.size,_,I.laid (t':=s.toks) (o:=.lst (Di xs lo hi)) (λb ob q=>YN _ q) (YY _) ?_,rfl,q _ (I.hok.fresh (YY _))⟩;exact⟨Ze (wj xs lo hi) hz,_,0,(r.drop (HT.vc xs.length 0 lo)).take (HT.vc xs.length xs.length hi-HT.vc xs.length 0 lo),Y4 _ rfl⟩
def uU:cQ X (.builtin "len") (λxs H Q=>∃p b,xs=[.ref p]/\(SqL X.K H p b\/SqT X.K H p b)/\Q (.int b.length) H):=by
 intro G s Z H xs us Q I r h;obtain⟨p,b,rfl,c,q⟩:=h;obtain⟨u,rfl,e⟩:=zN r;cases e;have f:=tU;rcases c with c|c
 ·obtain⟨its,d,pl,hz⟩:=I.list c;have a:=d.length;exact Calls.call_len_list pl.isList (by simp only[YZ]<;>omega) ⟨.int b.length,H,I.tok _,⟨s.toks+1,by rw[YZ,a]⟩,q⟩
 ·obtain⟨its,d,pl,hz⟩:=I.tuple c;have a:=d.length;exact len_tuple pl (by simp only[YZ]<;>omega) ⟨.int b.length,H,I.tok _,⟨s.toks+1,by rw[YZ,a]⟩,q⟩
def uT:cQ X (.type "list") (λxs H Q=>∃p a,xs=[.ref p]/\(SqL X.K H p a\/SqT X.K H p a)/\∀l,H l=none->Q (.ref l) (upd H l (.lst a))):=by
 intro G s Z H xs us Q I r h;obtain⟨p,a,rfl,f,q⟩:=h;obtain⟨u,rfl,m⟩:=zN r;cases m
 have i:∀(its:List Value),Vals a its->a.length<=sizeLine->∀(h':Heap) (d:Nat),(∀b o',s.heap.get? b=some o'->h'.get? b=some o')->
  h'.get? s.heap.objs.size=some {cls:=.type "list",dict:=none,data:=.seq its.toArray d,slots:=#[]}->EP X G Z Q (.ref s.heap.objs.size) {s with heap:=h'}:=λits c hz h' d kp e=>
  ⟨.ref s.heap.objs.size,_,I.laid (t':=s.toks) kp (YY _) (show ObjOk X.prog X.w _ h' _ (.lst a) from⟨hz,its,d,c,e⟩),rfl,q _ (I.hok.fresh (YY _))⟩
 rcases f with f|f
 ·obtain⟨its,c,pl,hz⟩:=I.list f;have g:=c.length;obtain⟨o,j,k,n,hd⟩:=pl.isList;exact call_list_seq p (.inl rfl) j k hd (λh' d kp e=>i its c hz h' d kp e) (by simp only[YZ]<;>omega)
 ·obtain⟨its,c,pl,hz⟩:=I.tuple f;have g:=c.length;obtain⟨o,j,k,n,hd⟩:=pl;exact call_list_seq p (.inr rfl) j k hd (λh' d kp e=>i its c hz h' d kp e) (by simp only[YZ]<;>omega)
def qX:cQ X (.type "tuple") (λxs H Q=>∃p a,xs=[.ref p]/\((SqL X.K H p a/\∀l,H l=none->Q (.ref l) (upd H l (.tup a)))\/(SqT X.K H p a/\Q (.ref p) H))):=by
 intro G s Z H xs us Q I r h;obtain⟨p,a,rfl,h⟩:=h;obtain⟨u,rfl,i⟩:=zN r;cases i;rcases h with ⟨d,q⟩|⟨d,q⟩
 · obtain⟨its,c,pl,hz⟩:=I.list d;have f:=c.length;refine call_tuple_list pl.isList (λh' kp=>?_) (by simp only[YZ]<;>omega);have g:Inv X G Z H {s with heap:=h'}:=I.kept (t':=s.toks) kp
   have j:Inv X G Z (upd H h'.objs.size (.tup a)) {s with heap:=h'.push {cls:=.type "tuple",data:=.seq its.toArray}}:=
    g.laid (t':=s.toks) (λb o e=>YN _ e) (YY _) (show ObjOk X.prog X.w _ _ _ (.tup a) from⟨hz,its,c,IsTup.new _ _⟩)
   exact⟨.ref h'.objs.size,_,j,rfl,q _ (g.hok.fresh (YY _))⟩
 ·obtain⟨its,c,pl,hz⟩:=I.tuple d;exact call_tuple_same pl ⟨.ref p,H,I,rfl,q⟩
def tyV(K:F0)(T:String)(x:V)(H:Hp):Prop:=match x with
 |.str _=>T = "str"
 |.int _=>T = "int"
 | .ref p=>(T = "list" /\ ∃xs,SqL K H p xs)\/(T = "tuple" /\ ∃o,K.lookup p=some o/\o.cls=.type "tuple" /\ o.dict=none)\/
    (T = "dict" /\ ((∃kvs,H p=some (.dK kvs))\/∃kvs,H p=some (.dT kvs)))\/(T = "set" /\ ∃S n,H p=some (.set S n))
 |_=>False
def On{s:Shared}(I:Inv X G Z H s)(r:RelV x v)(ty:tyV X.K T x H):
 s.TypeIs v T/\∀a,v=.ref a->∃ob,s.heap.get? a=some ob/\ob.dict=none:=by
 cases x with
 |str z=>
   obtain⟨t,rfl⟩:=r;cases(show T = "str" from ty);exact⟨typeIs_str s z t,λ_ e=>nomatch e⟩
 |int i=>
   obtain⟨t,rfl⟩:=r;cases(show T = "int" from ty);exact⟨typeIs_int s i t,λ_ e=>nomatch e⟩
 |ref p=>
   cases r;rcases ty with ⟨rfl,xs,f⟩|⟨rfl,o,b,g,hd⟩|⟨rfl,b⟩|⟨rfl,S,n,b⟩
   ·obtain⟨its,_,pl,_⟩:=I.list f;refine⟨pl.isList.typeIs,λa e=>?_⟩;cases e;obtain⟨o,n,e,c,hd,_⟩:=pl;exact⟨o,e,hd⟩
   ·refine⟨⟨o,I.kIn p o b,g⟩,λa e=>?_⟩;cases e;exact⟨o,I.kIn _ o b,hd⟩
   · have z:∃o,s.heap.get? p=some o/\o.ExactDict:=by
      rcases b with ⟨kvs,b⟩|⟨kvs,b⟩
      ·obtain⟨_,_,_,_,o,_,_,e,ex,_⟩:=I.hok p _ b;exact⟨o,e,ex⟩
      ·obtain⟨_,_,_,_,o,_,_,e,ex,_⟩:=I.hok p _ b;exact⟨o,e,ex⟩
     obtain⟨o,e,ex⟩:=z;refine⟨⟨o,e,ex.1⟩,λa d=>?_⟩;cases d;exact⟨o,e,ex.2.1⟩
   ·obtain⟨o,_,_,_,e,ex,_⟩:=I.hok p _ b;refine⟨⟨o,e,ex.1⟩,λa d=>?_⟩;cases d;exact⟨o,e,ex.2.1⟩
 |_=>exact False.elim ty
def MP(K:F0)(T:String)(r:V->List V->Hp->VK->Prop)(to:TE)(t:TA):TE:=λZ H Q=>to Z H λx H1=>tyV K T x H1/\t Z H1 λxs a=>r x xs a Q
variable{o e:Expr}{es:List Expr}{to:TE}{t:TA}{name:Str}{apos cpos:Pos}{T id:String}{r:V->List V->Hp->VK->Prop}
def UJ(q:PlainAttrs T)(slot:Slot T name id)(f:typeOf (.builtin id)=pure (.type "method_descriptor"))(y:MtR X id r)(w:PE X o to)(z:PA X (e::es) t)
 (c:attributeBase o name X.env (eval o X.env)=eval o X.env:=by rfl)
 (d:((backTo cpos (starEach (e::es) X.env)).all (λx=>!x.1)&&(backToKw cpos (keywordEach [] X.env)).all (λx=>x.1.isSome)
   && decide ((e::es).length+([]:List Keyword).length+(if ([]:List Keyword).isEmpty then 0 else 1)<30))=true:=by rfl)
 (b:(apos.endLine==cpos.line)=true:=by rfl) (u:starEach (e::es) X.env=(false,eval e X.env)::starEach es X.env:=by rfl) (a:(backTo cpos (starEach es X.env)).any (·.1)=false:=by rfl):
 PE X (.Call (.Attribute o name apos) (e::es) [] cpos) (MP X.K T r to t):=by
 intro G s Z H Q I h;refine wpAny_Call_method_late c d b rfl (br (w G s Z H _ I h) λv l ⟨x,H1,j,g,ty,p⟩=>?_);obtain⟨B,A⟩:=On j g ty;refine⟨T,id,q,slot,f,B,A,?_⟩;have i:=z cpos G l Z H1 _ j p;rw[u]at i ⊢;refine ZI (by show(false||(backTo cpos (starEach es X.env)).any (·.1))=false;rw[a]<;>rfl) (ZV ?_);exact br i λus k ⟨vs,D,C,m,n⟩=>y G k Z D x vs v us Q C g m n
end
def YB(X:Cx)(id:String)(r:V->List V->Hp->VK->Prop):Prop:=
 ∀(G:L9) (s:Shared) (Z:St) (H:Hp) (x:V) (xs:List V) (v:Value) (us:List Value) (Q:VK),Inv X G Z H s->RelV x v->Vals xs us->r x xs H Q->
  wpAny (model X.prog X.w) X.A (call (.builtin id) (v::us)) (EP X G Z Q) X.xe s
def Vals.one:∀{x:V} {us:List Value},Vals [x] us->∃u,us=[u]/\RelV x u
 |_,_,.cons r .nil=>⟨_,rfl,r⟩
def Vals.eraseIdx:∀{xs:List V} {us:List Value} (i:Nat),Vals xs us->Vals (xs.eraseIdx i) (us.eraseIdx i)
 |_,_,_,.nil=>.nil
 |_,_,0,.cons _ t=>t
 |_,_,i+1,.cons r t=>.cons r (Vals.eraseIdx i t)
def Vals.rep(h:Vals xs us):∀k:Nat,Vals (List.replicate k xs).flatten (List.replicate k us).flatten
 |0=>.nil
 | k+1=>by
   rw[Zs,Zs,ZK,ZK];exact Vals.append h (Vals.rep h k)
def lV{W:Type}:∀(l:List W) (i:Nat),(l.eraseIdx i).length<=l.length
 |[],_=>YY _
 |_::_,0=>Nat.le_succ _
 |_::r,i+1=>Nat.succ_le_succ (lV r i)
def sm(its:List Value):∀(k:Nat) (acc:List Value),
 List.foldl (λb a=>b++a) acc.toArray (List.replicate k its.toArray)=(acc++(List.replicate k its).flatten).toArray
 |0,acc=>by simp
 | k+1,acc=>by
   have e:acc.toArray++its.toArray=(acc++its).toArray:=by simp
   have c:(acc++its)++(List.replicate k its).flatten=acc++(List.replicate (k+1) its).flatten:=by
    rw[Zs,ZK,Zw]
   rw[<-c,<-sm its k (acc++its),<-e,Zs,Ab6]
section
variable{X:Cx}{G:L9}{Z:St}{H:Hp}{s:Shared}{l b:Addr}{xs ys zs:List V}
def Inv.lset{its its':List Value}{f:Array Value->Array Value}(I:Inv X G Z H s)(g:H l=some (.lst xs))
 (e:s.heap.get? l=some {cls:=.type "list",data:=.seq its.toArray n}) (c:f its.toArray=its'.toArray) (a:Vals ys its') (hz:ys.length<=sizeLine):
 Inv X G Z (upd H l (.lst ys)) {s with heap:=s.heap.update l (Obj.mapSeq f),toks:=t'}:=by
 have q:=PySem.IsL.update e f;rw[c]at q;refine I.write (x:=l) (e:=l) (by rw[g];exact trivial) (.inl rfl) (λh u d b=>(Zk s.heap (Obj.mapSeq f) (Aa7 d)).trans b) ⟨_,q⟩ ?_;exact⟨hz,its',_,a,q⟩
def Inv.lnew{its:List Value}(I:Inv X G Z H s)(a:Vals ys its)(hz:ys.length<=sizeLine):
 Inv X G Z (upd H s.heap.objs.size (.lst ys)) {s with heap:=s.heap.push {cls:=.type "list",data:=.seq its.toArray},toks:=t'}:=
 I.laid (λ_ _ q=>YN _ q) (YY _) ⟨hz,its,0,a,Y4 _ rfl⟩
def Inv.fresh(I:Inv X G Z H s):H s.heap.objs.size=none:=I.hok.fresh (YY _)
def Inv.lstM(I:Inv X G Z H s)(a:H l=some (.lst xs)):xs.length<=sizeLine/\∃(its:List Value) (n:Nat),Vals xs its/\xs.length=its.length/\s.heap.get? l=some {cls:=.type "list",data:=.seq its.toArray n}:=by
 obtain⟨z,its,n,r,e⟩:=I.hok l _ a;exact⟨z,its,n,r,r.length,e⟩
def FP(h:n<=sizeLine):Builtin.List.listTooLong n=false:=by
 unfold Builtin.List.listTooLong;exact decide_eq_false (by omega)
end
section
variable{X:Cx}
def tI:V->List V->Hp->VK->Prop:=λx vs H Q=>∃l xs y,x=.ref l/\vs=[y]/\H l=some (.lst xs)/\xs.length<sizeLine/\Q .non (upd H l (.lst (xs++[y])))
def rN:YB X "list.append" tI:=by
 intro G s Z H x vs v us Q I b c h;obtain⟨l,xs,y,rfl,rfl,a,hz,q⟩:=h;cases b;obtain⟨u,rfl,d⟩:=c.one;obtain⟨z,its,n,r,f,e⟩:=I.lstM a;refine Ai3 F.slot_list_append ⟨_,e,rfl⟩ F.entry_list_append (F.args_list_append_2 _ _) (PySem.list_append l its.toArray n u (by rw[YZ];omega)) ⟨e,?_⟩;refine⟨.non,_,I.lset (its':=its++[u]) a e (by simp) (r.append (.cons d .nil)) ?_,rfl,q⟩;rw[YQ,Ac0];omega
def E1:V->List V->Hp->VK->Prop:=λx vs H Q=>∃l xs i k y,x=.ref l/\vs=[.int i]/\H l=some (.lst xs)/\-(2 ^ 63)<=i/\i<2 ^ 63/\seqIndex? i xs.length=some k/\xs[k]?=some y/\Q y (upd H l (.lst (xs.eraseIdx k)))
def FW:YB X "list.pop" E1:=by
 intro G s Z H x vs v us Q I c d h;obtain⟨l,xs,i,k,y,rfl,rfl,b,A,p,o,g,q⟩:=h;cases c;obtain⟨u,rfl,f⟩:=d.one;obtain⟨t,rfl⟩:=f;obtain⟨z,its,n,r,m,e⟩:=I.lstM b;obtain⟨w,j,a⟩:=r.get g
 refine Ai3 F.slot_list_pop ⟨_,e,rfl⟩ F.entry_list_pop (F.args_list_pop_2 _ _)
  (MeetsSeq.list_pop_at l its.toArray n i t k w (fitsIndex_both A p) (by rw[YZ,<-m];exact o) (by rw[<-Z8];exact j) (by rw[YZ];omega)) ⟨e,?_⟩
 refine⟨y,_,I.lset (its':=its.eraseIdx k) b e ?_ (r.eraseIdx k) ?_,a,q⟩
 ·show its.toArray.eraseIdxIfInBounds k=(its.eraseIdx k).toArray;rw[ZR]
 · have:=lV xs k
   omega
def OY:R2:=λx y H Q=>∃l b xs a,x=.ref l/\y=.ref b/\H l=some (.lst xs)/\H b=some (.lst a)/\xs.length+a.length<=sizeLine/\∀p,H p=none->Q (.ref p) (upd H p (.lst (xs++a)))
def Qk:jt X (binaryOp .Add) OY:=by
 intro G s Z H x y v u Q I d c h;obtain⟨l,b,xs,o,rfl,rfl,i,j,hz,q⟩:=h;cases d;cases c;obtain⟨z,its,n,r,w,e⟩:=I.lstM i;obtain⟨p,a,t,f,g,m⟩:=I.lstM j;refine PySem.P.add_list e m ?_ (by rw[YZ,YZ];omega);have k:its.toArray++a.toArray=(its++a).toArray:=by simp
 rw[k];exact⟨.ref _,_,I.lnew (t':=s.toks) (r.append f) (by rw[YQ];omega),rfl,q _ I.fresh⟩
def Ux:R2:=λx y H Q=>∃l k xs,x=.ref l/\y=.int k/\H l=some (.lst xs)/\-(2 ^ 63)<=k/\k<2 ^ 63/\xs.length*k.toNat<=sizeLine/\
 ∀p,H p=none->Q (.ref p) (upd H p (.lst (List.replicate k.toNat xs).flatten))
def LN{W:Type}(xs:List W)(k:Nat):(List.replicate k xs).flatten.length=k*xs.length:=by
 induction k with
 |zero=>simp
 |succ k a=>rw[Zs,ZK,YQ,a,Nat.succ_mul,Nat.add_comm]
def Qb:jt X (binaryOp .Mult) Ux:=by
 intro G s Z H x y v u Q I w p h;obtain⟨l,k,xs,rfl,rfl,B,D,C,hz,q⟩:=h;cases w;obtain⟨t,rfl⟩:=p;obtain⟨z,its,n,r,A,e⟩:=I.lstM B;have d:its.toArray.size*k.toNat<=sizeLine:=by rw[YZ,<-A];exact hz
 have g:¬ its.toArray.size*k.toNat>(2 ^ 63-1) / 8:=by
  have:(sizeLine:Nat)<=(2 ^ 63-1) / 8:=by decide
  omega
 have f:¬ (!Builtin.List.listFitsIndex k)=true:=by
  rw[fitsIndex_both D C];exact YW
 have b:¬ Builtin.List.listTooLong (its.toArray.size*k.toNat)=true:=by
  rw[FP d];exact YW
 have c:List.foldl (λj i=>j++i) #[] (List.replicate (if its.toArray.isEmpty=true then 0 else k.toNat) its.toArray)=(List.replicate k.toNat its).flatten.toArray:=by
  have E:∀m:Nat,List.foldl (λj i=>j++i) #[] (List.replicate m its.toArray)=(List.replicate m its).flatten.toArray:=λm=>by
   have:=sm its m []
   rw[List.nil_append]at this;exact this
  rw[E];cases its with
  |nil=>simp
  |cons a J=>rw[on (by simp)]
 refine wpAny_binaryOp_repeat_ref (T := "list") (U := "int") (by decide) ⟨_,e,rfl⟩ (λo=>typeIs_int o k t) noFill_list_mul F.fills_int_mul F.slot_int_rmul repeat_list F.slot_int_index.lookup
  (Ai3 F.slot_int_rmul (typeIs_int s k t) F.entry_int_rmul (F.args_int_rmul_2 _ _) (int___rmul___int_list k t l its.toArray n)
    ⟨e,rfl,⟨_,e,rfl⟩,Ai3 F.slot_list_mul ⟨_,e,rfl⟩ F.entry_list_mul (F.args_list_mul_2 _ _) (AutoListH.list___mul___list_int_3 l its.toArray n k t f g b) ⟨e,?_⟩⟩)
 rw[c];exact⟨.ref _,_,I.lnew (t':=s.toks) (r.rep k.toNat) (by rw[LN,Nat.mul_comm];exact hz),rfl,q _ I.fresh⟩
end
end L2
namespace Att
open PySem PySem.W PySem.Calls PyProof.Rows
def nj:∀(ns:List Int) (vs:List Value),WellAll P h vs (ns.map WData.int)->IntsAre vs ns:=by
 intro ns
 induction ns with
 |nil=>
   intro vs w;rw[ZL]at w;cases w;exact .nil
 |cons n ns c=>
   intro vs w;rw[YI]at w;cases w with
   |cons a b=>
     cases a;exact .cons _ _ (c _ b)
def Co{l:OpenLaw}(u:l.most=some n){h:Heap}
 (c:l.row.toRowW.claim.pre args=true) (j:WellAll P h b args):
 ∃a vs ns,b=[Value.ref a]/\args=[WData.list (ns.map WData.int)]/\h.get? a=some {cls:=.type "list",data:=.seq vs.toArray}/\IntsAre vs ns/\ns.length<=n:=by
 have k:WShape.hasAll [] args [.list .int]=true:=(pre_splitW c).1;have m:l.pre.holds [] {args:=args}=true:=(pre_splitW c).2;obtain⟨d,r,rfl,x,w⟩:=hasAllW_cons k;obtain rfl:=hasAllW_nil w;obtain⟨xs,rfl,v⟩:=hasW_list x;obtain⟨ns,rfl⟩:=items_int v
 have e:ns.length<=n:=by
  unfold OpenLaw.pre at m
  have i:(WTm.not (.lt (.lit (.int (n:Int))) (.len (.arg 0)))).holds [] {args:=[.list (ns.map .int)]}=true:=by
   have i:=(holds_andW m).1;rw[u]at i;exact i
  have g:=condW_of i (w_not (w_lt w_lit (w_len_list (w_arg rfl))));rw[YJ]at g;refine Nat.le_of_not_lt λq=>?_;have s:(n:Int)<((ns.length:Nat):Int):=by omega
  first
   |(rw[Zj s]at g;exact absurd g (by decide))
   |(simp at g;omega)
 cases j with
 |cons p o=>
   cases o;cases p with
   |list t f=>exact⟨_,_,ns,rfl,rfl,t,nj ns _ f,e⟩
def Cu(l:OpenLaw)(args:List WData):l.row.toRowW.claim.post args (.bool true) args=true:=
 postW_of (r:=l.row.toRowW) (X:=(true==true))
  (show WShape.has [] (.bool true) .bool=true by first | rfl | decide | simp[WShape.has,WShape.arms,WShape.armsAll])
  (show(WTm.eq .res (.lit (.bool true))).value [] {args:=args,res:=some (.bool true),after:=args}=some (.bool (true==true)) from w_eq_bool (w_res rfl) w_lit) rfl
def xu{l:OpenLaw}{A:World->Heap->Prop}{d:DefRec}
 (E:l.most=some n) (u:d.params.defaults=[])
 (call:∀(w:World) (s₀ b:Shared) (mg p:Str->Option Value) (j:Addr) (o:Obj) (pm m e:Value) (a:Addr) (vs:List Value) (ns:List Int),
   Ground q loose [] XP w s₀ mg p b.heap->A w b.heap->
   b.heap.get? j=some o->o.data=.func (docDef d.name d.params d.body d.scope pm m e)->b.heap.CodeRec m d.name->mg d.name=some (.ref j)->
   b.heap.get? a=some {cls:=.type "list",data:=.seq vs.toArray}->IntsAre vs ns->ns.length<=n->b.gens=#[]->
   codeAny (model l.prog w) callerA (.call (.ref j) ⟨[.ref a],[]⟩) (λr k=>r=.ok (.ret (.bool true))/\OldK b.heap k.heap/\k.os=b.os/\AllBare k.gens) b):
 WalkO q loose XP A l.row.toRowW d [] (λf vs=>PySem.call f vs):=by
 intro w s₀ b mg p G Y j o pm m e M kV D hd v z t I args x as g y B s H;obtain rfl:M=.none:=Dflts.none z u;obtain rfl:kV=.none:=Dflts.noKw z;obtain⟨a,vs,ns,rfl,rfl,h,c,i⟩:=Co E g s;refine enter_call (Ah8 (call w s₀ b mg p j o pm m e a vs ns G Y D (fd_plain hd) v t h c i I) λr k C=>?_);obtain⟨rfl,L,K,J⟩:=C;exact⟨.inl ⟨.bool true,.bool true,[],rfl,λ_=>rfl,.bool true,Cu l _,λ_=>⟨List.Pairwise.nil,λ_ F=>(nomatch F)⟩⟩,L,K,J⟩
end Att
namespace L2
open PySem PySem.Spec PyProof.Rows
def rk:∀{vs:List Value} {ns:List Int},IntsAre vs ns->Vals (ns.map V.int) vs
 |_,_,.nil=>.nil
 |_,_,.cons n t h=>.cons ⟨t,rfl⟩ (rk h)
abbrev Tbs:=List (Addr×Pos×Str)
def Tbs.at(T:Tbs)(b:Addr):List (Pos×Str):=(T.filter λp=>p.1==b).map (·.2)
def Tbs.ok(T:Tbs):Prop:=∀y∈T,∀z∈T,y.2.1.line=z.2.1.line->y.2.1.col=z.2.1.col->y.2.2=z.2.2
def Tbs.mem{T:Tbs}:y∈T.at b↔(b,y)∈T:=by
 unfold Tbs.at;simp only[List.mem_map,List.mem_filter,beq_iff_eq];constructor
 ·rintro⟨⟨c,x⟩,⟨e,d⟩,a⟩;dsimp only at d a;subst d a;exact e
 ·intro h;exact⟨(b,y),⟨h,rfl⟩,rfl⟩
def Jm(T:Tbs)(H:Hp):Prop:=(∀p∈T,H p.1=some (.tbl (T.at p.1)))/\∀b,H b=none\/(∃o xs,H b=some (.frz o (.lst xs)))\/H b=some (.tbl (T.at b))
def HA{K:F0}{mg mb:Str->Option Value}{CX:DL}{sp:Sp}{f:Shared}{vs:List Value}{ns:List Int}{T:Tbs}
 (KX:K.In f.heap) (Z:f.heap.Ns mainGlobals mg) (i:f.heap.Ns builtinsNs mb) (hbb:∀x:Str,x ≠ "__name__" -> mb x=bootBuiltins x) (hlim:f.heap.NoLimit) (hg:f.gens=#[])
 (hbm:∃G ob,mg "__builtins__" = some (.ref G)/\G≠builtinsNs/\f.heap.get? G=some ob/\ob.cls=.type "module" /\ ob.dict=some builtinsNs/\ob.data=.plain)
 (hT:∀p∈T,∃c,PySem.W.CodeHd f.heap c p.1/\f.heap.get? p.1=some (PySem.W.tabObj #[])) (hTK:∀p∈T,K.lookup p.1=none) (hTo:T.ok)
 (O:f.heap.get? a=some {cls:=.type "list",data:=.seq vs.toArray}) (hi:IntsAre vs ns) (hl:ns.length<=sizeLine) (hr:Room k callerA)
 (F:∀base:Heap,K.In base->base.Ns mainGlobals mg->(∀c P,PySem.W.CodeHd f.heap c P->PySem.W.CodeHd base c P)->FnOk P w K mg base CX k fa fd [x] sp) (L:∀(s:Shared) (u:Value),BindsTo s fd ⟨[u],[]⟩ [(x,u)])
 (hsp:∀H:Hp,Jm T H->SqL K H a (ns.map V.int)->sp [.ref a] H (λv _=>v=.bl true) λ_ _ _=>False)
 (hCX:∀H e A,CX [] H f (λ_ _ _=>False) e A->False):
 codeAny (model P w) callerA (.call (.ref fa) ⟨[.ref a],[]⟩) (λr A=>r=.ok (.ret (.bool true))/\OldK f.heap A.heap/\A.os=f.os/\AllBare A.gens) f:=by
 have rv:=rk hi;have Y:=hi.length
 -- from an Q heap in which X but the D and the tables may be R
 have core:∀H:Hp,Jm T H->SqL K H a (ns.map V.int)->HOk P w H f.heap->(∀b,H b≠none->b=a\/∃p∈T,p.1=b)->(H a≠none->K.lookup a=none)->
  codeAny (model P w) callerA (.call (.ref fa) ⟨[.ref a],[]⟩) (λr A=>r=.ok (.ret (.bool true))/\OldK f.heap A.heap/\A.os=f.os/\AllBare A.gens) f:=by
  intro H hO hS hok hA hK;have g:∀{b:Addr} {o:Obj},f.heap.get? b=some o->H b=none->(oE f.heap H).get? b=some o:=λe n=>HL e n
  have noB:∀{b:Addr} {o:Obj},f.heap.get? b=some o->o≠{cls:=.type "list",data:=.seq vs.toArray}->o≠PySem.W.tabObj #[]->H b=none:=λ{b o} e d1 d2=>by
   cases q:H b with
   |none=>rfl
   |some u=>
     rcases hA b (by rw[q];simp) with j | ⟨p,hp,j⟩
     ·subst j;rw[O]at e;exact absurd (Y6 e).symm d1
     ·subst j;obtain⟨_,_,e2⟩:=hT p hp;rw[e2]at e;exact absurd (Y6 e).symm d2
  have noA:∀{b:Addr} {o:Obj} {es:Array DictEntry} {ep:Nat},f.heap.get? b=some o->o.data=.dict es ep->H b=none:=λ{b o es ep} e d=>
   noB e (λz=>by rw[z]at d;cases d) (λz=>by rw[z]at d;cases d)
  have E:∀{b:Addr} {m:Str->Option Value},f.heap.Ns b m->(oE f.heap H).Ns b m:=λ{b m} ⟨o,es,ep,e,d,r⟩=>⟨o,es,ep,g e (noA e d),d,r⟩
  have hKb:K.In (oE f.heap H):=λb o e=>g (KX b o e) (by
   cases q:H b with
   |none=>rfl
   |some u=>
     rcases hA b (by rw[q];simp) with j | ⟨p,hp,j⟩
     ·subst j;rw[hK (by rw[q];simp)]at e;cases e
     · subst j
       rw[hTK p hp]at e;cases e)
  have hbm':∃G ob,mg "__builtins__" = some (.ref G)/\G≠builtinsNs/\(oE f.heap H).get? G=some ob/\ob.cls=.type "module" /\ ob.dict=some builtinsNs/\ob.data=.plain:=by
   obtain⟨G,ob,h1,h2,h3,h4,h5,h6⟩:=hbm;exact⟨G,ob,h1,h2,g h3 (noB h3 (λz=>by rw[z]at h6;cases h6) λz=>by rw[z]at h6;cases h6),h4,h5,h6⟩
  have hcd:∀c P,PySem.W.CodeHd f.heap c P->PySem.W.CodeHd (oE f.heap H) c P:=λc P h=>by
   obtain⟨o,vs',file,tf,M,tg,TR,S,tt,e,B,r⟩:=h;exact⟨o,vs',file,tf,M,tg,TR,S,tt,g e (noB e (λz=>by rw[z]at B;simp at B) λz=>by rw[z]at B;simp at B),B,r⟩
  have hM:Mod K mg (oE f.heap H):=⟨hKb,E Z,⟨mb,E i,hbb⟩,(let ⟨mc,h1,h2⟩:=hlim;⟨mc,E h1,h2⟩),hbm'⟩;have e0:Env0 P w K mg (oE f.heap H) callerA [] f H:=⟨rfl,hM,λb o e=>Li e,Nat.le_of_eq (C8 _ _),trivial,λb i=>absurd (show b∈([]:List Addr) from i) (by simp),hok,.of_eq hg⟩;refine Ah8 ((F _ hKb (E Z) hcd).run callerA [] f H ⟨[.ref a],[]⟩ [.ref a] [.ref a] _ _ hr e0 (L f (.ref a)) (.cons rfl .nil) (hsp H hO hS)) λr A h=>?_;cases r with
  |error e=>exact(hCX H e A h).elim
  |ok fl=>
    cases fl with
    |next=>exact False.elim h
    |brk=>exact False.elim h
    |cont=>exact False.elim h
    |ret u=>
      obtain⟨v,H',os,bare,un,I,r',q⟩:=h;have q':v=.bl true:=q;subst q';obtain rfl:u=Value.bool true:=r';refine⟨rfl,⟨λb o e=>?_,λb o e=>un.there b o e (by simp)⟩,os,bare⟩;cases q:H b with
      |none=>exact .inl (un.keep b o e q (by intro z;exact absurd (show b∈([]:List Addr) from z) (by simp)) (by simp))
      |some u=>
        rcases hO.2 b with z|⟨ob,xs,z⟩|z
        ·rw[q]at z;cases z
        ·have z2:=un.frzs b ob _ z;obtain⟨e1,_⟩:=hok b _ z;obtain⟨e2,_⟩:=I b _ z2;rw[e]at e1;cases e1;exact .inl e2
        · have z2:=(un.tbls b _ z).1;obtain⟨_,ps,e2,_⟩:=I b _ z2
          have hb':∃p∈T,p.1=b:=by
           rcases hA b (by rw[q];simp) with j | j
           ·subst j;obtain⟨_,ps',l,_⟩:=hok b _ z;rw[O]at l;cases l
           ·exact j
          obtain⟨p,hp,j⟩:=hb';obtain⟨c,B,l⟩:=hT p hp;rw[j]at l B;rw[e]at l;cases l;refine .inr (.inl ⟨(B.tab (ps:=#[]) e).isCodeTable,rfl,#[],ps,rfl,?_⟩);rw[e2];simp
 have t:∀(H:Hp) (b:Addr),(∃p∈T,p.1=b)->ObjOk P w H f.heap b (.tbl (T.at b)):=λH b ⟨p,hp,e⟩=>by
  obtain⟨c,B,l⟩:=hT p hp;rw[e]at l;exact⟨λy hy z hz h1 h2=>hTo _ (Tbs.mem.mp hy) _ (Tbs.mem.mp hz) h1 h2,#[],l,trivial,λy hy=>.inl rfl⟩
 have J:∀p∈T,p.1≠a:=λp hp z=>by
  obtain⟨c,B,l⟩:=hT p hp;rw[z,O]at l;cases l
 cases hk:K.lookup a with
 |some o=>
   -- the D is one of the N own U
   have e:=KX a o hk;rw[O]at e;cases e;have hTa:¬ ∃p∈T,p.1=a:=λ⟨p,hp,z⟩=>J p hp z;have dec:∀b,Decidable (∃p∈T,p.1=b):=λb=>Classical.propDecidable _;refine core (λb=>if ∃p∈T,p.1=b then some (.tbl (T.at b)) else none) ⟨λp hp=>YG ⟨p,hp,rfl⟩,λb=>?_⟩ (.inr ⟨_,vs.toArray,_,hk,rfl,rfl,rfl,by rw[YZ,Y];exact hl,by simpa using rv⟩) (λb u z=>?_) (λb z=>?_) λz=>absurd (on hTa) z
   · by_cases h:∃p∈T,p.1=b
     ·exact .inr (.inr (YG h))
     ·exact .inl (on h)
   · by_cases h:∃p∈T,p.1=b
     ·have C:=(YG h).symm.trans z;cases C;exact t _ b h
     ·have C:=(on h).symm.trans z;cases C
   · by_cases h:∃p∈T,p.1=b
     ·exact .inr h
     ·exact absurd (on h) z
 |none=>
   have dec:∀b,Decidable (∃p∈T,p.1=b):=λb=>Classical.propDecidable _;have hTa:∀{b},(∃p∈T,p.1=b)->b≠a:=λ⟨p,hp,z⟩ e=>J p hp (z.trans e);refine core (λb=>if b=a then some (.frz {cls:=.type "list",data:=.seq vs.toArray} (.lst (ns.map V.int))) else if ∃p∈T,p.1=b then some (.tbl (T.at b)) else none) ⟨λp hp=>(on (J p hp)).trans (YG ⟨p,hp,rfl⟩),λb=>?_⟩ (.inl (.inr ⟨{cls:=.type "list",data:=.seq vs.toArray},YG rfl⟩)) (λb u z=>?_) (λb z=>?_) λ_=>hk
   · by_cases i:b=a
     ·exact .inr (.inl ⟨_,_,YG i⟩)
     · by_cases h:∃p∈T,p.1=b
       ·exact .inr (.inr ((on i).trans (YG h)))
       ·exact .inl ((on i).trans (on h))
   · by_cases i:b=a
     ·have C:=(YG i).symm.trans z;cases C;subst i;exact⟨O,by rw[YJ];exact hl,vs,_,rv,O⟩
     · by_cases h:∃p∈T,p.1=b
       ·have C:=((on i).trans (YG h)).symm.trans z;cases C;exact t _ b h
       ·have C:=((on i).trans (on h)).symm.trans z;cases C
   · by_cases i:b=a
     ·exact .inl i
     · by_cases h:∃p∈T,p.1=b
       ·exact .inr h
       ·exact absurd ((on i).trans (on h)) z
abbrev Tns:=List (Str×Pos×Str)
structure TabsOf (mg:Str->Option Value) (h:Heap) (N:Tns) (T:Tbs):Prop where
 all:∀n∈N,∃P,(P,n.2)∈T/\∃a o fd c,mg n.1=some (.ref a)/\h.get? a=some o/\o.data=.func fd/\fd.code=.ref c/\PySem.W.CodeHd h c P
def rp{h:Heap}(l:PyProof.Rows.Top p loose b mg s h):∀(N:Tns),(∀n∈N,n.1∈(PyProof.Rows.recsOf p).map (·.name))->
 ∃T:Tbs,TabsOf mg h N T/\(∀q∈T,∃c,PySem.W.CodeHd h c q.1/\h.get? q.1=some (PySem.W.tabObj #[]))/\∀q∈T,∃n∈N,n.2=q.2
 |[],_=>⟨[],⟨λ_ h=>nomatch h⟩,λ_ h=>(nomatch h),λ_ h=>(nomatch h)⟩
 | n::N,j=>by
   obtain⟨T,w,v,u⟩:=rp l N λm f=>j m (YM _ f);obtain⟨d,hd,e⟩:=Y9.mp (j n YK);obtain⟨a,o,fd,c,P,e1,B,A,y,x,k⟩:=l.tab d hd;have i:=PySem.W.CodeHd.of x k;refine⟨(P,n.2)::T,⟨λm f=>?_⟩,λq g=>?_,λq g=>?_⟩
   · rcases YS.mp f with z|z
     ·subst z;exact⟨P,YK,a,o,fd,c,by rw[<-e];exact e1,B,A,y,i⟩
     ·obtain⟨C,t,r⟩:=w.all m z;exact⟨C,YM _ t,r⟩
   · rcases YS.mp g with z|z
     ·subst z;exact⟨c,i,k.2⟩
     ·exact v q z
   · rcases YS.mp g with z|z
     ·subst z;exact⟨n,YK,rfl⟩
     ·obtain⟨m,f,e⟩:=u q z;exact⟨m,YM _ f,e⟩
def Tns.ok(N:Tns):Prop:=∀y∈N,∀z∈N,y.2.1.line=z.2.1.line->y.2.1.col=z.2.1.col->y.2.2=z.2.2
def FQ(K:F0):Bool:=K.all λp=>match p.2.cls,p.2.data with
 |.none,.fields vs=>!vs.isEmpty
 |_,_=>true
def oe{W:Type}:∀{K:List (Nat×W)} {b:Nat} {o:W},K.lookup b=some o->(b,o)∈K
 | (c,x)::r,b,o,h=>by
   rw[Zl]at h;by_cases z:b=c
   ·subst z;rw[Z4]at h;cases h;exact YK
   ·rw[beq_false_of_ne z]at h;exact YM _ (oe h)
def qV{K:F0}{h:Heap}(X:K.In h)(c:FQ K=true)(e:h.get? b=some (PySem.W.tabObj #[])):K.lookup b=none:=by
 cases q:K.lookup b with
 |none=>rfl
 |some o=>
   have a:=X b o q;rw[e]at a;cases a
   have:=ZT.mp c (b,PySem.W.tabObj #[]) (oe q)
   cases this
def JA{l:PySem.W.OpenLaw}{n:Nat}{YP:World->Heap->Prop}{d:DefRec}{K:Params->F0}{CX:World->DL}{sp:World->Tbs->Sp}(N:Tns)
 (hn:l.most=some n) (I:n<=sizeLine) (O:d.params.defaults=[]) (hr:Room k callerA)
 (hY:∀(w:World) (h:Heap),YP w h->(K w.params).In h) (hK:∀w:World,N≠[]->FQ (K w.params)=true) (hN:∀n∈N,n.1∈(PyProof.Rows.recsOf q).map (·.name)) (R:Tns.ok N)
 (F:∀(w:World) (mg:Str->Option Value) (C:Addr) (h:Heap) (T:Tbs),(K w.params).In h->h.Ns mainGlobals mg->mg d.name=some (.ref C)->TabsOf mg h N T->
   ∃fd:FuncData,(∀(s:Shared) (u:Value),BindsTo s fd ⟨[u],[]⟩ [(x,u)])/\
    ∀base:Heap,(K w.params).In base->base.Ns mainGlobals mg->(∀c P,PySem.W.CodeHd h c P->PySem.W.CodeHd base c P)->FnOk l.prog w (K w.params) mg base (CX w) k C fd [x] (sp w T))
 (E:∀(w:World) (T:Tbs) (H:Hp) (a:Addr) (ns:List Int),ns.length<=n->Jm T H->SqL (K w.params) H a (ns.map V.int)->sp w T [.ref a] H (λv _=>v=.bl true) λ_ _ _=>False)
 (S:∀(w:World) (H:Hp) (s:Shared) (e:Value) (D:Shared),CX w [] H s (λ_ _ _=>False) e D->False):
 PySem.W.WalkO q loose XP YP l.row.toRowW d [] (λf vs=>PySem.call f vs):=by
 refine Att.xu hn O λw s₀ t mg mb C o pm cd doc a vs ns G Y ho hd hcd J A j i hg=>?_;have X:=hY w _ Y;obtain⟨T,Q,B,r⟩:=rp G.T N hN;obtain⟨fd,hb,hF⟩:=F w mg C _ T X G.T.g J Q;refine HA (T:=T) X G.T.g G.T.b G.T.builtins G.T.nolimit hg G.T.bmain B (λp hp=>?_) (λy hy z hz h1 h2=>?_) A j (Ze i I) hr hF hb (λH hO hS=>E w T H a ns i hO hS) λH e D=>S w H t e D
 ·obtain⟨c,_,e⟩:=B p hp;obtain⟨m,Z,_⟩:=r p hp;exact qV X (hK w (λz=>by rw[z]at Z;cases Z)) e
 ·obtain⟨m1,M,e1⟩:=r y hy;obtain⟨m2,L,U⟩:=r z hz;rw[<-e1,<-U];exact R m1 M m2 L (by rw[e1];exact h1 |>.trans (by rw[U])) (by rw[e1];exact h2 |>.trans (by rw[U]))
def jo(s:Stmt):Arguments:=match s with
 |.FunctionDef _ a _ _ _ _ _ _ _ _=>a
 |_=>{posonlyargs:=[],args:=[],vararg:=none,kwonlyargs:=[],kw_defaults:=[],kwarg:=none,defaults:=[]}
def bI(s:Stmt):List Stmt:=match s with
 |.FunctionDef _ _ b _ _ _ _ _ _ _=>b
 |_=>[]
def aL(s:Stmt):Scope:=match s with
 |.FunctionDef _ _ _ _ _ _ sc _ _ _=>sc
 |_=>{kind:=.function,names:=[],isGenerator:=false,isCoroutine:=false}
abbrev u4:DL:=λ_ _ _ _ _ _=>False
abbrev E0:XK:=λ_ _ _=>False
def Au{X:Cx}:kh u4 X E0:=λ_ _ _ _ _ _ _ h=>h.elim
structure Fun (K:F0) (x qual:Str) (st:Stmt) (f:Addr) (fd:FuncData):Prop where
 ex:∃(oc:Value) (od:Option Addr) (kV doc pm:Value) (an:Option Addr) (cdv ct:Value) (osl:Array (Option Value)),
  fd=PySem.W.fnOf x qual (jo st) (bI st) (aL st) .none kV doc pm an cdv ct/\K.lookup f=some ⟨oc,od,.func fd,osl⟩/\PySem.W.codeIn K cdv qual=true
 kp:PySem.W.keepIn K (.ref f)=true
section
variable{P:Program}{w:World}{K:F0}{mg:Str->Option Value}{base:Heap}
def Fun.ok{x qual:Str}{st:Stmt}{f:Addr}{fd:FuncData}{N ps:List Str}{k:Nat}{sp:Sp}(F:Fun K x qual st f fd)(S:FnScope N ps (aL st))(len:∀vs H Q E,sp vs H Q E->vs.length=ps.length)
 (b:∀(a:Value) (A:Around) (outer:List Env) (s:Shared) (H:Hp) (vs:List V) (Q:VK) (E:XK),Room k (A.deeper (envOfC qual (aL st) s.heap.objs.size f a))->sp vs H Q E->
   ∃t,PSs (wd u4 P w K mg base N qual (aL st) f a A outer s H E).nox (bI st) t/\t {nx:=λ_ H'=>Q .non H',rt:=Q} (iw N vs) H):FnOk P w K mg base u4 (k+1) f fd ps sp:=by
 obtain⟨oc,j,kV,i,pm,an,a,ct,e,rfl,lk,d⟩:=F.ex;refine fn_of lk d S len λA outer s H vs Q E g c=>?_;obtain⟨t,h,q⟩:=b a A outer s H vs Q E g c;exact⟨t,h.nox,q⟩
def Fun.binds{x qual:Str}{st:Stmt}{f:Addr}{fd:FuncData}{ps:List Str}(F:Fun K x qual st f fd)
 (h:∀(kV a pm:Value) (an:Option Addr) (b ct:Value) (us:List Value),us.length=ps.length->bindArgs (PySem.W.fnOf x qual (jo st) (bI st) (aL st) .none kV a pm an b ct) ⟨us,[]⟩=pure (ps.zip us)):Binds K fd ps []:=by
 obtain⟨oc,e,kV,a,pm,an,b,ct,c,rfl,lk,d⟩:=F.ex;exact .all (h kV a pm an b ct)
def RY{x qual:Str}{st:Stmt}{f:Addr}{oc:Value}{e an:Option Addr}{d:Array (Option Value)}{kV b pm a ct:Value}(l:K.lookup f=some ⟨oc,e,.func (PySem.W.fnOf x qual (jo st) (bI st) (aL st) .none kV b pm an a ct),d⟩)
 (c:PySem.W.codeIn K a qual=true) (k:PySem.W.keepIn K (.ref f)=true):Fun K x qual st f (PySem.W.fnOf x qual (jo st) (bI st) (aL st) .none kV b pm an a ct):=⟨⟨oc,e,kV,b,pm,an,a,ct,d,rfl,l,c⟩,k⟩
end
def Wo{A:Around}(a:Room k A):A.units+1<cLine:=Ab3 (Nat.add_le_add_left (by decide:1<=64) _) a.units
section
variable{X:Cx}
def pv(i:Nat)(c:X.N[i]?=some x:=by rfl)(b:XD X.env.scope x:=by first | exact Or.inl rfl | exact Or.inr (Or.inl rfl) | exact Or.inr (Or.inr rfl))(hd:(x == ("__debug__" : Str))=false:=by decide)
 (a:(x==("__classdict__" : Str))=false:=by decide):PE X (.Name x pos) (cK i):=Pl c b hd a
end
def Same(H H':Hp):Prop:=∀b o,H b=some o->H' b=some o
def Same.refl(H:Hp):Same H H:=λ_ _ h=>h
def Same.trans(a:Same H H1)(b:Same H1 d):Same H d:=λc o h=>b c o (a c o h)
def Same.free{H H':Hp}(e:Same H H')(h:H' l=Option.none):H l=Option.none:=by
 cases q:H l with
 |none=>rfl
 |some o=>
   rw[e l o q]at h;cases h
def bS(env:Env):List (Str×NameKind)->List (Str×Addr)->List (Str×Addr)
 |[],acc=>acc
 |(n,k)::r,acc=>if (k==NameKind.free)=true then bS env r ((n,(env.cells.lookup n).getD 0)::acc) else bS env r acc
def im{env:Env}:∀{l:List (Str×NameKind)} {acc:List (Str×Addr)},(∀z∈l,z.2=.free->∃c,env.cells.lookup z.1=some c)->(bS env l acc).lookup y=some c->
 acc.lookup y=some c\/env.cells.lookup y=some c
 |[],acc,_,h=>.inl h
 | (n,k)::r,acc,a,h=>by
   unfold bS at h;split at h
   · rename_i d;rcases im (λz hz=>a z (YM _ hz)) h with e|e
     · by_cases q:(y==n)=true
       · have f:y=n:=by simpa using q
         subst f;obtain⟨g,b⟩:=a (y,k) List.mem_cons_self (by simpa using d);dsimp only at b;rw[List.lookup_cons,beq_self_eq_true,b]at e;exact .inr (b.trans e)
       ·rw[Bool.not_eq_true]at q;rw[Zl,q]at e;exact .inl e
     ·exact .inr e
   ·exact im (λz hz=>a z (YM _ hz)) h
def io:∀{l:List (Str×NameKind)} {acc:List (Str×Addr)},((y,NameKind.free)∈l\/∃c,acc.lookup y=some c)->∃c,(bS env l acc).lookup y=some c
 | [],acc,h=>by
   rcases h with h|h
   ·cases h
   ·exact h
 | (n,k)::r,acc,h=>by
   unfold bS;split
   · rename_i a;refine io ?_;by_cases q:(y==n)=true
     ·exact .inr ⟨_,by rw[Zl,q]⟩
     · rw[Bool.not_eq_true]at q;rcases h with h|⟨c,h⟩
       · rcases YS.mp h with e|e
         ·cases e;rw[Z4]at q;cases q
         ·exact .inl e
       ·exact .inr ⟨c,by rw[Zl,q];exact h⟩
   · rename_i a;refine io ?_;rcases h with h|h
     · rcases YS.mp h with e|e
       ·cases e;exact absurd (by rfl) a
       ·exact .inl e
     ·exact .inr h
def iO{scope:Scope}(h:(relabel scope env).names.lookup y=some k):∃a,(y,a)∈scope.names/\(a=k\/(a=.free/\k=.cell)):=by
 obtain⟨⟨n,d⟩,b,e⟩:=List.mem_map.mp (PySem.mem_of_lookup h);dsimp only at e;split at e
 ·rename_i c;simp only[Aa9,Af3]at c;cases e;exact⟨d,b,.inr ⟨c.1.1,rfl⟩⟩
 ·cases e;exact⟨_,b,.inl rfl⟩
structure CompSc (osc sc:Scope) (x:Str) (cs:List Str):Prop where
 kind:sc.kind=.function
 cell:∀y∈sc.names,y.2≠ .cell
 loc:∀y∈sc.names,y.2=.local->sc.names.lookup y.1=some .local
 var:sc.names.lookup x=some .local
 cap:∀y∈cs,(osc.names.lookup y=some .cell\/osc.names.lookup y=some .free)/\sc.names.lookup y=some .free
 free:∀y∈sc.names,y.2=.free->osc.names.lookup y.1=some .cell\/osc.names.lookup y.1=some .free
 nd:(x::cs).Nodup
def i6(X:Cx)(scope:Scope)(b:List (Str×Addr))(C:Addr)(N:List Str)(a:List Addr)(s₀:Shared)(H₀:Hp):Cx where
 prog:=X.prog
 w:=X.w
 K:=X.K
 mg:=X.mg
 base:=X.base
 A:=X.A
 N:=N
 s₀:=s₀
 H₀:=H₀
 env:=compEnvC scope b C X.env
 outer:=X.stack
 stack:=X.stack
 ex:=a
 fn:=λ_=>false
 calm:=X.calm
 pn:=[]
 xe:=λ_ _=>False
def iH(Z:St)(a:List Nat):St:=a.map λj=>(Z[j]?).join
section
variable{X:Cx}{G:L9}{Z:St}{H:Hp}{s:Shared}{scope:Scope}{x:Str}{cs:List Str}{ix:List Nat}{fp:List Addr}
def xl(I:Inv X G Z H s)(a:CompSc X.env.scope scope x cs):∀y∈scope.names,y.2=.free->∃c,X.env.cells.lookup y.1=some c:=λy b d=>I.ok.has _ (a.free y b d)
def HH{g:Heap}{V:Str->Option Value}(I:Inv X G Z H s)(n:CompSc X.env.scope scope x cs)(D:ix.map (λi=>X.N[i]?)=cs.map some)(L:∀b∈fp,qN X G H b)
 (Q:∀b∈fp,b<s.heap.objs.size) (hn:g.Ns s.heap.objs.size V) (K:∀b o,s.heap.get? b=some o->g.get? b=some o):
 Inv (i6 X scope (bS X.env scope.names []) s.heap.objs.size (x::cs) fp s H) [] (none::iH Z ix) H {s with heap:=g,toks:=t₁}:=by
 have U:=xl I n
 have d:∀y c,(bS X.env scope.names []).lookup y=some c->X.env.cells.lookup y=some c:=λy c e=>by
  rcases im U e with z|z
  ·cases z
  ·exact z
 have t:ix.length=cs.length:=by
  have:=congrArg List.length D
  rwa [YJ,YJ]at this
 refine⟨⟨I.ok.mod,n.kind,I.ok.glob,I.ok.blt,YY _,λy z c S E=>I.ok.inj y z c (d y c S) (d z c E),λy hy=>?_,λy c h=>(nomatch h),I.ok.hd,I.ok.frames,.inl rfl,λb A=>⟨Zg (Q b A),λy c e=>(L b A).2.2.2.2.1 y c (d y c e)⟩,
  I.bs,Ze I.ok.bsz I.sz,λb o e A=>?_,λb A R=>?_,I.stack,I.stkFree⟩,rfl,I.bare,Un.kept K,⟨V,hn,λi y v S E h3=>?_⟩,λy c e=>?_,I.hok.fresh (YY _),λy c e=>I.freeC y c (d y c e),λp hp=>absurd (show p∈([]:L9) from hp) (by simp),I.hok.kept K,?_⟩
 · have O:(relabel scope X.env).names.lookup y=some .cell\/(relabel scope X.env).names.lookup y=some .free:=hy
   have:(y,NameKind.free)∈scope.names:=by
    rcases O with q|q
    · obtain⟨Y,B,e|⟨e,_⟩⟩:=iO q
      ·subst e;exact absurd rfl (n.cell _ B)
      ·subst e;exact B
    · obtain⟨Y,B,e|⟨_,e⟩⟩:=iO q
      ·subst e;exact B
      ·cases e
   exact io (.inl this)
 · rcases(L b A).2.2.2.1 with z|z
   ·exact I.ok.noex b o e z
   ·exact absurd (Zd (YV e) (Ze I.ok.bsz z)) (ZG _)
 · rcases YS.mp (I.stkSub b R) with z|z
   ·exact(L b A).2.1 z
   ·exact(L b A).2.2.1 z
 · -- a C name
   cases i with
   |zero=>
     have:(none::iH Z ix:St)[0]?=some none:=rfl
     rw[this]at E;cases E
   |succ j=>
     have F:cs[j]?=some y:=S;have f:(iH Z ix)[j]?=some (some v):=E;unfold iH at f;rw[List.getElem?_map]at f;cases T:ix[j]? with
     |none=>rw[T]at f;cases f
     |some k=>
       rw[T]at f;have M:(Z[k]?).join=some v:=Y6 f
       have h5:Z[k]?=some (some v):=by
        cases e:Z[k]? with
        |none=>rw[e]at M;cases M
        |some w=>rw[e]at M;exact congrArg some M
       have h6:X.N[k]?=some y:=by
        have q:=congrArg (λl=>l[j]?) D;simp only[Y5,T,F,Ab7]at q;exact Y6 q
       obtain⟨c1,c2⟩:=n.cap y (ZF F);obtain⟨m,hn',hl⟩:=I.loc;obtain⟨u,r,l⟩:=hl k y v h6 h5 (c1.elim (λz=>.inr (.inl z)) λz=>.inr (.inr z));refine⟨u,r,?_⟩;rcases l with ⟨l,_⟩|⟨_,c,ec,hc⟩
       ·have W:X.env.scope.names.lookup y=some .local:=l;rcases c1 with z|z<;>(rw[z]at W;cases W)
       · obtain⟨c',J⟩:=io (env:=X.env) (y:=y) (l:=scope.names) (acc:=[]) (.inl (ZY c2));have e':=d y c' J;rw[ec]at e';cases e';refine .inr ⟨?_,c,J,?_⟩
         · rcases h3 with z|z|z
           · have z':(relabel scope X.env).names.lookup y=some .local:=z;obtain ⟨Y,B,e | ⟨_,e⟩⟩:=iO z'
             · subst e
               have:=n.loc _ B rfl
               dsimp only at this;rw[c2]at this;cases this
             ·cases e
           ·exact .inl z
           ·exact .inr z
         ·obtain⟨o,P,hd⟩:=hc;exact⟨o,K c o P,hd⟩
 ·obtain⟨v,o,P,hd⟩:=I.cell y c (d y c e);exact⟨v,o,K c o P,hd⟩
 ·show(none::iH Z ix:St).length=(x::cs).length;rw[YO,YO,iH,YJ,t]
end
def Tw(X:Cx)(a:List Expr)(t:TT):Prop:=
 ∀(G:L9) (s:Shared) (Z:St) (H:Hp) (Q:Bool->Hp->Prop),Inv X G Z H s->t Z H Q->
  wpAny (model X.prog X.w) X.A (forIn a true λc r=>if r=true then do let ok <-isTrue c X.env (eval c X.env);pure (ForInStep.yield ok) else pure (ForInStep.yield r)) (TP X G Z Q) X.xe s
def Op:TT:=λ_ H Q=>Q true H
def Ks{X:Cx}:Tw X [] Op:=λ_ _ _ H _ I h=>wpAny_tests_nil ⟨H,I,h⟩
def Kq{X:Cx}(h:PT X c t):Tw X [c] t:=λG s Z H Q I a=>wpAny_tests_one (h G s Z H Q I a)
section
variable{prog:Program}{w:World}{A:Around}{R:Result->Shared->Prop}{s:Shared}
def xj(I:Nat->Shared->Prop)
 (p:∀n s,I n s->wpAny (model prog w) A (pyNext B) (λr b=>match r with
   |none=>R (.ok .next) b
   |some v=>wpAny (model prog w) A (letOwnedTupleGo a B v) (λ_ b=>wpAny (model prog w) A (assign a env v) (λ_ g=>
      wpAny (model prog w) A (forIn k true λc r=>if r=true then do let ok <-isTrue c env (eval c env);pure (ForInStep.yield ok) else pure (ForInStep.yield r)) (λok d=>
       if ok=true then wpAny (model prog w) A (eval o env) (λx f=>
        wpAny (model prog w) A (call (.builtin "list.append") [acc,x]) (λ_ e=>∃m,m<n/\I m e) (λ_ _=>False) f) (λ_ _=>False) d
       else ∃m,m<n/\I m d) (λ_ _=>False) g) (λ_ _=>False) b) (λ_ _=>False) b) (λ_ _=>False) s)
 (n:Nat) (h:I n s):codeAny (model prog w) A (.compLoop (.ListComp o [⟨a,iter,k,0⟩] scope pos) 0 B acc env) R s:=by
 refine codeAny_loop rfl I (λn s D=>?_) n h;have up:∀{W:Type} {t:Sem W} {Q:W->Shared->Prop} {E:LV} {s:Shared},wpAny (model prog w) A t Q (λ_ _=>False) s->wpAny (model prog w) A t Q E s:=λh=>Ae0 h (λ_ _ z=>z) λ_ _ z=>z.elim;show wpAny _ A ((compTurn (.ListComp o [⟨a,iter,k,0⟩] scope pos) 0 B acc env).onRaise _) _ _ s;refine wpAny_noted (up ?_);rw[compTurn_list];refine YH (Ag7 (YH (br (p n s D) λr b j=>?_)));cases r with
 |none=>exact YR j
 |some v=>
   refine YH (br j λ_ C l=>YH (br l λ_ g y=>YH (br y λok d i=>?_)));cases ok with
   |false=>exact YR ⟨rfl,i⟩
   |true=>exact YH (YH (br i λx f u=>YH (br u λ_ e q=>YR (YR ⟨rfl,q⟩))))
end
def Jn(J:It)(τ:V->St)(h:TT)(te:TE)(p:Addr)(H1:Hp)(Q:VK):Prop:=
 ∃W:Nat->Nat->List V->Hp->Prop,(∃m,W 0 m [] (upd H1 p (.lst [])))/\∀i m a c,W i m a c->c p=some (.lst a)/\a.length<sizeLine/\
  ((J.stop i c/\Q (.ref p) c)\/(J.go i c/\∀v g,J.yld i c v g->h (τ v) g λb f=>if b=true then te (τ v) f λy e=>e p=some (.lst a)/\∃d,d<m/\W (i+1) d (a++[y]) (upd e p (.lst (a++[y])))
    else ∃d,d<m/\W (i+1) d a f))
def ju(a:TI)(c:List Nat)(b:TT)(te:TE):TE:=λZ H Q=>a Z H λJ H1=>∀p,H1 p=none->Jn J (λv=>some v::iH Z c) b te p H1 Q
section
variable{X:Cx}{G:L9}{Z:St}{H:Hp}{s:Shared}{scope:Scope}{x:Str}{px pos:Pos}{cs:List Str}{ix:List Nat}{fp:List Addr}{elt iter:Expr}{ifs:List Expr}{ti:TT}{te:TE}
def qu{tn:Nat->Heap->Prop}{Qe:VK}{RR:Value->Addr->Result->Shared->Prop}(Q:X.calm=true)(I2:Inv X G Z H s)(g:CompSc X.env.scope scope x cs)(hix:ix.map (λi=>X.N[i]?)=cs.map some)
 (T:Turn X.prog X.w X.K (.Name x px) J fp it tn) (st0:tn 0 s.heap) (B:∀b∈fp,qN X G H b)
 (hti:∀C fp s₀ H₀,Tw (i6 X scope (bS X.env scope.names []) C (x::cs) fp s₀ H₀) ifs ti) (hte:∀C fp s₀ H₀,PE (i6 X scope (bS X.env scope.names []) C (x::cs) fp s₀ H₀) elt te)
 (hW:∀p,H p=none->Jn J (λv=>some v::iH Z ix) ti te p H Qe)
 (hRR:∀p C H' f,Inv X G Z H' f->qN X G H' C->(∃m,f.heap.Ns C m)->Qe (.ref p) H'->RR (.ref p) C (.ok .next) f):
 wpAny (model X.prog X.w) X.A (newList []) (λacc s₃=>wpAny (model X.prog X.w) X.A (newFunctionEnv scope X.env.globals (bS X.env scope.names []) [] X.env.qual none .none (some X.env)) (λL S=>
  codeAny (model X.prog X.w) X.A (.compStart (.ListComp elt [⟨.Name x px,iter,ifs,0⟩] scope pos) 0 (.ref it) acc { L with scope:=relabel scope X.env }) (RR acc L.locals) S) E s₃) E s:=by
 refine wpAny_newObj_type (wpAny_newFunctionEnv g.cell (by intro y hy;simp at hy) (λh k j=>?_) g.kind);dsimp only at k j ⊢;have hD:H s.heap.objs.size=none:=I2.hok.fresh (Nat.le_refl _)
 have I3:Inv X G Z (upd H s.heap.objs.size (.lst [])) {s with heap:=s.heap.push {cls:=.type "list",dict:=none,data:=.seq ([]:List Value).toArray}}:=
  I2.laid (t':=s.toks) (λb u e=>YN _ e) (YY _) ⟨Z3 _,[],0,.nil,Y4 _ rfl⟩
 obtain⟨W,⟨m0,w0⟩,R⟩:=hW _ hD
 have I:∀b∈fp,b<s.heap.objs.size:=λb a=>by
  obtain⟨o,e,_⟩:=T.obj 0 _ st0 b a;exact YV e
 have hlt:∀b∈fp,b<(s.heap.push {cls:=.type "list",dict:=none,data:=.seq ([]:List Value).toArray}).objs.size:=λb a=>by
  rw[Ac3];exact Ag3 (I b a)
 have hf3:∀b∈fp,qN X G (upd H s.heap.objs.size (.lst [])) b:=λb a=>⟨by rw[aq (Zg (I b a))];exact(B b a).1,(B b a).2⟩
 have kept:∀b o,(s.heap.push {cls:=.type "list",dict:=none,data:=.seq ([]:List Value).toArray}).get? b=some o->h.get? b=some o:=λb o e=>
  j.extBut b o (Zg (YV e)) (YN _ e)
 have P:∀b o,s.heap.get? b=some o->h.get? b=some o:=λb o e=>kept b o (YN _ e);have I4:=HH (t₁:=s.toks+([]:List (Str×Value)).length) I3 g hix hf3 hlt k kept;have st4:tn 0 h:=T.keep 0 _ _ st0 λb _ o e=>P b o e
 have F:codeAny (model X.prog X.w) X.A (.compLoop (.ListComp elt [⟨.Name x px,iter,ifs,0⟩] scope pos) 0 (.ref it) (.ref s.heap.objs.size) (compEnvC scope (bS X.env scope.names []) (s.heap.push {cls:=.type "list",dict:=none,data:=.seq ([]:List Value).toArray}).objs.size X.env))
  (RR (.ref s.heap.objs.size) (s.heap.push {cls:=.type "list",dict:=none,data:=.seq ([]:List Value).toArray}).objs.size) {s with heap:=h,toks:=s.toks+([]:List (Str×Value)).length}:=by
  generalize l:i6 X scope (bS X.env scope.names []) (s.heap.push {cls:=.type "list",dict:=none,data:=.seq ([]:List Value).toArray}).objs.size (x::cs) fp {s with heap:=s.heap.push {cls:=.type "list",dict:=none,data:=.seq ([]:List Value).toArray}} (upd H s.heap.objs.size (.lst []))=Y at I4;have hti':Tw Y ifs ti:=by rw[<-l];exact hti _ _ _ _
  have hte':PE Y elt te:=by rw[<-l];exact hte _ _ _ _
  have hcY:Y.calm=true:=by rw[<-l];exact Q
  have hg:PG Y (.Name x px) (dg 0):=by
   rw [<-l];exact tK g.nd rfl (.inl (lookup_relabel_local g.var)) (.inr (lookup_relabel_local g.var))
  have f4:∀{H':Hp},(∀b∈fp,H' b=none)->∀b∈fp,qN Y [] H' b:=λ{H'} hn b a=>by
   rw[<-l];refine⟨hn b a,Zg (hlt b a),λz=>?_,.inl a,λy c e z=>?_,λp hp=>absurd (show p∈([]:L9) from hp) (by simp)⟩
   · rcases YS.mp (I3.stkSub b z) with q|q
     ·exact(B b a).2.1 q
     ·exact(B b a).2.2.1 q
   · rcases im (xl I2 g) e with q|q
     ·cases q
     ·exact(B b a).2.2.2.2.1 y c q z
  have fin:∀{D:Option V} {H':Hp} {f:Shared},Inv Y [] (D::iH Z ix) H' f->Qe (.ref s.heap.objs.size) H'->RR (.ref s.heap.objs.size) (s.heap.push {cls:=.type "list",dict:=none,data:=.seq ([]:List Value).toArray}).objs.size (.ok .next) f:=λ{D H' f} J q=>by
   rw[<-l]at J;have Ix:Inv X G Z H' f:=I3.call' (ch:=fp) J.os J.base J.hok J.bare λb a=>⟨(B b a).2.2.2.1,(B b a).2.1,(B b a).2.2.2.2.1,(B b a).2.2.2.2.2⟩;refine hRR _ _ H' f Ix (I3.fpOk (YY _) J.free) ?_ q;obtain⟨m,hm,_⟩:=J.loc;exact⟨m,hm⟩
  have eY:compEnvC scope (bS X.env scope.names []) (s.heap.push {cls:=.type "list",dict:=none,data:=.seq ([]:List Value).toArray}).objs.size X.env=Y.env:=by rw[<-l];rfl
  have eP:X.prog=Y.prog:=by rw[<-l];rfl
  have eW:X.w=Y.w:=by rw[<-l];rfl
  have eK:X.K=Y.K:=by rw[<-l];rfl
  have eA:X.A=Y.A:=by rw[<-l];rfl
  have eX:Y.xe=λ_ _=>False:=by rw[<-l];rfl
  rw[eP,eW,eK]at T;rw[eY,eP,eW,eA];refine xj (λn f=>∃i M D H',Inv Y [] (D::iH Z ix) H' f/\tn i f.heap/\(∀b∈fp,H' b=none)/\W i n M H') ?_ m0 ⟨0,[],none,_,I4,st4,λb a=>(hf3 b a).1,w0⟩;rintro n f ⟨i,M,D,H',I',st',fr',w'⟩;obtain⟨hp,hlen,U⟩:=R i n M H' w';rcases U with ⟨stop,q⟩|⟨go,step⟩
  ·refine br (T.done Y rfl rfl rfl hcY i [] f (D::iH Z ix) H' (λ_ _=>False) I' (f4 fr') st' stop) λr s1 ⟨hr,I1⟩=>?_;subst hr;exact fin I1 q
  · refine br (T.item Y rfl rfl rfl hcY i [] f (D::iH Z ix) H' (λ_ _=>False) I' (f4 fr') st' go) λr s1 ⟨u,hr,h4⟩=>?_;subst hr;refine br h4 λ_ s2 ⟨v,H2,J2,r2,y2,O,fr2⟩=>?_;have J2p:=J2.pinned (f4 fr2) (T.obj _ _ O)
    have again:∀{t:St} {H7:Hp} {s7:Shared},Inv Y ([]++nR fp s2.heap) t H7 s7->tn (i+1) s7.heap/\∀b∈fp,H7 b=none:=λ{t H7 s7} I7=>by
     refine⟨T.keep _ _ _ O λb a o e=>(I7.pin (b,o) (YL _ (YL _ (gO a e)))).1,λb a=>?_⟩;obtain⟨o,e,d⟩:=T.obj _ _ O b a;exact(I7.pin (b,o) (YL _ (YL _ (gO a e)))).2.1
    have hga:=hg _ s2 (D::iH Z ix) H2 v u (λt H'=>t=some v::iH Z ix/\H'=H2) J2p r2 ⟨rfl,rfl⟩;rw[eX]at hga;refine br hga λ_ s3 ⟨σ3,H3,J3,e3,e3'⟩=>?_;subst e3 e3';have htt:=hti' _ s3 _ H3 _ J3 (step v H3 y2);rw[eX]at htt;refine br htt λb s4 ⟨H4,J4,q4⟩=>?_;cases b with
    |false=>
      rw[on YW]at q4 ⊢;obtain⟨m',hm,w4⟩:=q4;exact⟨m',hm,i+1,M,some v,H4,J4.unpinned,(again J4).1,(again J4).2,w4⟩
    |true=>
      rw[YG rfl]at q4 ⊢;have hee:=hte' _ s4 _ H4 _ J4 q4;rw[eX]at hee;refine br hee λy s5 ⟨yv,H5,J5,r5,hp5,m',hm,w5⟩=>?_;have hap:=rN (X:=Y) _ s5 _ H5 (.ref s.heap.objs.size) [yv] (.ref s.heap.objs.size) [y] (λ_ H6=>H6=upd H5 s.heap.objs.size (.lst (M++[yv]))) J5 rfl (.cons r5 .nil) ⟨_,M,yv,rfl,rfl,hp5,hlen,rfl⟩;rw[eX]at hap;refine br hap λ_ s6 ⟨_,H6,J6,_,e6⟩=>?_;subst e6;exact⟨m',hm,i+1,M++[yv],some v,_,J6.unpinned,(again J6).1,(again J6).2,w5⟩
 exact codeAny_compStart_list F (T.self _ 0 _ _ _ st4 F)
def KZ(c:X.calm=true)(hi:PI X (.Name x px) iter n)(a:CompSc X.env.scope scope x cs)(k:ix.map (λi=>X.N[i]?)=cs.map some)
 (f:∀C fp s₀ H₀,Tw (i6 X scope (bS X.env scope.names []) C (x::cs) fp s₀ H₀) ifs ti) (g:∀C fp s₀ H₀,PE (i6 X scope (bS X.env scope.names []) C (x::cs) fp s₀ H₀) elt te)
 (l:closureFor scope X.env=pure (bS X.env scope.names []):=by rfl) (u:∀x,foldedSetIterable iter X.env x=pure x:=by intro _;rfl):
 PE X (.ListComp elt [⟨.Name x px,iter,ifs,0⟩] scope pos) (ju n ix ti te):=by
 intro G s Z H Q I h;rw[eval_ListComp];refine wpAny_comprehension_free (use:=none) rfl u l a.kind a.loc (br (hi G s Z H _ I h) λv V E=>br E λt U D=>?_);obtain⟨W,fp,tn,J,Y,e,R,T,d,M,B⟩:=D;subst e;refine qu (RR:=λacc C=>compPost (model X.prog X.w) X.A X.xe none (EP X G Z Q) acc C) c R a k T d M f g B ?_;rintro p C H' r S ⟨P,O,_,L,K,F⟩ ⟨m,y⟩ q;exact⟨m,y,λh' j=>⟨.ref p,H',S.turned (t':=r.toks) (λb o z e=>j.extBut b o z e) P O L K F,rfl,q⟩⟩
def yo{a:Pos}(g:X.calm=true)(hN:X.N.Nodup)(K:X.N[i]?=some y)(hy:Tz X.env.scope y)(hi:PI X (.Name x px) iter O)(f:CompSc X.env.scope scope x cs)(F:ix.map (λi=>X.N[i]?)=cs.map some)
 (r:∀C fp s₀ H₀,Tw (i6 X scope (bS X.env scope.names []) C (x::cs) fp s₀ H₀) ifs ti) (t:∀C fp s₀ H₀,PE (i6 X scope (bS X.env scope.names []) C (x::cs) fp s₀ H₀) elt te)
 (u:swapsWith (.ListComp elt [⟨.Name x px,iter,ifs,0⟩] scope pos) (some (.Name y py)) a.line X.env=pure true:=by rfl)
 (L:closureFor scope X.env=pure (bS X.env scope.names []):=by rfl) (hs:∀x,foldedSetIterable iter X.env x=pure x:=by intro _;rfl)
 (hf:X.fn y=true\/X.env.scope.names.lookup y=some .local:=by first | exact .inl rfl | exact .inr rfl | assumption):
 PS X (.Assign [.Name y py] (.ListComp elt [⟨.Name x px,iter,ifs,0⟩] scope pos) a) (qS (ju O ix ti te) (dg i)):=by
 intro G s Z H D I h;rw[exec_Assign_Name_used _ _ _ _ u];refine YH (Ag7 (YH ?_));show wpAny _ X.A (do let _ <-comprehension (.ListComp elt [⟨.Name x px,iter,ifs,0⟩] scope pos) scope X.env _ (newList []) false (eval iter X.env) (some (assign (.Name y py) X.env))) _ _ s;refine YH (br (wpAny_comprehension_free (Q:=λ_ d=>SP X G D .next d) rfl hs L f.kind f.loc (br (hi G s Z H _ I h) λv s1 h1=>br h1 λY s2 h2=>?_)) λ_ d hq=>YR (YR hq));obtain⟨it,fp,tn,J,H2,e,I2,T,n,f2,hW⟩:=h2;subst e;refine qu (RR:=λacc C=>compPost (model X.prog X.w) X.A X.xe (some (assign (.Name y py) X.env)) (λ_ d=>SP X G D .next d) acc C) g I2 f F T n f2 r t hW ?_;rintro p C H' d S ⟨f0,P,M,f3,f4,f5⟩ ⟨m,hm⟩ q;obtain⟨k,es,ep,E,j,V⟩:=hm
 have Ip:Inv X (G++[(C,k)]) Z H' d:=S.pins_of λp hp=>(YX.mp hp).elim (λz=>S.pin p (YL _ z)) λz=>by
  have e:p=(C,k):=by simpa using z
  subst e;exact⟨E,f0,P,M,λv z=>by rw[j]at z;cases z⟩
 have hg:PG X (.Name y py) (dg i):=tK hN K hy hf;refine br (hg _ d Z H' (.ref p) (.ref p) D.nx Ip rfl q) λ_ U ⟨l,H3,R,W⟩=>?_;have c:=R.pin (C,k) (YL _ (YL _ (by simp)));refine⟨m,⟨k,es,ep,c.1,j,V⟩,λh' B=>?_⟩;exact⟨l,H3,(R.unpinned).turned (t':=U.toks) (λb o hb e=>B.extBut b o hb e) c.2.1 P f3 f4 f5,W⟩
end
mutual
def Den(K:F0)(H:Hp):PyData->V->Prop
 |.none,v=>v=.non
 |.bool b,v=>v=.bl b
 |.int i,v=>v=.int i
 |.str x,v=>v=.str x
 |.list ds,v=>∃a xs,v=.ref a/\SqL K H a xs/\Dens K H ds xs
 |.tuple ds,v=>∃a xs,v=.ref a/\SqT K H a xs/\Dens K H ds xs
 |.dict _,_=>False
def Dens(K:F0)(H:Hp):List PyData->List V->Prop
 |[],xs=>xs=[]
 |d::ds,xs=>∃x r,xs=x::r/\Den K H d x/\Dens K H ds r
end
section
variable{X:Cx}{G:L9}{Z:St}{H:Hp}{s:Shared}
mutual
def den_reads(I:Inv X G Z H s):∀(d:PyData) {v:V} {u:Value},Den X.K H d v->RelV v u->∃as,Reads s.heap u d as
 | .none,v,u,h,r=>by
   rw[Den]at h;subst h;have c:u=Value.none:=r;subst c;exact⟨_,.none⟩
 | .bool b,v,u,h,r=>by
   rw[Den]at h;subst h;have c:u=Value.bool b:=r;subst c;exact⟨_,.bool b⟩
 | .int i,v,u,h,r=>by
   rw[Den]at h;subst h;obtain⟨t,c⟩:=(show ∃t,u=Value.int i t from r);subst c;exact⟨_,.int i t⟩
 | .str x,v,u,h,r=>by
   rw[Den]at h;subst h;obtain⟨t,c⟩:=(show ∃t,u=Value.str x t from r);subst c;exact⟨_,.str x t⟩
 | .list ds,v,u,h,r=>by
   rw[Den]at h;obtain⟨a,xs,rfl,j,hd⟩:=h;have c:u=Value.ref a:=r;subst c;obtain⟨its,f,p,hz⟩:=I.list j;obtain⟨as,g⟩:=dens_reads I ds hd f;obtain⟨o,k,l,n,e⟩:=p.isList;exact⟨_,.list k l e (by simpa using g)⟩
 | .tuple ds,v,u,h,r=>by
   rw[Den]at h;obtain⟨a,xs,rfl,j,hd⟩:=h;have c:u=Value.ref a:=r;subst c;obtain⟨its,f,p,hz⟩:=I.tuple j;obtain⟨as,g⟩:=dens_reads I ds hd f;obtain⟨o,k,l,n,e⟩:=p;exact⟨_,.tuple k l e (by simpa using g)⟩
 | .dict _,v,u,h,r=>by
   rw[Den]at h;exact h.elim
def dens_reads(I:Inv X G Z H s):∀(ds:List PyData) {xs:List V} {us:List Value},Dens X.K H ds xs->Vals xs us->∃as,ReadsAll s.heap us ds as
 | [],xs,us,h,r=>by
   rw[Dens]at h;subst h;cases r;exact⟨_,.nil⟩
 | d::ds,xs,us,h,r=>by
   rw[Dens]at h;obtain⟨x,t,rfl,f,g⟩:=h;cases r with
   |cons e c=>
     obtain⟨as,b⟩:=den_reads I d f e;obtain⟨bs,a⟩:=dens_reads I ds g c;exact⟨_,.cons b a⟩
end
end
def sD{K:F0}:∀ns:List Int,Dens K H (ns.map PyData.int) (ns.map V.int)
 |[]=>by rw[ZL,ZL,Dens]
 | n::r=>by
   rw[YI,YI,Dens];exact⟨_,_,rfl,by rw[Den],sD r⟩
def v9{K:F0}{ns:List Int}(h:SqL K H a (ns.map V.int)):Den K H (.list (ns.map PyData.int)) (.ref a):=by
 rw[Den];exact⟨a,_,rfl,h,sD ns⟩
def HQ(ns M:List Int):PyData.eqv (.list (ns.map PyData.int)) (.list (M.map PyData.int))=decide (ns=M):=by
 rw[<-SeqAt.same_eq_eqv _ _ (by simp only[SeqAt.noMix];exact PySem.W.noMix_ints ns M)];simp only[same];exact PySem.W.same_ints ns M
section
variable{X:Cx}
def E3(K:F0)(neg:Bool):R2:=λx y H Q=>∃d e,Den K H d x/\Den K H e y/\SeqAt.shaped d=true/\SeqAt.shaped e=true/\Q (.bl (if neg then !PyData.eqv d e else PyData.eqv d e)) H
def Qj(j:X.A.units+64<cLine):jt X (compareOp .Eq) (E3 X.K false):=by
 intro G s Z H x y v u Q I f c h;obtain⟨d,e,hd,k,b,a,q⟩:=h;obtain⟨as,i⟩:=den_reads I d hd f;obtain⟨bs,g⟩:=den_reads I e k c;exact eq_dataH i g b a j ⟨.bl _,H,I,rfl,q⟩
def Qc(j:X.A.units+64<cLine):jt X (compareOp .NotEq) (E3 X.K true):=by
 intro G s Z H x y v u Q I f c h;obtain⟨d,e,hd,k,b,a,q⟩:=h;obtain⟨as,i⟩:=den_reads I d hd f;obtain⟨bs,g⟩:=den_reads I e k c;exact ne_dataH i g b a j ⟨.bl _,H,I,rfl,q⟩
def Qi(j:X.A.units+65<cLine):jt X (compareOp .In) (λx y H Q=>∃d xs,Den X.K H d x/\Den X.K H (.list xs) y/\SeqAt.shaped d=true/\SeqAt.shaped (.list xs)=true/\(∀z∈xs,SeqAt.noMix z d=true)/\Q (.bl (decide (countIn d xs≠0))) H):=by
 intro G s Z H x y v u Q I e c h;obtain⟨d,xs,hd,k,b,a,i,q⟩:=h;obtain⟨as,g⟩:=den_reads I d hd e;obtain⟨bs,f⟩:=den_reads I _ k c;exact in_list_dataH f g a b j i ⟨.bl _,H,I,rfl,q⟩
end
section
variable{X:Cx}
def Jb:cQ X (.builtin "isinstance") (λxs H Q=>∃x c t b,xs=[x,.ty c]/\TyOf X.K H x t/\PySem.W.kitOne X.K t (.type c)=some b/\Q (.bl b) H):=by
 intro G s Z H xs us Q I r h;obtain⟨x,c,t,b,rfl,ty,e,q⟩:=h;obtain⟨u,a,rfl,i,g⟩:=DX r;have f:a=Value.type c:=g;subst f;exact C5 I i ty e λd=>⟨.bl b,H,I.tok d,rfl,q⟩
end
def Wi(g:Bool):String:=cond g "max.loop" "min.loop"
def TF(g:Bool):String:=cond g "max" "min"
def XH(g:Bool):CmpOp:=cond g .Gt .Lt
def RJ:∀g,plainId (Wi g)=true|false=>PySem.F.plain_min_loop|true=>PySem.F.plain_max_loop
def Ym:∀g,entryFor table (Wi g)=some (cond g Builtin.«max.loop» Builtin.«min.loop»)|false=>PySem.F.entry_min_loop|true=>PySem.F.entry_max_loop
def xmE:∀g,entryFor table (TF g)=some (cond g Builtin.«max» Builtin.«min»)|false=>PySem.F.entry_min|true=>PySem.F.entry_max
def xmP:∀g,builtinKind (TF g)=none/\plainId (TF g)=true|false=>⟨PySem.F.kind_min,PySem.F.plain_min⟩|true=>⟨PySem.F.kind_max,PySem.F.plain_max⟩
def Mr(a d:Value):∀g,argsOk (TF g) ⟨[a],[(Str.ofString "default",d)]⟩|false=>by unfold argsOk;kernel_rfl|true=>by unfold argsOk;kernel_rfl
def Xv:(toString "min" ++ toString ".loop" : String)=Wi false:=by decide
def Xu:(toString "max" ++ toString ".loop" : String)=Wi true:=by decide
section
variable{prog:Program}{w:World}{A:Around}{R:Result->Shared->Prop}{I:Addr}{fp wr:List Addr}{n:Nat}{P:Nat->Value->Prop}{St:Nat->Heap->Prop}
def Ih(g:Bool)(W:Walks prog w A.in1 I fp wr n P St)(T:List (Str×Value))(x:Nat->Nat->Bool)(S:Addr)(L:S∉fp)(G:Shared->Prop)
 (N:∀(s:Shared) h' l,G s->(∀b o,b∉wr->b≠S->s.heap.get? b=some o->h'.get? b=some o)->G {s with heap:=h',toks:=l})
 (F:∀i j J H (s:Shared) (Q:LV) (E:LV),G s->P i J->P j H->Q (.bool (x i j)) s->wpAny (model prog w) A.in1 (richCompare (XH g) J H) Q E s):∀(k j:Nat) (s:Shared) (h:Value) (c:Nat),
 n-(j+1)=k->j+1<=n->G s->St (j+1) s.heap->P (argBest x j) h->s.heap.get? S=some {cls:=.type "list",dict:=none,data:=.seq #[h,h] c,slots:=#[]}->
 (∀v h' l,P (argBest x (n-1)) v->(∀b o,b∉wr->b≠S->s.heap.get? b=some o->h'.get? b=some o)->R (.ok (.ret v)) {s with heap:=h',toks:=l})->
 codeAny (model prog w) A (.builtin (Wi g) ⟨[.ref I,.none,.ref S],T⟩) R s:=by
 have K:S∉wr:=λz=>L (W.sub _ z);cases g
 all_goals
  intro k
  induction k with
  |zero=>
    intro j s h c e1 V g st C B p;refine Aa2 (Ym _) ?_;rw[ZN (RJ _) _];refine YH (m:=seqItems? (.ref S)) (wpAny_seqItems B rfl ?_);refine YH (m:=tryCatch (pyNext (.ref I)) _) (Ad6 (W.done s _ _ ((show j+1=n by omega)▸st) λh' l kp=>?_));refine YH (m:=updateSeq S (λ_=>#[])) ?_;refine Ai9 (kp S _ K B) rfl (YH (Ad2 (YR ?_)));exact p h _ l (by rw[show n-1=j by omega];exact C) λb o f q e=>(Zk _ _ (Aa7 q)).trans (kp b o f e)
  |succ k M=>
    intro j s h c e1 V g st C B p;have lt:j+1<n:=by omega
    refine Aa2 (Ym _) ?_;rw[ZN (RJ _) _];refine YH (m:=seqItems? (.ref S)) (wpAny_seqItems B rfl ?_);refine YH (m:=tryCatch (pyNext (.ref I)) _) (Ad6 (W.item (j+1) s _ _ lt st λv h' l pv y kp=>?_));have t:=kp S _ K B;have g':G {s with heap:=h',toks:=l}:=N s h' l g λb o f _ e=>kp b o f e;refine YH (m:=tryCatch (holding [v,v] (richCompare _ v h >>= _)) _) (Ad6 (Z2 (YH (F (j+1) (argBest x j) v h _ _ _ g' pv C ?_))));refine YH (Z2 (ZP (YH (Ad2 (YR ?_)))));cases O:x (j+1) (argBest x j) with
    |true=>
      rw[YG rfl];refine YH ?_;refine Ai9 t rfl (YH (Ad2 ?_))
      first | rw[Xv] | rw[Xu]
      refine YR ⟨Aa5 (RJ _) _,M (j+1) _ v _ (by omega) lt (N _ _ l g' λb o f q e=>(Zk _ _ (Aa7 q)).trans e) (W.frame _ _ _ y λb U o e=>?_) (by simp only[argBest,O,Ai2];exact pv) (Zo _ t rfl) λD u a r d=>?_⟩
      ·exact(Zk _ _ (λz:S=b=>L (by rw[z];exact U))).trans e
      ·exact p D u a r λb o f q e=>d b o f q ((Zk _ _ (Aa7 q)).trans (kp b o f e))
    |false=>
      rw[on YW];refine YH (Ad2 ?_)
      first | rw[Xv] | rw[Xu]
      exact YR ⟨Aa5 (RJ _) _,M (j+1) _ h c (by omega) lt g' y (by simp only[argBest,O,Ab4,Af6];exact C) t λD u a r d=>p D u a r λb o f q e=>d b o f q (kp b o f e)⟩
end
section
variable{prog:Program}{w:World}{A:Around}{E:LV}{s:Shared}
def xt(g:Bool){Q:LV}
 (h:wpAny (model prog w) A.in1 (pyIter x) (λN a=>∃I u f n P St y,∃G:Shared->Prop,N=.ref I/\Walks prog w A.in1 I u f n P St/\St 0 a.heap/\(∀b∈u,b<a.heap.objs.size)/\
   G a/\(∀(s:Shared) h' c,G s->(∀b o,b∉f->b≠a.heap.objs.size->s.heap.get? b=some o->h'.get? b=some o)->G {s with heap:=h',toks:=c})/\
   (∀i j L K (s:Shared) (Q:LV) (E:LV),G s->P i L->P j K->Q (.bool (y i j)) s->wpAny (model prog w) A.in1 (richCompare (XH g) L K) Q E s)/\
   (n=0->∀h' c,(∀b o,b∉f->a.heap.get? b=some o->h'.get? b=some o)->Q d {a with heap:=h',toks:=c})/\
   (0<n->∀v h' c,P (argBest y (n-1)) v->(∀b o,b∉f->a.heap.get? b=some o->h'.get? b=some o)->Q v {a with heap:=h',toks:=c})) E s):
 wpAny (model prog w) A (call (.builtin (TF g)) [x] [(Str.ofString "default",d)]) Q E s:=by
 cases g
 all_goals
  refine kmk_tree (xmP _).1 (xmP _).2 (xmE _) (Mr _ _ _) ?_;refine YH (m:=Builtin.Builtins.bindParams _ ["key","default"] 0 ⟨[],[(Str.ofString "default",d)]⟩) (wpAny_of_eq (show _=pure [none,some d] from rfl) ?_);refine YH (YR (YH (Ae0 h (λN a t=>?_) λ_ _ e=>e)));obtain⟨I,u,f,n,P,St,y,G,rfl,W,st,lts,Y,O,J,T,S⟩:=t;refine YH (Ag4 ?_);have D:a.heap.objs.size∉u:=λz=>ZG _ (lts _ z);have U:a.heap.objs.size∉f:=λz=>D (W.sub _ z)
  first | rw[Xv] | rw[Xu]
  have p:=W.frame _ _ (a.heap.push {cls:=.type "list",dict:=none,data:=.seq ([]:List Value).toArray}) st λb _ o e=>YN _ e;have M:(a.heap.push {cls:=.type "list",dict:=none,data:=.seq ([]:List Value).toArray}).get? a.heap.objs.size=some {cls:=.type "list",dict:=none,data:=.seq ([]:List Value).toArray}:=Y4 _ rfl;refine YR ⟨Aa5 (RJ _) _,Aa2 (Ym _) ?_⟩;rw[ZN (RJ _) _];refine YH (m:=seqItems? (.ref a.heap.objs.size)) (wpAny_seqItems M rfl ?_);by_cases F:n=0
  ·refine YH (m:=tryCatch (pyNext (.ref I)) _) (Ad6 (W.done _ _ _ (F▸p) λh' c kp=>?_));refine YH (m:=rule _) (wpAny_rule (YR ?_));exact T F h' c λb o k e=>kp b o k (YN _ e)
  · have lt:0<n:=Nat.pos_of_ne_zero F;refine YH (m:=tryCatch (pyNext (.ref I)) _) (Ad6 (W.item 0 _ _ _ lt p λv h' c pv B kp=>?_));have q:=kp _ _ U M;refine YH (m:=updateSeq a.heap.objs.size (λ_=>#[v,v])) ?_;refine Ai9 q rfl ?_
    first | rw[Xv] | rw[Xu]
    refine YR ⟨Aa5 (RJ _) _,Ih _ W _ y _ D G O J _ 0 _ v _ rfl lt (O a _ _ Y λb o k X e=>(Zk _ _ (Aa7 X)).trans (kp b o k (YN _ e))) (W.frame _ _ _ B λb V o e=>?_) pv (Zo _ q rfl) λR H l C r=>?_⟩
    ·exact(Zk _ _ (λz:a.heap.objs.size=b=>D (by rw[z];exact V))).trans e
    ·exact S lt R H l C λb o k e=>r b o k (Zg (YV e)) ((Zk _ _ (Nat.ne_of_gt (YV e))).trans (kp b o k (YN _ e)))
end
def gb(X:Cx)(f:Value)(c:List Str)(r:List V->List V->Hp->VK->Prop):Prop:=
 ∀(G:L9) (s:Shared) (Z:St) (H:Hp) (xs a:List V) (us b:List Value) (Q:VK),Inv X G Z H s->Vals xs us->Vals a b->r xs a H Q->
  wpAny (model X.prog X.w) X.A (call f us (c.zip b)) (EP X G Z Q) X.xe s
def Ce(r:List V->List V->Hp->VK->Prop)(t b:TA):TE:=λZ H Q=>t Z H λvs H1=>b Z H1 λa c=>r vs a c Q
section
variable{X:Cx}{x:Str}{p pos:Pos}{e:Expr}{es:List Expr}{kws:List Keyword}{t tk:TA}{id:String}{ks:List Str}{r:List V->List V->Hp->VK->Prop}
def CB(A:gb X (.builtin id) ks r)(y:Gl X x)(v:X.mg x=none)(q:bootBuiltins x=some (.builtin id))(B:PA X (e::es) t)(w:PK X kws tk)
 (c:(backToKw pos (keywordEach kws X.env)).filterMap (·.1)=ks:=by rfl) (u:x ≠ "__name__" := by decide) (f:(x==("__debug__" : Str))=false:=by decide)
 (z:backTo pos (starEach (e::es) X.env)=(false,eval e X.env)::backTo pos (starEach es X.env):=by rfl) (b:(backTo pos (starEach (e::es) X.env)).any (·.1)=false:=by rfl)
 (a:(backToKw pos (keywordEach kws X.env)).all (·.1.isSome)=true:=by rfl) (d:(backToKw pos (keywordEach kws X.env)).any (·.1.isNone)=false:=by rfl):
 PE X (.Call (.Name x p) (e::es) kws pos) (Ce r t tk):=by
 intro G s Z H Q I h;refine Z5 (jO I y v q ?_ u f);refine PyProof.Rows.callWith_kw (br (B pos G s Z H _ I h) λus k ⟨vs,H1,D,m,o⟩=>br (w pos G k Z H1 _ D o) λi j ⟨g,E,C,l,n⟩=>?_) z b a d;rw[c];exact A G j Z E vs g us i Q C m l n
end
def dP:∀{ns:List Int} {us:List Value} {i:Nat} {u:Value},Vals (ns.map V.int) us->us[i]?=some u->∃t,u=.int (ns.getD i 0) t
 | [],us,i,u,r,e=>by
   cases r;cases e
 | n::ns,us,i,u,r,e=>by
   rw[YI]at r;cases r with
   |cons b a=>
     cases i with
     |zero=>
       cases e;exact b
     |succ i=>
       show ∃t,u=.int (ns.getD i 0) t;exact dP (ns:=ns) (i:=i) a (by simpa using e)
def SN{P:Program}{w:World}{A:Around}{R:Nat->Value->Prop}(v:Nat->Int)(h:∀i u,R i u->∃t,u=.int (v i) t):∀g,CmpOf P w A (XH g) R (cond g (λi j=>decide (v i>v j)) λi j=>decide (v i<v j))|false=>CmpOf.ints_lt v h|true=>CmpOf.ints_gt v h
def Mm(v:Nat->Int)(k:Nat):∀g,argBest (cond g (λi j=>decide (v i>v j)) λi j=>decide (v i<v j)) k<=k/\∀j,j<=k->cond g (v j<=v (argBest (cond g (λi j=>decide (v i>v j)) λi j=>decide (v i<v j)) k)) (v (argBest (cond g (λi j=>decide (v i>v j)) λi j=>decide (v i<v j)) k)<=v j)|false=>argBest_lt v k|true=>argBest_gt v k
def xq(g:Bool){X:Cx}(U:X.calm=true):gb X (.builtin (TF g)) ["default"] (λxs y H Q=>∃p ns d,xs=[.ref p]/\y=[d]/\SqL X.K H p (ns.map V.int)/\(ns=[]->Q d H)/\∀m∈ns,(∀x∈ns,cond g (x<=m) (m<=x))->Q (.int m) H):=by
 intro G s Z H xs y us ws Q I r J h;obtain⟨p,ns,d,rfl,rfl,S,N,M⟩:=h;obtain⟨u,rfl,L⟩:=Vals.one r;have l:u=Value.ref p:=L;subst l;obtain⟨dv,rfl,rd⟩:=Vals.one J;obtain⟨its,k,pl,hz⟩:=I.list S;have B:ns.length=its.length:=by rw[<-k.length,YJ]
 obtain⟨O,c,w,n⟩:=id pl.isList;have f:p<s.heap.objs.size:=YV c;refine xt g (Ad5 pl.isList ⟨s.heap.objs.size,_,_,_,_,_,_,λ_=>True,rfl,Walks.list (A:=X.A.in1) (I.ok.hd U) _ p (Zg f) its.toArray,⟨⟨_,Y4 _ rfl,rfl,rfl⟩,⟨O,YN _ c,w,n⟩⟩,λb W=>?_,trivial,λ_ _ _ _ _=>trivial,λi j D C s Q E _=>SN (R:=λi v=>its.toArray[i]?=some v) (λi=>ns.getD i 0) (λi v e=>dP k (by simpa using e)) g i j D C s Q E,λe h' F kp=>?_,λe v h' F pv kp=>?_⟩)
 · rw[Ac3];rcases YS.mp W with z|z
   ·rw[z];exact Ac4 _
   · have a:b=p:=by simpa using z
     rw[a];exact Ag3 f
 · have Y:ns=[]:=Zi.mp (by rw[B];simpa using e);refine⟨d,H,I.kept λb o q=>kp b o (λz=>?_) (YN _ q),rd,N Y⟩;have a:b=s.heap.objs.size:=by simpa using z
   exact absurd (YV q) (by rw[a];exact ZG _)
 · have e':0<its.length:=by simpa using e
   have e1:its.toArray.size-1=ns.length-1:=by rw[YZ,B]
   rw[e1]at pv;obtain⟨b1,b2⟩:=Mm (λi=>ns.getD i 0) (ns.length-1) g;rw[Aj5]at pv;obtain⟨t,rfl⟩:=dP k pv
   have up:∀i,i<ns.length->ns.getD i 0∈ns:=λi hi=>by
    rw[Y0,Y1 hi];exact Ah6 hi
   refine⟨.int _,H,I.kept λb o q=>kp b o (λz=>?_) (YN _ q),⟨t,rfl⟩,M _ (up _ (by omega)) λx P=>?_⟩
   · have a:b=s.heap.objs.size:=by simpa using z
     exact absurd (YV q) (by rw[a];exact ZG _)
   · obtain⟨j,T,rfl⟩:=Ae5 P
     have:=b2 j (by omega)
     rwa [show ns.getD j 0=ns[j] by rw[Y0,Y1 T];rfl]at this
def DA{X:Cx}(b:X.calm=true):gb X (.builtin "min") ["default"] (λxs a H Q=>∃p ns d,xs=[.ref p]/\a=[d]/\SqL X.K H p (ns.map V.int)/\(ns=[]->Q d H)/\∀m∈ns,(∀x∈ns,m<=x)->Q (.int m) H):=xq false b
def DB{X:Cx}(b:X.calm=true):gb X (.builtin "max") ["default"] (λxs a H Q=>∃p ns d,xs=[.ref p]/\a=[d]/\SqL X.K H p (ns.map V.int)/\(ns=[]->Q d H)/\∀m∈ns,(∀x∈ns,x<=m)->Q (.int m) H):=xq true b
def dd(ns:List Int):List Int:=ns.foldl step_dedup []
def ym(ns:List Int):(List.range ns.length).map (λi=>ns.getD i 0)=ns:=by
 apply Ag5;intro i;rw[Y5];by_cases h:i<ns.length
 ·rw[Ac7 h,Y1 h,Ab7,Y0,Y1 h];rfl
 ·rw[Y8 (by rw[Ad7];omega),Y8 (by omega)];rfl
def vY(ns:List Int):firstMet (λi=>ns.getD i 0) ns.length=dd ns:=by
 unfold firstMet dd;rw[ym]
def NY:∀(ns acc:List Int),ns.Nodup->(∀x∈ns,x∉acc)->ns.foldl step_dedup acc=acc++ns
 |[],acc,_,_=>by rw[List.foldl_nil,Zm]
 | n::r,acc,h,hd=>by
   have c:=Y7.mp h
   have e:step_dedup acc n=acc++[n]:=by
    unfold step_dedup;rw[if_neg];intro z;obtain⟨y,d,e⟩:=List.any_eq_true.mp z;have a:y=n:=by simpa using e
    subst a;exact hd y YK d
   rw[Ab6,e,NY r (acc++[n]) c.2 λx b z=>?_,Zw]
   ·rfl
   · rcases YX.mp z with z|z
     ·exact hd x (YM _ b) z
     · have a:x=n:=by simpa using z
       subst a;exact c.1 b
def Ik{ns:List Int}(h:ns.Nodup):dd ns=ns:=by
 unfold dd;rw[NY ns [] h λ_ _ z=>nomatch z];rfl
section
variable{X:Cx}
def Ds(j:X.calm=true):cQ X (.type "set") (λxs H Q=>∃p ns,xs=[.ref p]/\SqL X.K H p (ns.map V.int)/\ns.length<4000/\∀q,H q=none->Q (.ref q) (upd H q (.set (λk=>(dd ns).any (·==k)) (dd ns).length))):=by
 intro G s Z H xs us Q I r h;obtain⟨p,ns,rfl,i,n,q⟩:=h;obtain⟨u,rfl,g⟩:=Vals.one r;have a:u=Value.ref p:=g;subst a;obtain⟨its,c,pl,hz⟩:=I.list i;have d:its.length=ns.length:=by rw[<-c.length,YJ]
 refine PySem.call_set_list (ns:=ns) (I.ok.hd j) pl.isList (by simpa using yL c) (by rw[List.size_toArray,d];unfold scanBound;omega) λh' m f kp=>?_;have l:its.toArray.size=ns.length:=by rw[List.size_toArray,d]
 rw[l,vY]at f;exact⟨.ref s.heap.objs.size,_,I.laid (o:=.set _ _) (λb o e=>kp b o (YV e) e) (YY _) f,rfl,q _ (I.hok.fresh (YY _))⟩
def Dw:cQ X (.builtin "len") (λxs H Q=>∃a S n,xs=[.ref a]/\H a=some (.set S n)/\Q (.int n) H):=by
 intro G s Z H xs us Q I r h;obtain⟨a,S,n,rfl,i,q⟩:=h;obtain⟨u,rfl,c⟩:=Vals.one r;have b:u=Value.ref a:=c;subst b;obtain⟨o,j,ep,t,d,hex,hd,_,_,g,f,e⟩:=(show s.heap.SetOf (intKind X.prog X.w) a S n from I.hok a _ i);refine call_len_set d hex hd f (Int.lt_of_lt_of_le (Int.ofNat_lt.mpr g) (by unfold scanBound;decide)) ?_;rw[e];exact⟨.int n,H,I.tok _,⟨_,rfl⟩,q⟩
end
def RawD(h:Heap)(d:Addr)(a:Array DictEntry)(ep:Nat):Prop:=∃o,h.get? d=some o/\o.ExactDict/\o.data=.dict a ep
section
variable{prog:Program}{w:World}{A:Around}{E:LV}{s:Shared}{d it:Addr}{es:Array DictEntry}{ep i:Nat}
def RawD.typeIs(x:RawD s.heap d es ep):s.TypeIs (.ref d) "dict" := by
 obtain⟨o,b,a,_⟩:=x;exact⟨o,b,a.1⟩
def nL{Q:LV}(c:(d==sysModules)=false)(x:RawD s.heap d es ep)
 (e:Q (.ref s.heap.objs.size) {s with heap:=s.heap.push {cls:=.type "dict_keyiterator",data:=.fields #[.ref d,.int 0 0,.int es.size 0,.int ep 0]}}):wpAny (model prog w) A (pyIter (.ref d)) Q E s:=by
 have a:=x.typeIs;obtain⟨o,b,f,hd⟩:=x;refine wpAny_pyIter_slot a PySem.F.slot_dict_iter (wpAny_call_entry PySem.F.slot_dict_iter a PySem.F.entry_dict_iter ?_ (PySem.F.args_dict_iter_1 _));unfold Builtin.«dict.__iter__» Builtin.Dict.dictSlotNone;refine wpAny_bind (wpAny_bind (wpAny_notOrdered_dict a (wpAny_pure ?_)));refine wpAny_bind (m:=Builtin.Dict.showsAll d) ?_;unfold Builtin.Dict.showsAll;rw[if_neg (by rw[c];exact Bool.false_ne_true)];refine wpAny_pure (wpAny_bind (wpAny_dictEntries b hd (wpAny_bind (wpAny_dictEpoch b hd ?_))));exact wpAny_bind (wpAny_newObj_type (wpAny_pure ⟨_,rfl, "dict_keyiterator",_,⟨_,Heap.get?_push_size _ rfl,rfl⟩,PySem.F.slot_dict_keyiterator_next.lookup,e⟩))
def nM{Q:Option Value->Shared->Prop}(a:s.heap.IsKeyIter it d i es.size ep)(x:RawD s.heap d es ep)(g:i<es.size)
 (j:∀h',h'.IsKeyIter it d (i+1) es.size ep->Heap.SameBut it s.heap h'->Q (some es[i].key) {s with heap:=h'}):wpAny (model prog w) A (pyNext (.ref it)) Q E s:=by
 obtain⟨o,f,h,hd⟩:=id a;obtain⟨k,c,_,e⟩:=id x;unfold pyNext;refine wpAny_bind (wpAny_attempt (wpAny_callSpecial?_slot (name:=Str.ofString "__next__") a.typeIs PySem.F.slot_dict_keyiterator_next (wpAny_call_entry PySem.F.slot_dict_keyiterator_next a.typeIs PySem.F.entry_dict_keyiterator_next ?_ (PySem.F.args_dict_keyiterator_next_1 _))));refine wpAny_bind (wpAny_pure (wpAny_bind (wpAny_bind ?_)))
 first | refine YH (ZW a.typeIs (YR ?_)) | refine YH (Aa6 a.typeIs (YR ?_))
 refine YH (wpAny_fieldsOf f hd ?_);simp only[show Builtin.Dict_items.ownsTuple "dict_keyiterator" = false from by decide,Ab4,Af6];show wpAny _ _ (if (Value.ref d==Value.none)=true then _ else _) _ _ s;rw[on (show ¬ ((Value.ref d==Value.none)=true) from YW)];refine YH (YR (YH (Aa3 c e ?_)));rw[on (by simp)];refine YH (YR (YH (Aj0 c e ?_)));rw[on (by simp)];refine YR ?_;simp only[show ¬ ((i:Int)<0) from by omega,Af6,Int.toNat_natCast,ZJ g];refine YH ?_
 first | refine YH (ZW a.typeIs (YR ?_)) | refine YH (Aa6 a.typeIs (YR ?_))
 refine YH (wpAny_isOneOf_keyiter a.typeIs ?_);refine YH (m:=setField (.ref it) 1 (rawInt ((i:Int)+1))) (wpAny_setField f hd (by simp) ?_)
 have b:(s.heap.update it (Obj.mapFields (·.setIfInBounds 1 (rawInt ((i:Int)+1))))).IsKeyIter it d (i+1) es.size ep:=
  ⟨_,Zo _ f (Obj.isFreed_of_fields (Obj.data_mapFields hd _)),(Obj.cls_mapFields ..).trans h,by rw[Obj.data_mapFields hd];simp[rawInt]⟩
 refine YH (Z2 ?_);refine YH (wpAny_isOneOf_keyiter (s:={s with heap:=s.heap.update it (Obj.mapFields (·.setIfInBounds 1 (rawInt ((i:Int)+1))))}) b.typeIs ?_);exact YR (YR ⟨_,rfl,YR (j _ b (Ac8 ..))⟩)
def tH{Q:Option Value->Shared->Prop}(h:A.handled=none)(c:s.heap.IsKeyIter it d es.size es.size ep)(x:RawD s.heap d es ep)
 (i:∀h',Heap.ExtBut it s.heap h'->Q none {s with heap:=h'}):wpAny (model prog w) A (pyNext (.ref it)) Q E s:=by
 obtain⟨o,g,k,hd⟩:=id c;obtain⟨j,e,_,f⟩:=id x;unfold pyNext;refine wpAny_bind (wpAny_attempt (wpAny_callSpecial?_slot (name:=Str.ofString "__next__") c.typeIs PySem.F.slot_dict_keyiterator_next (wpAny_call_entry PySem.F.slot_dict_keyiterator_next c.typeIs PySem.F.entry_dict_keyiterator_next ?_ (PySem.F.args_dict_keyiterator_next_1 _))));refine wpAny_bind (wpAny_pure (wpAny_bind (wpAny_bind ?_)))
 first | refine YH (ZW c.typeIs (YR ?_)) | refine YH (Aa6 c.typeIs (YR ?_))
 refine YH (wpAny_fieldsOf g hd ?_);simp only[show Builtin.Dict_items.ownsTuple "dict_keyiterator" = false from by decide,Ab4,Af6];show wpAny _ _ (if (Value.ref d==Value.none)=true then _ else _) _ _ s;rw[on (show ¬ ((Value.ref d==Value.none)=true) from YW)];refine YH (YR (YH (Aa3 e f ?_)));rw[on (by simp)];refine YH (YR (YH (Aj0 e f ?_)));rw[on (by simp)];refine YR ?_;simp only[show ¬ ((es.size:Int)<0) from by omega,Af6,Int.toNat_natCast,Array.getElem?_eq_none (YY _)];refine YH ?_
 first | refine YH (ZW c.typeIs (YR ?_)) | refine YH (Aa6 c.typeIs (YR ?_))
 refine YH (m:=setField (.ref it) 0 .none) (wpAny_setField g hd (by simp) ?_);refine YH (m:=newExc (.type "StopIteration") []) ?_;simp only[newExc,newTuple];refine YH (Ag4 ?_ (by size_fits));refine YH (m:=firstArgMember _ _) (wpAny_of_eq (a:=Value.none) (by first | rfl | (simp only[firstArgMember];rfl)) ?_);refine Ag4 ?_ (by size_fits);simp only[raiseNew];refine YH (wpAny_handled ?_);rw[show A.in1.handled=none from h];refine YH (YR (wpAny_throw ?_));refine YH (wpAny_isInstance (T := "StopIteration") (b:=true) ⟨_,Y4 _ rfl,rfl⟩ isSubtype_stop ?_);exact YR (i _ (((Ac8 ..).extBut.push _).push _))
def Cr(n:A.handled=none)(I d:Addr)(k:d≠I)(es:Array DictEntry)(ep:Nat):
 Walks prog w A I [I,d] [I] es.size (λi v=>∃e,es[i]?=some e/\v=e.key) (λi h=>h.IsKeyIter I d i es.size ep/\RawD h d es ep) where
 sub:=λb f=>by
  have e:b=I:=by simpa using f
  rw[e];exact YK
 frame:=λ_ _ _ st m=>⟨st.1.at λo e=>m I (by simp) o e,let ⟨o,j,r⟩:=st.2;⟨o,m d (by simp) o j,r⟩⟩
 item:=λi s Q E hi st g=>nM st.1 st.2 hi λh' c a=>by
  obtain⟨o,j,r⟩:=st.2;exact g _ h' s.toks ⟨es[i],ZJ hi,rfl⟩ ⟨c,o,a.extBut d o k j,r⟩ λb o f e=>a.extBut b o (λz=>f (by simp[z])) e
 done:=λs Q E st g=>tH n st.1 st.2 λh' l=>g h' s.toks λb o f e=>l b o (λz=>f (by simp[z])) e
 self:=λ_ _ _ _ st g=>wpAny_pyIter_keyiter st.1 g
def Km(lo:(d==sysModules)=false):PySem.W.KdlSrc prog w "dict" d d es.size (λi v=>∃e,es[i]?=some e/\v=e.key) (λh=>RawD h d es ep) where
 type:=λ_ x=>x.typeIs
 there:=λ_ x=>let ⟨_,a,_⟩:=x;⟨YV a,YV a⟩
 keep:=λ_ _ x c=>let ⟨o,a,r⟩:=x;⟨o,c d (.inl rfl) o a,r⟩
 notList:=by decide
 notTuple:=by decide
 hint:=λ_ _ _ _ x b=>PySem.W.kdl_hint_dict x.typeIs b
 iter:=λ_ _ f x=>⟨_,_,(λ_ _ b=>nL lo x b),Cr f _ d (let ⟨_,a,_⟩:=x;Zg (YV a)) es ep,⟨⟨_,Y4 _ rfl,rfl,rfl⟩,let ⟨o,a,r⟩:=x;⟨o,YN _ a,r⟩⟩⟩
end
def lX{x:List aH×Addr×Value}:(entryOfKey (tupleKind (au P w)) x).key=.ref x.2.1:=rfl
def zD{X:Cx}(hc:X.calm=true):cQ X (.type "list") (λxs H Q=>∃a kvs,xs=[.ref a]/\Rd H a (.dT kvs)/\
 ∀(K:List Addr) (l:Addr),K.length=kvs.length->(∀(i:Nat) k v b,kvs[i]?=some (k,v)->K[i]?=some b->H b=some (.tup (k.map kV)))->H l=none->Q (.ref l) (upd H l (.lst (K.map V.ref)))):=by
 intro G s Z H xs us Q I r h;obtain⟨a,kvs,rfl,ha,q⟩:=h;obtain⟨u,rfl,O⟩:=Vals.one r;have F:u=Value.ref a:=O;subst F;obtain⟨z,hd,g,A,o,M,ep,T,R,E,C,U⟩:=(show ObjOk X.prog X.w H s.heap a (.dT kvs) from ha.ok I.hok);have d:kvs.length=g.length:=ZU A
 have j:M.size=g.length:=by
  have e:=congrArg List.length C
  rwa [YJ,Zq]at e
 refine PySem.W.kdl_call (Km hd) (I.ok.hd hc) ⟨o,T,R,E⟩ (by rw[j,<-d];exact z) λh' tk c c' kp hD f=>?_
 have keys:c.toList=(g.map λy=>y.2.1).map Value.ref:=by
  apply Ag5;intro i;rw[Y5,Y5];cases n:g[i]? with
  |none=>
    have hi:g.length<=i:=Aa0.mp n;rw[Y8 (by rw[Zq,f.1];omega)];rfl
  |some y=>
    have hi:i<g.length:=(Y2.mp n).1;have B:i<c.size:=by rw[f.1,j];exact hi
    obtain⟨e,Y,S⟩:=f.2 i c[i] (ZJ B);have D:M.toList[i]?=some e:=by rw[Z8];exact Y
    rw[C,Y5,n]at D;have ee:entryOfKey (tupleKind (au X.prog X.w)) y=e:=Y6 D;rw[Z8,ZJ B,S,<-ee,lX];rfl
 have N:∀l:List Addr,Vals (l.map V.ref) (l.map Value.ref):=λl=>by
  induction l with
  |nil=>exact .nil
  |cons x t L=>exact .cons rfl L
 refine⟨.ref s.heap.objs.size,_,I.laid kp (YY _) ?_,rfl,q (g.map λy=>y.2.1) _ (by rw[YJ];exact d.symm) (λi k v b e1 m=>?_) (I.hok.fresh (YY _))⟩
 ·refine⟨by rw[YJ,YJ,<-d];exact z,c.toList,c',by rw[keys];exact N _,?_⟩;rw[Array.toArray_toList];exact hD
 · rw[Y5]at m;cases n:g[i]? with
   |none=>rw[n]at m;cases m
   |some y=>
     rw[n]at m;have eb:y.2.1=b:=Y6 m
     have P:∀{J:List (List aH×V)} {l2:List (List aH×Addr×Value)},Paired (λ(p:List aH×V) (q:List aH×Addr×Value)=>p.1=q.1/\H q.2.1=some (.tup (p.1.map kV))/\RelV p.2 q.2.2) J l2->
      ∀{i:Nat} {p q},J[i]?=some p->l2[i]?=some q->H q.2.1=some (.tup (p.1.map kV)):=by
      intro J l2 hp
      induction hp with
      |nil=>intro i p q e;cases e
      |cons h1 _ L=>
        intro i p q e1 m;cases i with
        |zero=>cases e1;cases m;exact h1.2.1
        |succ i=>exact L e1 m
     rw[<-eb];exact P A e1 n
end L2
namespace HT
open PySem PyProof.Rows
open PySem.SeqAt
open PySem.AutoSeq1 (wpAny_loadPart')
open PySem.MeetsSeq PySem.MeetsSeq2 PySem.MeetsSeq3 PySem.SeqRoads2
def LtAt(A:Around)(s:Shared)(y x:Value)(b:Bool):Prop:=
 ∀(prog:Program) (w:World) (E:LV) (Q:LV),Q (.bool b) s->wpAny (model prog w) A (richCompare .Lt y x) Q E s
def gR(p:Nat->Bool×Bool)(t:Bool):Nat->Nat->Bool
 |0,_=>t
 |k+1,i=>if (p i).1=true then gR p t k (i+1) else (p i).2
def yH(l b:Addr)(items items2:Array Value)(n n2:Nat)(dd dd2:Option Addr)(sl sl2:Array (Option Value))(p:Nat->Bool×Bool)(k:Nat):
 ∀i:Nat,min items.size items2.size-i=k->i<=min items.size items2.size->Meets (Builtin.«list.__eq__.loop» ⟨[.ref l,.ref b,rawInt i,rawInt 0],[]⟩)
  (λA R s=>s.heap.get? l=some {cls:=.type "list",dict:=dd,data:=.seq items n,slots:=sl}/\s.heap.get? b=some {cls:=.type "list",dict:=dd2,data:=.seq items2 n2,slots:=sl2}/\
    (∀j (h1:j<items.size) (h2:j<items2.size),EqAt A.in1 s items[j] items2[j] (p j).1/\((p j).1=false->LtAt A.in1 s items[j] items2[j] (p j).2))/\
    R (.ok (.ret (.bool (gR p (decide (items.size<items2.size)) k i)))) s):=by
 induction k with
 |zero=>
   intro i hk hi prog w A R s h;obtain⟨hp,g,d,tk,os⟩:=s;obtain⟨hl,hb,he,h⟩:=h
   wp_walk using wpAny_loadPart' hl,wpAny_loadPart' hb
   by_cases hlt:i<items.size
   · have hi1:items[((i:Nat):Int).toNat]?=some items[i]:=by simp[hlt]
     have hi2:items2[((i:Nat):Int).toNat]?=none:=by simp;omega
     rw[hi1,hi2]
     wp_walk using wpAny_loadPart' hl,wpAny_loadPart' hb
     exact h
   · have hi1:items[((i:Nat):Int).toNat]?=none:=by simp;omega
     rw[hi1]
     wp_walk using wpAny_loadPart' hl,wpAny_loadPart' hb
     exact h
 |succ k ih=>
   intro i hk hi prog w A R s h;obtain⟨hp,g,d,tk,os⟩:=s;obtain⟨hl,hb,he,h⟩:=h
   wp_walk using wpAny_loadPart' hl,wpAny_loadPart' hb
   have hlt:i<items.size:=by omega
   have hlt2:i<items2.size:=by omega
   have hi1:items[((i:Nat):Int).toNat]?=some items[i]:=by simp[hlt]
   have hi2:items2[((i:Nat):Int).toNat]?=some items2[i]:=by simp[hlt2]
   have hc:((i:Int)+1)=((i+1:Nat):Int):=by push_cast;rfl
   rw[hi1,hi2];obtain⟨e1,e2⟩:=he i hlt hlt2;refine YH (e1 prog w _ _ ?_);cases hb':(p i).1 with
   |true=>
     rw[gR,hb',YG rfl]at h
     wp_walk
     rw[hc]
     exact⟨Aa5 plain_eq_loop _,Aa2 entry_eq_loop (by
      rw[ZN plain_eq_loop _]
      exact ih (i+1) (by omega) (by omega) prog w A R _ ⟨hl,hb,he,h⟩)⟩
   |false=>
     rw[gR,hb',on YW]at h
     wp_walk using wpAny_loadPart' hl,wpAny_loadPart' hb
     rw[hi1,hi2];have e3:=e2 hb' prog w
     wp_walk using e3
     exact h
def CZ(l b:Addr)(items items2:Array Value)(n n2:Nat)(dd dd2:Option Addr)(sl sl2:Array (Option Value))(p:Nat->Bool×Bool):
 Meets (Builtin.«list.__lt__» ⟨[.ref l,.ref b],[]⟩)
  (λA R s=>s.heap.get? l=some {cls:=.type "list",dict:=dd,data:=.seq items n,slots:=sl}/\s.heap.get? b=some {cls:=.type "list",dict:=dd2,data:=.seq items2 n2,slots:=sl2}/\
    (∀j (h1:j<items.size) (h2:j<items2.size),EqAt A.in1 s items[j] items2[j] (p j).1/\((p j).1=false->LtAt A.in1 s items[j] items2[j] (p j).2))/\
    R (.ok (.ret (.bool (gR p (decide (items.size<items2.size)) (min items.size items2.size) 0)))) s):=by
 intro prog w A R s h;obtain⟨hp,g,d,tk,os⟩:=s;obtain⟨hl,hb,he,h⟩:=h;have f3:=AutoSeq1.sub_list_list
 wp_walk using wpAny_loadPart' hl,wpAny_loadPart' hb
 exact⟨Aa5 plain_eq_loop _,Aa2 entry_eq_loop (by
  rw[ZN plain_eq_loop _]
  exact yH l b items items2 n n2 dd dd2 sl sl2 p _ 0 rfl (Z3 _) prog w A R _ ⟨hl,hb,he,h⟩)⟩
def LtAt.int_int(a:Int)(t:Tok)(c:Int)(u:Tok):LtAt A s (.int a t) (.int c u) (decide (a<c)):=λprog w E Q h=>EZ A s a t c u prog w E Q h
def LtAt.lists{A:Around}{s:Shared}{c a:Array Value}{p:Nat->Bool×Bool}(u:s.heap.IsList l c)(y:s.heap.IsList b a)(t:A.units<cLine)
 (v:∀j (B:j<c.size) (z:j<a.size),EqAt A.in1 s c[j] a[j] (p j).1/\((p j).1=false->LtAt A.in1 s c[j] a[j] (p j).2)):
 LtAt A s (.ref l) (.ref b) (gR p (decide (c.size<a.size)) (min c.size a.size) 0):=λprog w E Q h=>by
 obtain⟨⟨cls,dd,data,q⟩,k,m,n,hd⟩:=id u;obtain⟨⟨o,i,data2,g⟩,d,f,r,e⟩:=id y;simp only at m hd f e;subst m hd f e
 exact richCompare_meets_room (op:= .Lt) ⟨_,k,rfl⟩ ⟨_,d,rfl⟩ PySem.F.slot_list_lt PySem.F.entry_list_lt (PySem.F.args_list_lt_2 _ _) (CZ l b c a n r dd i q g p)
  ⟨k,d,v,show Value.bool (gR p (decide (c.size<a.size)) (min c.size a.size) 0)≠Value.notImplemented/\Q (.bool (gR p (decide (c.size<a.size)) (min c.size a.size) 0)) s from⟨(λx=>nomatch x),h⟩⟩ t
def rT:∀(ns M:List Int) (i:Nat) (f:Nat->Bool×Bool) (t:Bool),(∀j,j<min ns.length M.length->f (i+j)=(decide (ns.getD j 0=M.getD j 0),decide (ns.getD j 0<M.getD j 0)))->t=decide (ns.length<M.length)->
 gR f t (min ns.length M.length) i=fT ns M
 |[],[],i,f,t,h,e=>by rw[e];rfl
 | [],m::M,i,f,t,h,e=>by
   rw[e];show decide (0<(m::M).length)=true;simp
 | n::ns,[],i,f,t,h,e=>by
   rw[e];show decide ((n::ns).length<0)=false;simp
 | n::ns,m::M,i,f,t,h,e=>by
   have e1:min (n::ns).length (m::M).length=min ns.length M.length+1:=by
    rw[YO,YO];omega
   rw[e1,gR,fg];have h0:=h 0 (by rw[e1];omega);rw[Nat.add_zero]at h0;have a:f i=(decide (n=m),decide (n<m)):=h0;rw[a];by_cases q:n=m
   · rw[YG (by simpa using q),YG q]
     exact rT ns M (i+1) f t (λj b=>by
      have:=h (j+1) (by rw[e1];omega)
      rw[show i+1+j=i+(j+1) by omega,this]
      rfl) (by rw[e];simp)
   ·rw[on (by simpa using q),on q]
def kK(a b:Int)(xs:List Int)(c d:Int)(e:List Int):Bool:=if a=c then (if b=d then fT xs e else decide (b<d)) else decide (a<c)
def xS(l b:Addr)(items items2:Array Value)(n n2:Nat)(dd dd2:Option Addr)(sl sl2:Array (Option Value))(p:Nat->Bool×Bool):
 Meets (Builtin.«tuple.__lt__» ⟨[.ref l,.ref b],[]⟩)
  (λA R s=>s.heap.get? l=some {cls:=.type "tuple",dict:=dd,data:=.seq items n,slots:=sl}/\s.heap.get? b=some {cls:=.type "tuple",dict:=dd2,data:=.seq items2 n2,slots:=sl2}/\
    (∀j (h1:j<items.size) (h2:j<items2.size),EqAt A.in1 s items[j] items2[j] (p j).1/\((p j).1=false->LtAt A.in1 s items[j] items2[j] (p j).2))/\
    R (.ok (.ret (.bool (gR p (decide (items.size<items2.size)) (min items.size items2.size) 0)))) s):=
 .of_wp λprog w A R s h=>by
  obtain⟨hp,g,d,tk,os⟩:=s;obtain⟨hl,hb,he,h⟩:=h;have f2:=AutoSeq1.sub_tuple_tuple;have zl:(items.toList.zip items2.toList).length=min items.size items2.size:=by rw[List.length_zip,Zq,Zq]
  wp_walk using wpAny_loadPart' hl,wpAny_loadPart' hb,wpAny_forIn_list _ (λbf b s'=>b.1=none/\s'=⟨hp,g,d,tk,os⟩/\∃i,i<=min items.size items2.size/\bf=(items.toList.zip items2.toList).drop i/\
   R (.ok (.ret (.bool (gR p (decide (items.size<items2.size)) (min items.size items2.size-i) i)))) ⟨hp,g,d,tk,os⟩) _
  case turn=>
   rintro⟨y,x⟩ bf b s' ⟨hb',rfl,i,hi,hz,hR⟩
   have hlt:i<min items.size items2.size:=by
    rcases Nat.lt_or_ge i (min items.size items2.size) with q|q
    ·exact q
    ·rw[Ai5 (by rw[zl];exact q)]at hz;cases hz
   have h1:i<items.size:=by omega
   have h2:i<items2.size:=by omega
   rw[Ac6 (by rw[zl];exact hlt)]at hz;injection hz with hyx hrest
   rw[List.getElem_zip,Array.getElem_toList,Array.getElem_toList]at hyx;injection hyx with hy hx
   subst hy hx;obtain⟨e1,e2⟩:=he i h1 h2;rw[show min items.size items2.size-i=(min items.size items2.size-(i+1))+1 by omega,gR]at hR;refine YH (e1 prog w _ _ ?_);cases eb:(p i).1 with
   |true=>
     rw[eb,YG rfl]at hR
     wp_walk
     exact⟨rfl,rfl,i+1,by omega,hrest,hR⟩
   |false=>
     rw[eb,on YW]at hR;have e3:=e2 eb prog w
     wp_walk using e3
     exact⟨_,rfl,by simpa using hR⟩
  case fin=>
   rintro⟨b1,b2⟩ s' ⟨hb',rfl,i,hi,hz,hR⟩;simp only at hb';subst hb'
   have hge:min items.size items2.size<=i:=by
    rcases Nat.lt_or_ge i (min items.size items2.size) with q|q
    ·rw[Ac6 (by rw[zl];exact q)]at hz;cases hz
    ·exact q
   rw[show min items.size items2.size-i=0 by omega,gR]at hR
   wp_walk
   exact⟨_,rfl,by simpa [Builtin.Tuple.tupleCompareSizes] using hR⟩
  case h=>
   exact⟨rfl,rfl,0,Z3 _,rfl,h⟩
def LtAt.tuples{A:Around}{s:Shared}{c a:Array Value}{p:Nat->Bool×Bool}(u:s.heap.IsTuple l c)(y:s.heap.IsTuple b a)(t:A.units<cLine)
 (v:∀j (B:j<c.size) (z:j<a.size),EqAt A.in1 s c[j] a[j] (p j).1/\((p j).1=false->LtAt A.in1 s c[j] a[j] (p j).2)):
 LtAt A s (.ref l) (.ref b) (gR p (decide (c.size<a.size)) (min c.size a.size) 0):=λprog w E Q h=>by
 obtain⟨⟨cls,dd,data,q⟩,k,m,n,hd⟩:=id u;obtain⟨⟨o,i,data2,g⟩,d,f,r,e⟩:=id y;simp only at m hd f e;subst m hd f e
 exact richCompare_meets_room (op:= .Lt) ⟨_,k,rfl⟩ ⟨_,d,rfl⟩ PySem.F.slot_tuple_lt PySem.F.entry_tuple_lt (PySem.F.args_tuple_lt_2 _ _) (xS l b c a n r dd i q g p)
  ⟨k,d,v,show Value.bool (gR p (decide (c.size<a.size)) (min c.size a.size) 0)≠Value.notImplemented/\Q (.bool (gR p (decide (c.size<a.size)) (min c.size a.size) 0)) s from⟨(λx=>nomatch x),h⟩⟩ t
end HT
namespace L2
open PySem PySem.Spec PyProof.Rows
def jN:∀xs:List Int,HT.fT xs xs=false
 |[]=>rfl
 |x::xs=>by rw[HT.fg,YG rfl,jN xs]
def Room.u100{A:Around}(r:Room k A):A.units+100<cLine:=by have:=r.un;omega
section
variable{X:Cx}{G:L9}{Z:St}{H:Hp}{s:Shared}
def C7{A:Around}{ns M:List Int}(I:Inv X G Z H s)(k:SqL X.K H a (ns.map V.int))(h:SqL X.K H b (M.map V.int))(r:A.units+64<cLine):
 SeqAt.EqAt A s (.ref a) (.ref b) (decide (ns=M))/\HT.LtAt A s (.ref a) (.ref b) (HT.fT ns M):=by
 constructor
 ·obtain⟨as,o⟩:=den_reads I _ (v9 k) (show RelV (.ref a) (.ref a) from rfl);obtain⟨bs,n⟩:=den_reads I _ (v9 h) (show RelV (.ref b) (.ref b) from rfl);rw[<-HQ];exact SeqAt.eqAt_reads _ _ A s _ _ as bs o n (Ab5 (Ae6 ns)) (Ab5 (Ae6 M)) (SeqAt.room_of_shaped (Ae6 ns) r)
 · obtain⟨its,g,pl,_⟩:=I.list k;obtain⟨c,d,f,_⟩:=I.list h;have q:its.toArray.size=ns.length:=by rw[YZ,<-g.length,YJ]
   have l2:c.toArray.size=M.length:=by rw[YZ,<-d.length,YJ]
   have e:=HT.LtAt.lists (A:=A) (p:=λj=>(decide (ns.getD j 0=M.getD j 0),decide (ns.getD j 0<M.getD j 0))) pl.isList f.isList (by omega) (λj m l=>?_)
   ·rw[q,l2,HT.rT ns M 0 _ _ (λj _=>by rw[Nat.zero_add]) rfl]at e;exact e
   · obtain⟨t,e1⟩:=dP g (i:=j) (u:=its.toArray[j]) (by simp at m;simp[m]);obtain⟨u,v⟩:=dP d (i:=j) (u:=c.toArray[j]) (by simp at l;simp[l]);rw[e1,v];refine⟨?_,λ_=>HT.LtAt.int_int _ _ _ _⟩
     have:=SeqAt.EqAt.int_int (A:=A.in1) (s:=s) (ns.getD j 0) t (M.getD j 0) u
     rwa [show(ns.getD j 0==M.getD j 0)=decide (ns.getD j 0=M.getD j 0) from Ad9 _ _]at this
def OW(K:F0):R2:=λx y H Q=>∃(p q:Addr) (a b c d:Int) (l m:Addr) (xs e:List Int),x=.ref p/\y=.ref q/\SqT K H p [.int a,.int b,.ref l]/\SqT K H q [.int c,.int d,.ref m]/\SqL K H l (xs.map V.int)/\SqL K H m (e.map V.int)/\
 Q (.bl (HT.kK a b xs c d e)) H
def G1{A:Around}{xs g:List Int}(P:A.units+100<cLine)(I:Inv X G Z H s)(hp:SqT X.K H p [.int a,.int b,.ref l])(M:SqT X.K H q [.int c,.int d,.ref m])(O:SqL X.K H l (xs.map V.int))(N:SqL X.K H m (g.map V.int)):
 HT.LtAt A s (.ref p) (.ref q) (HT.kK a b xs c d g):=by
 obtain⟨its,h,C,_⟩:=I.tuple hp;obtain⟨x,f,B,_⟩:=I.tuple M;cases h with|cons J h=>cases h with|cons F h=>cases h with|cons E h=>
 cases h;cases f with|cons rc f=>cases f with|cons rd f=>cases f with|cons D f=>
 cases f;obtain⟨ta,rfl⟩:=J;obtain⟨tb,rfl⟩:=F;obtain⟨tc,rfl⟩:=rc;obtain⟨w,rfl⟩:=rd;obtain rfl:_=Value.ref l:=E;obtain rfl:_=Value.ref m:=D;have r:A.in1.units+64<cLine:=by show A.units+1+64<cLine;omega
 obtain⟨el,L⟩:=C7 (A:=A.in1) I O N r
 have z:∀(i j:Int) (t u:Tok),SeqAt.EqAt A.in1 s (.int i t) (.int j u) (decide (i=j)):=λi j t u=>by
  have:=SeqAt.EqAt.int_int (A:=A.in1) (s:=s) i t j u
  rwa [show(i==j)=decide (i=j) from Ad9 _ _]at this
 have o:=HT.LtAt.tuples (A:=A) (s:=s) (p:=λj=>if j=0 then (decide (a=c),decide (a<c)) else if j=1 then (decide (b=d),decide (b<d)) else (decide (xs=g),HT.fT xs g)) C B (by omega) (λj k n=>by
  have v:j<3:=k
  match j,v with
  |0,_=>exact⟨z a c ta tc,λ_=>HT.LtAt.int_int a ta c tc⟩
  |1,_=>exact⟨z b d tb w,λ_=>HT.LtAt.int_int b tb d w⟩
  |2,_=>exact⟨el,λ_=>L⟩)
 have e:HT.gR (λj=>if j=0 then (decide (a=c),decide (a<c)) else if j=1 then (decide (b=d),decide (b<d)) else (decide (xs=g),HT.fT xs g)) (decide (3<3)) 3 0=HT.kK a b xs c d g:=by
  simp only[HT.gR,HT.kK];by_cases k:a=c
  · by_cases n:b=d
    · by_cases y:xs=g
      ·subst y;simp[k,n,jN]
      ·simp[k,n,y]
    ·simp[k,n]
  ·simp[k]
 exact e▸o
def Qg(j:X.A.units+100<cLine):jt X (compareOp .Lt) (OW X.K):=by
 intro G s Z H x y v u Q I i g h;obtain⟨p,q,a,b,c,d,l,m,xs,t,rfl,rfl,hp,n,r,o,k⟩:=h;have f:v=Value.ref p:=i;have e:u=Value.ref q:=g;subst f e;exact G1 j I hp n r o X.prog X.w X.xe _ ⟨.bl _,H,I,rfl,k⟩
end
end L2
namespace Gd
open PySem L2
def Tc:bootBuiltins "len" = some (.builtin "len"):=by decide +kernel
def Ta:bootBuiltins "min" = some (.builtin "min"):=by decide +kernel
def Tb:bootBuiltins "max" = some (.builtin "max"):=by decide +kernel
def q8:bootBuiltins "isinstance" = some (.builtin "isinstance"):=by decide +kernel
def S9:bootBuiltins "set" = some (.type "set"):=by decide +kernel
def Mg:bootBuiltins "list" = some (.type "list"):=by decide +kernel
def Jc:bootBuiltins "tuple" = some (.type "tuple"):=by decide +kernel
def Mh:bootBuiltins "bool" = some (.type "bool"):=by decide +kernel
def Td:bootBuiltins "int" = some (.type "int"):=by decide +kernel
def va{H:Hp}(h:H q=none)(e:Same H H'):Same H (upd H' q o):=λb u z=>by
 rw[aq (aT z h)];exact e b u z
def b9{H:Hp}(h:H q=none):Same H (upd H q o):=va h (Same.refl H)
def eI(e:PySem.Expr):Scope:=match e with
 |.ListComp _ _ sc _=>sc
 |_=>{kind:=.function,names:=[],isGenerator:=false,isCoroutine:=false,more:=[]}
def km(s:Stmt):PySem.Expr:=match s with
 |.Assign _ v _=>v
 |.Return (some v) _=>v
 |.Expr v _=>v
 |.For _ a _ _ _=>a
 |.If t _ _ _=>t
 |_=> .Constant .none 0 ⟨0,0,0,0⟩
def Ec(s:Stmt):List Stmt:=match s with
 |.For _ _ b _ _=>b
 |.If _ b _ _=>b
 |.While _ b _ _=>b
 |_=>[]
def nth(l:List Stmt)(i:Nat):Stmt:=l.getD i (.Pass ⟨0,0,0,0⟩)
abbrev AL:=List (List Int×Int)
abbrev kI(k:List Int):List aH:=k.map Sum.inl
def aP(D:AL):List (List aH×V):=D.map λp=>(kI p.1,V.int p.2)
def look(D:AL)(k:List Int):Option Int:=(D.find? λp=>decide (p.1=k)).map (·.2)
end Gd
namespace HR
open PySem MeetsSeq
def tG(l:Addr)(items:Array Value)(n:Nat)(x:Value)(e:Nat->Bool)(j:Nat)(hj:j<items.size)(hit:e j=true)(hs1:items.size<=sizeLine)(k:Nat):
 ∀i:Nat,j-i=k->i<=j->(∀m,i<=m->m<j->e m=false)->Meets (Builtin.«list.remove.loop» ⟨[.ref l,x,rawInt i],[]⟩)
  (λA R s=>s.heap.get? l=some {cls:=.type "list",dict:=none,data:=.seq items n,slots:=#[]}/\(∀m (h:m<items.size),m<=j->SeqAt.EqAt A.in1 s items[m] x (e m))/\
    R (.ok (.ret .none)) {s with heap:=s.heap.update l (Obj.mapSeq λxs=>xs.eraseIdxIfInBounds j)}):=by
 induction k with
 |zero=>
   intro i hk hij hno prog w A R s h;obtain⟨hp,g,d,tk,os⟩:=s;obtain⟨hl,he,h⟩:=h;have hij':i=j:=by omega
   subst hij'
   wp_walk using wpAny_loadPart' hl
   have hi:items[((i:Nat):Int).toNat]?=some items[i]:=by simp[hj]
   rw[hi];refine YH (he i hj (YY _) prog w _ _ ?_);rw[hit];have hz':(items.eraseIdxIfInBounds i).size<=sizeLine+1:=Ze (size_erased items _) (Ag6 hs1)
   wp_walk using(wpAny_updateSeq hl rfl (hz:=hs1) (_hz':=hz')),wpAny_loadPart' hl
   simpa using h
 |succ k ih=>
   intro i hk hij hno prog w A R s h;obtain⟨hp,g,d,tk,os⟩:=s;obtain⟨hl,he,h⟩:=h;have hlt:i<items.size:=by omega
   wp_walk using wpAny_loadPart' hl
   have hi:items[((i:Nat):Int).toNat]?=some items[i]:=by simp[hlt]
   have hc:((i:Int)+1)=((i+1:Nat):Int):=by push_cast;rfl
   rw[hi];refine YH (he i hlt hij prog w _ _ ?_);rw[hno i (YY _) (by omega)]
   wp_walk
   rw[hc]
   exact⟨Aa5 plain_remove_loop _,Aa2 entry_remove_loop (by
    rw[ZN plain_remove_loop _]
    exact ih (i+1) (by omega) (by omega) (λm h1 h2=>hno m (by omega) h2) prog w A R _ ⟨hl,he,h⟩)⟩
def tT(l:Addr)(items:Array Value)(n:Nat)(x:Value)(e:Nat->Bool)(j:Nat)(hj:j<items.size)
 (hit:e j=true) (hno:∀m,m<j->e m=false) (hs1:items.size<=sizeLine):
 Meets (Builtin.«list.remove» ⟨[.ref l,x],[]⟩)
  (λA R s=>s.heap.get? l=some {cls:=.type "list",dict:=none,data:=.seq items n,slots:=#[]}/\(∀m (h:m<items.size),m<=j->SeqAt.EqAt A.in1 s items[m] x (e m))/\
    R (.ok (.ret .none)) {s with heap:=s.heap.update l (Obj.mapSeq λxs=>xs.eraseIdxIfInBounds j)}):=by
 intro prog w A R s h;obtain⟨hp,g,d,tk,os⟩:=s;obtain⟨hl,he,h⟩:=h
 wp_walk using wpAny_loadPart' hl
 exact⟨Aa5 plain_remove_loop _,Aa2 entry_remove_loop (by
  rw[ZN plain_remove_loop _]
  exact tG l items n x e j hj hit hs1 _ 0 rfl (Z3 _) (λm _ h2=>hno m h2) prog w A R _ ⟨hl,he,h⟩)⟩
end HR
namespace L2
open PySem PySem.Spec PyProof.Rows
def mQ{W X:Type}[DecidableEq W]{k:W}:∀{xs:List (W×X)},k∉xs.map (·.1)->(xs.filter λx=>decide (x.1≠k))=xs
 |[],_=>rfl
 | x::r,h=>by
   rw[YI,YS,not_or]at h;rw[ZM,YG (by simpa using Aa7 h.1),mQ h.2]
def gY{W X:Type}[DecidableEq W]{k:W}:∀{xs:List (W×X)} {j:Nat} {p:X},(xs.map (·.1)).Nodup->xs[j]?=some (k,p)->xs.eraseIdx j=xs.filter λx=>decide (x.1≠k)
 |[],j,p,_,h=>by simp at h
 | x::r,0,p,a,h=>by
   simp at h;subst h;rw[YI,Y7]at a;rw[ZM,on (by simp),mQ a.1];rfl
 | x::r,j+1,p,a,h=>by
   rw[YI,Y7]at a;have h':r[j]?=some (k,p):=by simpa using h
   have:x.1≠k:=λz=>a.1 (by rw[z];exact Y9.mpr ⟨(k,p),ZF h',rfl⟩)
   rw[ZM,YG (by simpa using this),Zv,gY a.2 h']
def lS{W X:Type}{f:W->X}:∀{l:List W} {j:Nat},(l.map f).eraseIdx j=(l.eraseIdx j).map f
 |[],_=>rfl
 |_::_,0=>rfl
 |x::r,j+1=>by rw[YI,Zv,Zv,YI,lS]
def KT.drop{xs:List (List aH×Addr×Value)}(r:KT H kvs xs)(k:List aH):KT H (dZ kvs k) (xs.filter λx=>decide (x.1≠k)):=by
 induction r with
 |nil=>exact .nil
 |@cons p q ps b h t a=>
   unfold dZ at a ⊢;rw[List.filter_cons,List.filter_cons];by_cases e:p.1=k
   ·rw[on (by simp[e]),on (by simp[h.1.symm.trans e])];exact a
   ·rw[YG (by simpa using e),YG (by simpa using λz=>e (h.1.trans z))];exact .cons h a
section
variable{X:Cx}{G:L9}{Z:St}{H:Hp}{s:Shared}{a b:Addr}{kvs:List (List aH×V)}{k:List aH}{v:V}{A:Around}{E:LV}
def Sb{Q:LV}(P:A.units+1<cLine)(I:Inv X G Z H s)(e:H a=some (.dT kvs))(U:H b=some (.tup (k.map kV)))(l:cJ kvs k=some v)
 (h:∀r M,Inv X G Z (upd H a (.dT (dZ kvs k))) M->RelV v r->Q r M):wpAny (model X.prog X.w) A (call (.builtin "dict.pop") [.ref a,.ref b]) Q E s:=by
 obtain⟨z,hd,xs,i,dd⟩:=H0 I.hok e;have hz:xs.length<=sizeLine:=by rw[<-ZU i];exact z
 have g:=dD I.hok U;have f:=tupleKind_room_in1 (knd:=au X.prog X.w) P;have N:=dd.typeIs;obtain⟨o,m,ep,n,T,d,x,K,u⟩:=dd;obtain⟨r,t,y⟩:=RelO.some_of (v:=v) (o:=(atKey xs k).map (·.2)) (by rw[<-l];exact i.val k);have S:m.size=xs.length:=size_of_entries x;refine wpAny_call_entry PySem.F.slot_dict_pop N PySem.F.entry_dict_pop ?_ (PySem.F.args_dict_pop_2 _ _);unfold Builtin.«dict.pop»;refine wpAny_bind ?_;unfold Builtin.Dict.keyAndDefault;refine wpAny_bind (wpAny_notOrdered_dict N ?_);show wpAny _ _ (pure (a,Value.ref b,none)) _ _ s;refine wpAny_pure ?_;dsimp only;rw[if_neg (by simp[keyPart])];refine wpAny_bind (wpAny_dictEntries n d ?_);refine wpAny_bind (wpAny_pure ?_)
 have D:m.isEmpty=false:=by
  cases q:m.isEmpty with
  |false=>rfl
  |true=>
    have:xs=[]:=by
     have e1:m.size=0:=by simpa using q
     exact Zi.mp (by omega)
    subst this;cases t
 rw[D,if_neg Bool.false_ne_true];refine wpAny_bind ?_;unfold Builtin.Dict.takeOut
 try with_reducible refine Z2 ?_
 refine YH ((tupleKind (au X.prog X.w)).pyHash f g ?_);refine YH (wpAny_dictFind_heap (knd:=tupleKind (au X.prog X.w)) (s:={s with toks:=s.toks+(tupleKind (au X.prog X.w)).draws k}) f g n d x K u ?_ ?_)
 ·intro C;rw[atKey_none_of_get C]at t;cases t
 · intro j p J;have hp:atKey xs k=some p:=atKey_of_get u J;rw[hp]at t;have B:p.2=r:=Y6 t;refine YH (Aa3 (s:={s with toks:=s.toks+(tupleKind (au X.prog X.w)).draws k}) n d ?_);rw[entry_at x j,J];refine YH (wpAny_updateDictKeys (hz:=by omega) (s:={s with toks:=s.toks+(tupleKind (au X.prog X.w)).draws k}) n d (YR ?_));rw[on (by simp)];refine YH (Ad2 (YR ⟨_,rfl,?_⟩));show Q p.2 _;rw[B];refine h r _ ?_ y;have R:=Ac8 s.heap a (Obj.mapDictKeys λm=>m.eraseIdxIfInBounds j);refine k9 (s:=s) (t':=s.toks+(tupleKind (au X.prog X.w)).draws k) I (by rw[e];exact True.intro) R ⟨_,Zo _ n (ZZ (Zx d _))⟩ ⟨Ze (oR kvs k) z,hd,_,(i.drop k).keeps λc V O=>?_,_,_,ep+1,Zo _ n (ZZ (Zx d _)),T.mapDictKeys _,Zx d _,?_,?_⟩
   ·rw[aq (FS O e (λz=>nomatch z))];exact O
   ·rw[<-gY u J];obtain⟨el⟩:=m;have L:el=xs.map (entryOfKey (tupleKind (au X.prog X.w))):=x;rw[ZR];show el.eraseIdx j=_;rw[L];exact lS
   ·exact(u.sublist ((List.filter_sublist).map _))
end
def v8{K:F0}:∀{ds:List PyData} {xs:List V} {m:Nat} {x:V},Dens K H ds xs->xs[m]?=some x->∃d,ds[m]?=some d/\Den K H d x
 | [],xs,m,x,h,e=>by
   rw[Dens]at h;subst h;cases e
 | d::ds,xs,m,x,h,e=>by
   rw[Dens]at h;obtain⟨y,r,rfl,b,a⟩:=h;cases m with
   |zero=>
     cases e;exact⟨d,rfl,b⟩
   |succ m=>exact v8 (m:=m) a e
def v7{K:F0}:∀{ds:List PyData} {xs:List V},Dens K H ds xs->ds.length=xs.length
 |[],xs,h=>by rw[Dens]at h;subst h;rfl
 | d::ds,xs,h=>by
   rw[Dens]at h;obtain⟨y,r,rfl,b,a⟩:=h;rw[YO,YO,v7 a]
def At(K:F0):V->List V->Hp->VK->Prop:=λx vs H Q=>∃l xs y d ds j,x=.ref l/\vs=[y]/\H l=some (.lst xs)/\Den K H d y/\Dens K H ds xs/\SeqAt.shaped d=true/\(∀z∈ds,SeqAt.shaped z=true)/\j<ds.length/\
 (∀m e,ds[m]?=some e->m<=j->PyData.eqv e d=decide (m=j))/\Q .non (upd H l (.lst (xs.eraseIdx j)))
def CO{X:Cx}(R:X.A.units+66<cLine):YB X "list.remove" (At X.K):=by
 intro G s Z H x vs v us Q I C D h;obtain⟨l,xs,y,d,ds,j,rfl,rfl,p,hd,b,B,a,T,k,q⟩:=h;cases C;obtain⟨u,rfl,E⟩:=D.one;obtain⟨z,its,n,r,S,e⟩:=I.lstM p;have P:=v7 b
 refine Ai3 Ag9 ⟨_,e,rfl⟩ PySem.F.entry_list_remove (PySem.F.args_list_remove_2 _ _)
  (HR.tT l its.toArray n u (λm=>decide (m=j)) j (by rw[YZ];omega) (by simp) (λm i=>by simpa using Zg i) (by rw[YZ];omega)) ⟨e,λm i f=>?_,?_⟩
 · have g:m<its.length:=by simpa using i
   have o:xs[m]?=some xs[m]:=Y1 (by omega);obtain⟨c,e1,O⟩:=v8 b o;obtain⟨w,t,J⟩:=r.get o
   have N:its.toArray[m]=w:=by
    rw[Y1 g]at t;simpa using t
   rw[N,<-k m c e1 f];obtain⟨as,M⟩:=den_reads I c O J;obtain⟨bs,L⟩:=den_reads I d hd E;exact SeqAt.eqAt_reads _ _ X.A.in1 s _ _ as bs M L (Ab5 (a c (ZF e1))) (Ab5 B) (SeqAt.room_of_shaped (a c (ZF e1)) (by show X.A.units+1+64<cLine;omega))
 · refine⟨.non,_,I.lset (its':=its.eraseIdx j) p e ?_ (r.eraseIdx j) ?_,rfl,q⟩
   ·show its.toArray.eraseIdxIfInBounds j=(its.eraseIdx j).toArray;rw[ZR]
   · have:=lV xs j
     omega
def xX(d ty:TE):TE:=λZ H Q=>d Z H λx H1=>∃a,x=.ref a/\Oi H1 a/\ty Z H1 λy c=>∃kvs k b v,c a=some (.dT kvs)/\y=.ref b/\c b=some (.tup (k.map kV))/\cJ kvs k=some v/\Q v (upd c a (.dT (dZ kvs k)))
def Fj{X:Cx}(C:X.A.units+1<cLine)(D:PE X o i)(E:PE X e ty)(m:M1 X o "pop" f e c):PE X (.Call (.Attribute o "pop" f) [e] [] c) (xX i ty):=by
 intro G s Z H Q I h;refine Ac1 m.base m.few m.line ZE Z7 Ad8 (br (D G s Z H _ I h) λu q ⟨x,H1,j,t,a,ex,d,z⟩=>?_);subst ex;obtain rfl:u=Value.ref a:=t;obtain⟨p,n,_⟩:=lZ j d;refine⟨p,n,?_⟩;rw[m.trees];refine ZI rfl (ZV (Zz (br (E G q Z H1 _ j z) λB P ⟨y,R,M,r,kvs,k,b,v,K,F,J,l,w⟩=>ZX ?_)));subst F;obtain rfl:B=Value.ref b:=r;exact Sb C M K J l λN O L g=>⟨v,_,L,g,w⟩
def nF:∀{bs:List Bool} {us:List Value} {i:Nat} {u:Value},Vals (bs.map V.bl) us->us[i]?=some u->u=.bool (bs.getD i false)
 | [],us,i,u,r,e=>by
   cases r;cases e
 | b::bs,us,i,u,r,e=>by
   rw[YI]at r;cases r with
   |cons c a=>
     cases i with
     |zero=>
       cases e;exact c
     |succ i=>
       show u=.bool (bs.getD i false);exact nF (bs:=bs) (i:=i) a (by simpa using e)
def nP(bs:List Bool):((List.range bs.length).any λi=>bs.getD i false)=bs.any id:=by
 induction bs with
 |nil=>rfl
 |cons b bs a=>
   rw[YO,List.range_succ_eq_map,Ab8,List.any_map,Ab8,<-a];rfl
def Dz{X:Cx}(w:X.calm=true):cQ X (.builtin "any") (λxs H Q=>∃p,∃bs:List Bool,xs=[.ref p]/\SqL X.K H p (bs.map V.bl)/\Q (.bl (bs.any id)) H):=by
 intro G s Z H xs us Q I r h;obtain⟨p,bs,rfl,t,q⟩:=h;obtain⟨u,rfl,l⟩:=Vals.one r;have c:u=Value.ref p:=l;subst c;obtain⟨its,j,pl,hz⟩:=I.list t;have n:bs.length=its.length:=by rw[<-j.length,YJ]
 obtain⟨m,a,g,f⟩:=id pl.isList;have d:p<s.heap.objs.size:=YV a;refine call_any_walk (Ad5 pl.isList ⟨s.heap.objs.size,_,_,_,_,_,λi=>bs.getD i false,rfl,Walks.list (A:=X.A.in1) (I.ok.hd w) _ p (Zg d) its.toArray,⟨⟨_,Y4 _ rfl,rfl,rfl⟩,⟨m,YN _ a,g,f⟩⟩,λi v C D E y x=>?_,λh' B kp=>?_⟩)
 ·have e:=nF j (i:=i) (u:=v) (by simpa using y);rw[e];exact ZP x
 · have e:((List.range its.toArray.size).any λi=>bs.getD i false)=bs.any id:=by
    rw[YZ,<-n];exact nP bs
   rw[e];refine⟨.bl _,H,I.kept λb o q=>kp b o (λz=>?_) (YN _ q),rfl,q⟩;have k:b=s.heap.objs.size:=by simpa using z
   exact absurd (YV q) (by rw[k];exact ZG _)
def TB(K:F0)(H:Hp)(v:V)(k:Int×Int×List Int):Prop:=∃p l,v=.ref p/\SqT K H p [.int k.1,.int k.2.1,.ref l]/\SqL K H l (k.2.2.map V.int)
def bg(a b:Int×Int×List Int):Bool:=HT.kK a.1 a.2.1 a.2.2 b.1 b.2.1 b.2.2
def nr:∀{vs:List V} {us:List Value} {i:Nat} {u:Value},Vals vs us->us[i]?=some u->∃v,vs[i]?=some v/\RelV v u
 |[],us,i,u,r,e=>by cases r;cases e
 | v::vs,us,i,u,r,e=>by
   cases r with
   |cons b a=>
     cases i with
     |zero=>cases e;exact⟨v,rfl,b⟩
     |succ i=>exact nr (i:=i) a (by simpa using e)
def kg(a:Nat->Nat->Bool):∀k,argBest a k<=k
 |0=>YY _
 | k+1=>by
   unfold argBest;split
   ·exact YY _
   ·exact Ag6 (kg a k)
def zE{X:Cx}(hc:X.calm=true)(hu:X.A.units+101<cLine):gb X (.builtin "min") ["default"] (λxs E H Q=>∃p vs d,∃c:List (Int×Int×List Int),xs=[.ref p]/\E=[d]/\SqL X.K H p vs/\vs.length=c.length/\(∀i v,vs[i]?=some v->TB X.K H v (c.getD i (0,0,[])))/\
 (vs=[]->Q d H)/\∀v,vs[argBest (λi j=>bg (c.getD i (0,0,[])) (c.getD j (0,0,[]))) (vs.length-1)]?=some v->Q v H):=by
 intro G s Z H xs E us ws Q I r S h;obtain⟨p,vs,d,c,rfl,rfl,hq,N,O,W,V⟩:=h;obtain⟨u,rfl,T⟩:=Vals.one r;have t:u=Value.ref p:=T;subst t;obtain⟨dv,rfl,rd⟩:=Vals.one S;obtain⟨its,l,pl,hz⟩:=I.list hq;have M:vs.length=its.length:=l.length;obtain⟨ol,g,D,C⟩:=id pl.isList;have k:p<s.heap.objs.size:=YV g;refine xt false (Ad5 pl.isList ⟨s.heap.objs.size,_,_,_,_,_,λi j=>bg (c.getD i (0,0,[])) (c.getD j (0,0,[])),λn=>∃h' f,n={s with heap:=h',toks:=f}/\∀b o,s.heap.get? b=some o->h'.get? b=some o,rfl,Walks.list (A:=X.A.in1) (I.ok.hd hc) _ p (Zg k) its.toArray,⟨⟨_,Y4 _ rfl,rfl,rfl⟩,⟨ol,YN _ g,D,C⟩⟩,λb hb=>?_,?_,?_,?_,λe h' f kp=>?_,λe v h' f pv kp=>?_⟩)
 · rw[Ac3];rcases YS.mp hb with z|z
   ·rw[z];exact Ac4 _
   · have a:b=p:=by simpa using z
     rw[a];exact Ag3 k
 ·exact⟨_,_,rfl,λb o e=>YN _ e⟩
 · rintro n h' f ⟨P,L,rfl,y⟩ kp;refine⟨h',f,rfl,λb o e=>kp b o (λz=>?_) (λz=>?_) (y b o e)⟩
   · have a:b=s.heap.objs.size:=by simpa using z
     exact absurd (YV e) (by rw[a];exact ZG _)
   · have a:b=s.heap.objs.size+1:=by rw[z,Ac3]
     exact absurd (YV e) (by rw[a];exact Nat.not_lt.mpr (Nat.le_succ _))
 ·rintro i j J F n Q' E' ⟨P,L,rfl,y⟩ pi Y B;have I1:Inv X G Z H {s with heap:=P,toks:=L}:=I.kept y;obtain⟨m,e1,x⟩:=nr l (i:=i) (u:=J) (by simpa using pi);obtain⟨R,e2,U⟩:=nr l (i:=j) (u:=F) (by simpa using Y);obtain⟨p1,l1,rfl,a1,b1⟩:=O i m e1;obtain⟨p2,l2,rfl,a2,b2⟩:=O j R e2;obtain rfl:J=Value.ref p1:=x;obtain rfl:F=Value.ref p2:=U;exact G1 (A:=X.A.in1) (by show X.A.units+1+100<cLine;omega) I1 a1 a2 b1 b2 X.prog X.w E' Q' B
 · have en:vs=[]:=Zi.mp (by rw[M];simpa using e);refine⟨d,H,I.kept λb o q=>kp b o (λz=>?_) (YN _ q),rd,W en⟩;have a:b=s.heap.objs.size:=by simpa using z
   exact absurd (YV q) (by rw[a];exact ZG _)
 · rw[show its.toArray.size-1=vs.length-1 by rw[YZ,M],Aj5]at pv;obtain⟨m,e1,x⟩:=nr l pv;refine⟨m,H,I.kept λb o q=>kp b o (λz=>?_) (YN _ q),x,V _ e1⟩;have a:b=s.heap.objs.size:=by simpa using z
   exact absurd (YV q) (by rw[a];exact ZG _)
end L2
namespace Mi
open PySem L2
inductive D where
 |non|bl (b:Bool)|int (i:Int)|str (x:Str)|ty (n:String)
 |lst (xs:List D)|tup (xs:List D)|scr (xs:List D)
 |dK (ks:List aH) (vs:List D)|dT (ks:List (List aH)) (vs:List D)
 |obj (c:Nat) (ns:List Str) (vs:List D)
abbrev P1:=List (Option D)
inductive Res (W:Type) where
 |ok (a:W)|exc (c:Nat)|bad
inductive Out (W:Type) where
 |ok (a:W) (T:P1)|exc (c:Nat) (T:P1)|bad
inductive SO where
 |nx (T:P1)|rt (d:D) (T:P1)|bk (T:P1)|ct (T:P1)|exc (c:Nat) (T:P1)|bad
@[simp] def Res.bind{W X:Type}:Res W->(W->Res X)->Res X
 |.ok a,f=>f a
 |.exc c,_=>.exc c
 |.bad,_=>.bad
@[simp] def Res.calm{W:Type}:Res W->Res W
 |.ok a=>.ok a
 |_=>.bad
@[simp] def Out.bind{W X:Type}:Out W->(W->P1->Out X)->Out X
 |.ok a T,f=>f a T
 |.exc c T,_=>.exc c T
 |.bad,_=>.bad
@[simp] def Res.up{W:Type}(T:P1):Res W->Out W
 |.ok a=>.ok a T
 |.exc c=>.exc c T
 |.bad=>.bad
def rg{W:Type}(l:List (Option W))(i:Nat):Option W:=(l[i]?).join
@[simp] def vr(i:Nat):P1->Res D:=λT=>match rg T i with|some d=>.ok d|none=>.bad
def ax(d:D):P1->Res D:=λ_=>.ok d
def un(f:D->Res D)(a:P1->Res D):P1->Res D:=λT=>(a T).bind f
def bn(f:D->D->Res D)(a b:P1->Res D):P1->Res D:=λT=>(a T).bind λx=>(b T).bind λy=>f x y
def af:Nat:=1000000
def iI(g:Int->Int->Int):D->D->Res D | .int i,.int j=>.ok (.int (g i j))|_,_=>.bad
def iB(g:Int->Int->Bool):D->D->Res D | .int i,.int j=>.ok (.bl (g i j))|_,_=>.bad
def iC(C:Int->Int->Bool)(g:Int->Int->Int):D->D->Res D | .int i,.int j=>if C i j=true then .ok (.int (g i j)) else .bad|_,_=>.bad
def lF:=iI λi j=>i+j
def sX:=iI λi j=>i-j
def tP:=iC (λi j=>decide ((-(2 ^ 64)<i/\i<2 ^ 64)\/(-(2 ^ 64)<j/\j<2 ^ 64))) λi j=>i*j
def eC:=iC (λ_ j=>decide (0<j/\j<1073741824)) λi j=>i / j
def cX:=iC (λ_ j=>decide (0<j)) λi j=>i%j
def En:=iC (λ_ j=>decide (0<=j)) λi j=>i / 2 ^ j.toNat
def tQ:=iI λi j=>if j<i then j else i
def tR:=iI λi j=>if j>i then j else i
def G4:=iB λi j=>decide (i<j)
def DS:=iB λi j=>decide (j<i)
def XC:=iB λi j=>decide (j<=i)
@[simp] def Xb(i j:Int):lF (.int i) (.int j)=.ok (.int (i+j)):=rfl
@[simp] def T4(i j:Int):sX (.int i) (.int j)=.ok (.int (i-j)):=rfl
@[simp] def FV(i j:Int):tP (.int i) (.int j)=if (-(2 ^ 64)<i/\i<2 ^ 64)\/(-(2 ^ 64)<j/\j<2 ^ 64) then .ok (.int (i*j)) else .bad:=by simp[tP,iC]
@[simp] def Dc(i j:Int):eC (.int i) (.int j)=if 0<j/\j<1073741824 then .ok (.int (i / j)) else .bad:=by simp[eC,iC]
@[simp] def FY(i j:Int):cX (.int i) (.int j)=if 0<j then .ok (.int (i%j)) else .bad:=by simp[cX,iC]
@[simp] def Em(i j:Int):En (.int i) (.int j)=if 0<=j then .ok (.int (i / 2 ^ j.toNat)) else .bad:=by simp[En,iC]
@[simp] def Wc(i j:Int):tQ (.int i) (.int j)=.ok (.int (if j<i then j else i)):=rfl
@[simp] def Wg(i j:Int):tR (.int i) (.int j)=.ok (.int (if j>i then j else i)):=rfl
@[simp] def Xx(i j:Int):G4 (.int i) (.int j)=.ok (.bl (decide (i<j))):=rfl
@[simp] def XA(i j:Int):DS (.int i) (.int j)=.ok (.bl (decide (j<i))):=rfl
@[simp] def XB(i j:Int):XC (.int i) (.int j)=.ok (.bl (decide (j<=i))):=rfl
def CJ:D->Res D | .int i=>.ok (.int (-i))|_=>.bad
def Ln:D->Res D | .bl b=>.ok (.bl (!b))|_=>.bad
def sn(neg:Bool):D->D->Res D
 |.int i,.int j=>.ok (.bl (neg.xor (decide (i=j))))
 |.str i,.str j=>.ok (.bl (neg.xor (decide (i=j))))
 |.bl i,.bl j=>.ok (.bl (neg.xor (decide (i=j))))
 |.non,.int _=>.ok (.bl neg)
 |.int _,.non=>.ok (.bl neg)
 |.non,.non=>.ok (.bl (!neg))
 |_,_=>.bad
def mN:D->Bool | .non=>true|_=>false
def gq:D->Res D
 |.lst xs=>.ok (.int xs.length)
 |.tup xs=>.ok (.int xs.length)
 |.scr xs=>.ok (.int xs.length)
 |_=>.bad
def Mq(xs:List D)(i:Int):Res D:=match ke xs i with|some d=>.ok d|none=>.bad
def ki:D->D->Res D | .lst xs,.int i=>Mq xs i | .scr xs,.int i=>Mq xs i|_,_=>.bad
def r6:D->D->Res D | .tup xs,.int i=>Mq xs i|_,_=>.bad
def zB:D->D->Res D | .lst xs,.lst a=>if xs.length+a.length<=af then .ok (.lst (xs++a)) else .bad|_,_=>.bad
def lU:D->Res D | .lst xs=>.ok (.lst xs) | .scr xs=>.ok (.lst xs) | .tup xs=>.ok (.lst xs)|_=>.bad
def aJ:D->Option aH | .int i=>some (.inl i) | .str x=>some (.inr x)|_=>none
def bH:List D->Option (List aH)
 |[]=>some []
 |d::r=>match aJ d,bH r with|some k,some a=>some (k::a)|_,_=>none
section
variable{W:Type}[DecidableEq W]
def bj:List W->List D->W->Option D
 |k::a,d::ds,j=>if k=j then some d else bj a ds j
 |_,_,_=>none
def ci(a:List W)(j:W):Bool:=a.any λk=>decide (k=j)
def iP:List W->List D->W->D->List D
 |k::a,d::ds,j,x=>(if k=j then x else d)::iP a ds j x
 |_,_,_,_=>[]
def c8:List W->List D->W->D->List D
 |k::a,d::ds,j,x=>if k=j then x::ds else d::c8 a ds j x
 |_,_,_,_=>[]
end
def jz:D->D->Option (Option D)
 |.dT a vs,.tup k=>(bH k).map λk=>bj a vs k
 |.dK a vs,k=>(aJ k).map λk=>bj a vs k
 |_,_=>none
def k6(d k:D):Res D:=match jz d k with|some (some x)=>.ok x|_=>.bad
def mh(neg:Bool)(k d:D):Res D:=match jz d k with|some x=>.ok (.bl (neg.xor x.isSome))|none=>.bad
def ga(d k x:D):Res D:=match jz d k with|some (some y)=>.ok y|some none=>.ok x|none=>.bad
def sy:D->D->D->Option D
 |.dT a vs,.tup k,x=>(bH k).bind λk=>if a.length<af then some (if ci a k=true then .dT a (iP a vs k x) else .dT (a++[k]) (vs++[x])) else none
 |.dK a vs,k,x=>(aJ k).bind λk=>if a.length<af then some (if ci a k=true then .dK a (iP a vs k x) else .dK (a++[k]) (vs++[x])) else none
 |_,_,_=>none
def bA(c:Nat)(f:Str):D->Res D
 |.obj a ns vs=>if a=c then (match bj ns vs f with|some x=>.ok x|none=>.bad) else .bad
 |_=>.bad
def mE(a:Nat)(f:Str)(x:D):D->Option D
 |.obj c ns vs=>if c=a/\ns.length<900 then some (if ci ns f=true then .obj c ns (c8 ns vs f x) else .obj c (ns++[f]) (vs++[x])) else none
 |_=>none
def Cc:D->Res Bool | .bl b=>.ok b|_=>.bad
def Jd(a b:P1->Res D):P1->Res D:=λT=>((a T).bind Cc).bind λc=>if c=true then b T else .ok (.bl false)
def U9(a b:P1->Res D):P1->Res D:=λT=>((a T).bind Cc).bind λc=>if c=true then .ok (.bl true) else b T
def aB:P1->Res (List D):=λ_=>.ok []
def aj(a:P1->Res D)(r:P1->Res (List D)):P1->Res (List D):=λT=>(a T).bind λx=>(r T).bind λxs=>.ok (x::xs)
def jL(r:P1->Res (List D)):P1->Res D:=λT=>(r T).bind λxs=>if xs.length<=af then .ok (.lst xs) else .bad
def iW(r:P1->Res (List D)):P1->Res D:=λT=>(r T).bind λxs=>if xs.length<=af then .ok (.tup xs) else .bad
def dH(T:P1)(a:List Nat):P1:=a.map λj=>rg T j
def bo(a:P1->Res Bool)(te:P1->Res D)(cap:P1):List D->Res (List D)
 |[]=>.ok []
 |d::r=>(a (some d::cap)).calm.bind λc=>if c=true then (te (some d::cap)).calm.bind λx=>(bo a te cap r).bind λxs=>.ok (x::xs) else bo a te cap r
def eJ(src:P1->Res (List D))(c:List Nat)(b:P1->Res Bool)(te:P1->Res D):P1->Res D:=λT=>(src T).bind λxs=>if xs.length<af then (bo b te (dH T c) xs).bind λa=>.ok (.lst a) else .bad
def fJ(a:P1->Res D):P1->Res (List D):=λT=>(a T).bind λd=>match d with | .lst xs=>.ok xs | .scr xs=>.ok xs|_=>.bad
def rng(lo hi:Int):List D:=(List.range (hi-lo).toNat).map λi:Nat=>D.int (lo+i)
def yb(a b:P1->Res D):P1->Res (List D):=λT=>(a T).bind λx=>(b T).bind λy=>match x,y with
 |.int i,.int j=>if -(2 ^ 62)<=i/\i<2 ^ 62/\-(2 ^ 62)<=j/\j<2 ^ 62 then .ok (rng i j) else .bad
 |_,_=>.bad
def dR(b:P1->Res D):P1->Res (List D):=yb (ax (.int 0)) b
def ai(a b:P1->SO):P1->SO:=λT=>match a T with | .nx G=>b G | o=>o
def aV:P1->SO:=λT=>.nx T
def Iq:P1->SO:=λT=>.ct T
def Kk:P1->SO:=λT=>.rt .non T
@[simp] def ge{W:Type}:Out W->(W->P1->SO)->SO
 |.ok a T,f=>f a T
 |.exc c T,_=>.exc c T
 |.bad,_=>.bad
abbrev MD:=P1->Out D
def ar{W:Type}(a:P1->Res W):P1->Out W:=λT=>(a T).up T
def bp(a:MD):P1->SO:=λT=>ge (a T) λd G=>.rt d G
def aE(a:MD):P1->SO:=λT=>ge (a T) λ_ G=>.nx G
def a7(i:Nat)(a:MD):P1->SO:=λT=>ge (a T) λd G=>.nx (G.set i (some d))
def fi(c:P1->Out Bool)(a b:P1->SO):P1->SO:=λT=>ge (c T) λt G=>if t=true then a G else b G
def t5(b:D->P1->Option P1)(a:P1->SO):List D->P1->SO
 |[],T=>.nx T
 | d::ds,T=>match b d T with
   |none=>.bad
   | some c=>match a c with
     |.nx G=>t5 b a ds G
     |.ct G=>t5 b a ds G
     |.bk G=>.nx G
     |o=>o
def cW(src:P1->Out (List D))(b:D->P1->Option P1)(a:P1->SO):P1->SO:=λT=>ge (src T) λxs G=>t5 b a xs G
def xJ(c:P1->Out Bool)(a:P1->SO):Nat->P1->SO
 |0,_=>.bad
 | n+1,T=>ge (c T) λt b=>if t=true then (match a b with
    |.nx G=>xJ c a n G
    |.ct G=>xJ c a n G
    |.bk G=>.nx G
    |o=>o) else .nx b
def rn(i:Nat):D->P1->Option P1:=λd T=>some (T.set i (some d))
def JH(i j:Nat):D->P1->Option P1:=λd T=>match d with | .tup [x,y]=>some ((T.set i (some x)).set j (some y))|_=>none
def run(k:Nat)(a:P1->SO)(ds:List D):Out D:=match a (ds.map some++List.replicate (k-ds.length) none) with
 |.nx T=>.ok .non T
 |.rt d T=>.ok d T
 |.exc c T=>.exc c T
 |_=>.bad
structure Cm where
 f:Nat->Addr
 K:F0
 tb:Tbs
instance:CoeFun Cm λ_=>Nat->Addr:=⟨Cm.f⟩
def SqF(K:F0)(B:Hp)(a:Addr)(xs:List V):Prop:=(∃o,B a=some (.frz o (.lst xs)))\/
 ∃(o:Obj) (its:Array Value) (n:Nat),K.lookup a=some o/\o.cls=.type "list" /\ o.dict=none/\o.data=.seq its n/\its.size<=sizeLine/\Vals xs its.toList
def SqF.mono{K:F0}(h:SqF K B a xs)(e:Same B S):SqF K S a xs:=by
 rcases h with ⟨o,h⟩|h
 ·exact .inl ⟨o,e _ _ h⟩
 ·exact .inr h
def SqF.sq{K:F0}(h:SqF K H a xs):SqL K H a xs:=by
 rcases h with ⟨o,h⟩|h
 ·exact .inl (.inr ⟨o,h⟩)
 ·exact .inr h
def ko(e:Same B S)(h:Rd B a u):Rd S a u:=by
 rcases h with h|⟨o,h⟩
 ·exact .inl (e _ _ h)
 ·exact .inr ⟨o,e _ _ h⟩
section
variable(Y:Cm)
mutual
def Dn(B:Hp):D->V->Prop
 |.non,v=>v=.non
 |.bl b,v=>v=.bl b
 |.int i,v=>v=.int i
 |.str x,v=>v=.str x
 |.ty n,v=>v=.ty n
 |.lst ds,v=>∃a xs,v=.ref a/\B a=some (.lst xs)/\Dns B ds xs
 |.scr ds,v=>∃a xs,v=.ref a/\SqF Y.K B a xs/\Dns B ds xs
 |.tup ds,v=>∃a xs,v=.ref a/\B a=some (.tup xs)/\Dns B ds xs
 |.dK d ds,v=>∃(a:Addr) (kvs:List (aH×V)),v=.ref a/\B a=some (.dK kvs)/\kvs.map (·.1)=d/\Dns B ds (kvs.map (·.2))
 |.dT d ds,v=>∃(a:Addr) (kvs:List (List aH×V)),v=.ref a/\Rd B a (.dT kvs)/\kvs.map (·.1)=d/\Dns B ds (kvs.map (·.2))
 |.obj c ns ds,v=>∃(a dx:Addr) (fs:List (Str×V)),v=.ref a/\B a=some (.ins (Y c) dx fs)/\fs.map (·.1)=ns/\Dns B ds (fs.map (·.2))
def Dns(B:Hp):List D->List V->Prop
 |[],xs=>xs=[]
 |d::ds,xs=>∃x r,xs=x::r/\Dn B d x/\Dns B ds r
end
inductive Sh where
 |fz|ct (s:Sh)|ob (fs:List (Str×Sh))
mutual
def Ow(B H:Hp):D->Sh->V->List Addr->Prop
 |d,.fz,v,A=>Dn Y B d v/\A=[]
 |.lst ds,.ct s,v,A=>∃a xs b,v=.ref a/\H a=some (.lst xs)/\A=a::b/\Ows B H ds s xs b
 |.dK e ds,.ct s,v,A=>∃(a:Addr) (kvs:List (aH×V)) (b:List Addr),v=.ref a/\H a=some (.dK kvs)/\kvs.map (·.1)=e/\A=a::b/\Ows B H ds s (kvs.map (·.2)) b
 |.dT e ds,.ct s,v,A=>∃(a:Addr) (kvs:List (List aH×V)) (b:List Addr),v=.ref a/\H a=some (.dT kvs)/\kvs.map (·.1)=e/\A=a::b/\Ows B H ds s (kvs.map (·.2)) b
 |.obj c ns ds,.ob fs,v,A=>∃(a dx:Addr) (xs:List (Str×V)) (b:List Addr),v=.ref a/\H a=some (.ins (Y c) dx xs)/\xs.map (·.1)=ns/\A=a::b/\Owf B H ds ns fs (xs.map (·.2)) b
 |_,_,_,_=>False
def Ows(B H:Hp):List D->Sh->List V->List Addr->Prop
 |[],_,xs,A=>xs=[]/\A=[]
 |d::ds,s,xs,A=>∃x r A1 a,xs=x::r/\A=A1++a/\Ow B H d s x A1/\Ows B H ds s r a
def Owf(B H:Hp):List D->List Str->List (Str×Sh)->List V->List Addr->Prop
 |[],_,_,xs,A=>xs=[]/\A=[]
 |d::ds,ns,fs,xs,A=>∃n a x r A1 b,ns=n::a/\xs=x::r/\A=A1++b/\Ow B H d ((fs.lookup n).getD .fz) x A1/\Owf B H ds a fs r b
end
inductive Md where
 |F|R|O (s:Sh)
def LoV(B U H:Hp)(m:Md)(d:D)(v:V)(A:List Addr):Prop:=
 match m with
 |.F=>Dn Y B d v/\A=[]
 |.R=>Dn Y U d v/\A=[]
 |.O sh=>Ow Y B H d sh v A
def Lo(B U H:Hp)(m:Md)(o:Option D)(s:Option V)(A:List Addr):Prop:=
 match o with
 |none=>A=[]
 |some d=>∃v,s=some v/\LoV Y B U H m d v A
structure Rel (M:List Md) (B U:Hp) (As:Nat->List Addr) (Z:St) (H:Hp) (T:P1):Prop where
 bu:Same B U
 uh:Same U H
 nd:∀i,(As i).Nodup
 dj:∀i j a,i≠j->a∈As i->a∉As j
 un:∀i a,a∈As i->U a=none
 lo:∀i,Lo Y B U H (M.getD i .F) (rg T i) (rg Z i) (As i)
 len:T.length=Z.length
 tb:∀p∈Y.tb,∃l,B p.1=some (.tbl l)/\p.2∈l
end
def eB(o:HO):Prop:=∃xs,o=.tup xs
structure Ex (B U S J:Hp):Prop where
 b:Same B S
 u:Same U J
 nb:∀a o,S a=some o->B a=some o\/U a=none\/eB o
def Ex.refl(B U:Hp):Ex B U B U:=⟨Same.refl _,Same.refl _,λ_ _ h=>.inl h⟩
def Ex.trans(a:Ex B U I U1)(b:Ex I U1 e d):Ex B U e d:=
 ⟨a.b.trans b.b,a.u.trans b.u,λc o h=>by
  rcases b.nb c o h with h|h|h
  ·exact a.nb c o h
  ·exact .inr (.inl (a.u.free h))
  ·exact .inr (.inr h)⟩
section
variable{Y:Cm}
def nd:HO->Prop
 |.dT _=>False
 |.frz _ (.dT _)=>False
 |_=>True
def Hm(G a:Hp):Prop:=(∀b x,G b=some x->nd x->a b=some x)/\∀b k,Rd G b (.dT k)->Rd a b (.dT k)
mutual
def Dn.imp{B S:Hp}(e:Hm B S):∀{d:D} {v:V},Dn Y B d v->Dn Y S d v:=by
 intro d v h;cases d <;> rw[Dn]at h ⊢ <;> first | exact h | (obtain⟨a,xs,r,c,b⟩:=h;first | exact⟨a,xs,r,e.1 _ _ c trivial,Dns.imp e b⟩ | exact⟨a,xs,r,e.1 _ _ c trivial,b.1,Dns.imp e b.2⟩ | exact⟨a,xs,r,e.2 _ _ c,b.1,Dns.imp e b.2⟩ | exact⟨a,xs,r,c.imp (λ⟨o,q⟩=>⟨o,e.1 _ _ q trivial⟩) id,Dns.imp e b⟩) | (obtain⟨a,dx,xs,r,c,b,f⟩:=h;exact⟨a,dx,xs,r,e.1 _ _ c trivial,b,Dns.imp e f⟩)
def Dns.imp{B S:Hp}(e:Hm B S):∀{ds:List D} {xs:List V},Dns Y B ds xs->Dns Y S ds xs
 |[],_,h=>by rw[Dns]at h ⊢;exact h
 | d::ds,_,h=>by
   rw[Dns]at h ⊢;obtain⟨x,r,h0,b,a⟩:=h;exact⟨x,r,h0,Dn.imp e b,Dns.imp e a⟩
end
def Hm.of(e:Same B S):Hm B S:=⟨λb x q _=>e b x q,λ_ _=>ko e⟩
def Dn.mono(e:Same B S):Dn Y B d v->Dn Y S d v:=Dn.imp (.of e)
def Dns.mono(e:Same B S):Dns Y B ds xs->Dns Y S ds xs:=Dns.imp (.of e)
def Dns.len:∀{ds:List D} {xs:List V},Dns Y B ds xs->ds.length=xs.length
 |[],_,h=>by rw[Dns]at h;subst h;rfl
 | d::ds,_,h=>by
   rw[Dns]at h;obtain⟨x,r,rfl,_,a⟩:=h;rw[YO,YO,Dns.len a]
def Dns.get:∀{ds:List D} {xs:List V} {i:Nat} {d:D},Dns Y B ds xs->ds[i]?=some d->∃x,xs[i]?=some x/\Dn Y B d x
 |[],_,_,_,_,e=>by cases e
 | d::ds,_,i,d',h,e=>by
   rw[Dns]at h;obtain⟨x,r,rfl,b,a⟩:=h;cases i with
   |zero=>cases e;exact⟨x,rfl,b⟩
   |succ i=>exact Dns.get (i:=i) a (by simpa using e)
def Dns.geti:∀{ds:List D} {xs:List V} {i:Nat} {x:V},Dns Y B ds xs->xs[i]?=some x->∃d,ds[i]?=some d/\Dn Y B d x
 |[],_,_,_,h,e=>by rw[Dns]at h;subst h;cases e
 | d::ds,_,i,c,h,e=>by
   rw[Dns]at h;obtain⟨x,r,rfl,b,a⟩:=h;cases i with
   |zero=>cases e;exact⟨d,rfl,b⟩
   |succ i=>exact Dns.geti (i:=i) a (by simpa using e)
def Dns.append:∀{ds b:List D} {xs a:List V},Dns Y B ds xs->Dns Y B b a->Dns Y B (ds++b) (xs++a)
 |[],_,_,_,h,k=>by rw[Dns]at h;subst h;exact k
 | d::ds,_,_,_,h,k=>by
   rw[Dns]at h;obtain⟨x,r,rfl,e,c⟩:=h;rw[Ab0,Ab0,Dns];exact⟨x,_,rfl,e,Dns.append c k⟩
def Dns.one(h:Dn Y B d v):Dns Y B [d] [v]:=by
 rw[Dns];exact⟨v,[],rfl,h,by rw[Dns]⟩
def Dns.drop:∀{ds:List D} {xs:List V} (n:Nat),Dns Y B ds xs->Dns Y B (ds.drop n) (xs.drop n)
 |[],_,n,h=>by rw[Dns]at h;subst h;rw[List.drop_nil,List.drop_nil,Dns]
 | d::ds,_,n,h=>by
   cases n with
   |zero=>exact h
   |succ n=>
     rw[Dns]at h;obtain⟨x,r,rfl,b,a⟩:=h;exact Dns.drop n a
def Dns.erase:∀{ds:List D} {xs:List V} (n:Nat),Dns Y B ds xs->Dns Y B (ds.eraseIdx n) (xs.eraseIdx n)
 |[],_,n,h=>by rw[Dns]at h;subst h;rw[List.eraseIdx_nil,List.eraseIdx_nil,Dns]
 | d::ds,_,n,h=>by
   rw[Dns]at h;obtain⟨x,r,rfl,b,a⟩:=h;cases n with
   |zero=>exact a
   |succ n=>
     rw[Zv,Zv,Dns];exact⟨x,_,rfl,b,Dns.erase n a⟩
def Dns.set(hd:Dn Y B d' v):∀{ds:List D} {xs:List V} (n:Nat),Dns Y B ds xs->Dns Y B (ds.set n d') (xs.set n v)
 |[],_,n,h=>by rw[Dns]at h;subst h;rw[List.set_nil,List.set_nil,Dns]
 | d::ds,_,n,h=>by
   rw[Dns]at h;obtain⟨x,r,rfl,b,a⟩:=h;cases n with
   |zero=>rw[Af7,Af7,Dns];exact⟨v,r,rfl,hd,a⟩
   |succ n=>
     rw[Af8,Af8,Dns];exact⟨x,_,rfl,b,Dns.set hd n a⟩
mutual
def Ow.imp{B S H H':Hp}(e:∀{d v},Dn Y B d v->Dn Y S d v):∀{d:D} {s:Sh} {v:V} {A:List Addr},(∀a∈A,H' a=H a)->Ow Y B H d s v A->Ow Y S H' d s v A:=by
 intro d s v A k h;cases s with
 |fz=>rw[Ow]at h ⊢;exact⟨e h.1,h.2⟩
 |ct s=>cases d <;> first | (simp[Ow]at h;done) | (rw[Ow]at h ⊢;obtain⟨a,xs,j,r,i,g,f⟩:=h;subst g;exact⟨a,xs,j,r,by rw[k a YK];exact i,rfl,Ows.imp e (λb c=>k b (YM _ c)) f⟩) | (rw[Ow]at h ⊢;obtain⟨a,xs,j,r,i,g,f,l⟩:=h;subst f;exact⟨a,xs,j,r,by rw[k a YK];exact i,g,rfl,Ows.imp e (λb c=>k b (YM _ c)) l⟩)
 |ob fs=>cases d <;> first | (simp[Ow]at h;done) | (rw[Ow]at h ⊢;obtain⟨a,dx,xs,j,r,i,g,f,l⟩:=h;subst f;exact⟨a,dx,xs,j,r,by rw[k a YK];exact i,g,rfl,Owf.imp e (λb c=>k b (YM _ c)) l⟩)
def Ows.imp{B S H H':Hp}(e:∀{d v},Dn Y B d v->Dn Y S d v):∀{ds:List D} {s:Sh} {xs:List V} {A:List Addr},(∀a∈A,H' a=H a)->Ows Y B H ds s xs A->Ows Y S H' ds s xs A
 |[],_,_,_,_,h=>by rw[Ows]at h ⊢;exact h
 | d::ds,s,xs,A,k,h=>by
   rw[Ows]at h ⊢;obtain⟨x,r,A1,j,h0,i,g,f⟩:=h;subst i;exact⟨x,r,A1,j,h0,rfl,Ow.imp e (λb c=>k b (YU _ c)) g,Ows.imp e (λb c=>k b (YL _ c)) f⟩
def Owf.imp{B S H H':Hp}(e:∀{d v},Dn Y B d v->Dn Y S d v):∀{ds:List D} {ns:List Str} {fs:List (Str×Sh)} {xs:List V} {A:List Addr},(∀a∈A,H' a=H a)->Owf Y B H ds ns fs xs A->Owf Y S H' ds ns fs xs A
 |[],_,_,_,_,_,h=>by rw[Owf]at h ⊢;exact h
 | d::ds,ns,fs,xs,A,k,h=>by
   rw[Owf]at h ⊢;obtain⟨n,c,x,r,A1,m,g,h0,l,j,i⟩:=h;subst l;exact⟨n,c,x,r,A1,m,g,h0,rfl,Ow.imp e (λb f=>k b (YU _ f)) j,Owf.imp e (λb f=>k b (YL _ f)) i⟩
end
section
variable{B S H H':Hp}(e:Same B S){A:List Addr}(k:∀a∈A,H' a=H a){s:Sh}
include e k
def Ow.mono{d:D}{v:V}:Ow Y B H d s v A->Ow Y S H' d s v A:=Ow.imp (Dn.mono e) k
def Ows.mono{ds:List D}{xs:List V}:Ows Y B H ds s xs A->Ows Y S H' ds s xs A:=Ows.imp (Dn.mono e) k
def Owf.mono{ds:List D}{ns:List Str}{fs:List (Str×Sh)}{xs:List V}:Owf Y B H ds ns fs xs A->Owf Y S H' ds ns fs xs A:=Owf.imp (Dn.mono e) k
end
end
section
variable{Y:Cm}
mutual
def Ow.dn{B H G:Hp}(e:Same B G):∀{d:D} {s:Sh} {v:V} {A:List Addr},(∀a∈A,∀o,H a=some o->G a=some o)->Ow Y B H d s v A->Dn Y G d v:=by
 intro d s v A k h;cases s with
 |fz=>rw[Ow]at h;exact h.1.mono e
 |ct s=>cases d <;> first | (simp[Ow]at h;done) | (rw[Ow]at h;obtain⟨a,xs,l,r,i,c,g⟩:=h;subst c;rw[Dn];exact⟨a,xs,r,k a YK _ i,Ows.dn e (λb f=>k b (YM _ f)) g⟩) | (rw[Ow]at h;obtain⟨a,xs,l,r,i,c,g,j⟩:=h;subst g;rw[Dn];have q:=Ows.dn e (λb f=>k b (YM _ f)) j;have p:=k a YK _ i;first | exact⟨a,xs,r,p,c,q⟩ | exact⟨a,xs,r,.inl p,c,q⟩)
 |ob fs=>cases d <;> first | (simp[Ow]at h;done) | (rw[Ow]at h;obtain⟨a,dx,xs,l,r,i,c,g,j⟩:=h;subst g;rw[Dn];exact⟨a,dx,xs,r,k a YK _ i,c,Owf.dn e (λb f=>k b (YM _ f)) j⟩)
def Ows.dn{B H G:Hp}(e:Same B G):∀{ds:List D} {s:Sh} {xs:List V} {A:List Addr},(∀a∈A,∀o,H a=some o->G a=some o)->Ows Y B H ds s xs A->Dns Y G ds xs
 |[],_,_,_,_,h=>by rw[Ows]at h;rw[Dns];exact h.1
 | d::ds,s,xs,A,k,h=>by
   rw[Ows]at h;obtain⟨x,r,A1,j,h0,i,g,f⟩:=h;subst i;rw[Dns];exact⟨x,r,h0,Ow.dn e (λb c=>k b (YU _ c)) g,Ows.dn e (λb c=>k b (YL _ c)) f⟩
def Owf.dn{B H G:Hp}(e:Same B G):∀{ds:List D} {ns:List Str} {fs:List (Str×Sh)} {xs:List V} {A:List Addr},(∀a∈A,∀o,H a=some o->G a=some o)->Owf Y B H ds ns fs xs A->Dns Y G ds xs
 |[],_,_,_,_,_,h=>by rw[Owf]at h;rw[Dns];exact h.1
 | d::ds,ns,fs,xs,A,k,h=>by
   rw[Owf]at h;obtain⟨n,f,x,r,A1,m,l,h0,j,i,g⟩:=h;subst j;rw[Dns];exact⟨x,r,h0,Ow.dn e (λb c=>k b (YU _ c)) i,Owf.dn e (λb c=>k b (YL _ c)) g⟩
end
mutual
def Ow.at2{B H:Hp}:∀{d:D} {s:Sh} {v:V} {A:List Addr} {a:Addr},Ow Y B H d s v A->a∈A->∃o,H a=some o/\¬ eB o:=by
 intro d s v A a h m;cases s with
 |fz=>rw[Ow]at h;rw[h.2]at m;cases m
 |ct s=>cases d <;> first | (simp[Ow]at h;done) | (rw[Ow]at h;obtain⟨b,xs,j,r,f,i,c⟩:=h;subst i;exact(YS.mp m).elim (λe=>by subst e;exact⟨_,f,λ⟨_,z⟩=>nomatch z⟩) (Ows.at2 c)) | (rw[Ow]at h;obtain⟨b,xs,j,r,f,i,c,g⟩:=h;subst c;exact(YS.mp m).elim (λe=>by subst e;exact⟨_,f,λ⟨_,z⟩=>nomatch z⟩) (Ows.at2 g))
 |ob fs=>cases d <;> first | (simp[Ow]at h;done) | (rw[Ow]at h;obtain⟨b,dx,xs,j,r,f,i,c,g⟩:=h;subst c;exact(YS.mp m).elim (λe=>by subst e;exact⟨_,f,λ⟨_,z⟩=>nomatch z⟩) (Owf.at2 g))
def Ows.at2{B H:Hp}:∀{ds:List D} {s:Sh} {xs:List V} {A:List Addr} {a:Addr},Ows Y B H ds s xs A->a∈A->∃o,H a=some o/\¬ eB o
 |[],_,_,_,_,h,m=>by rw[Ows]at h;rw[h.2]at m;cases m
 | d::ds,s,xs,A,a,h,m=>by
   rw[Ows]at h;obtain⟨x,r,A1,f,h0,e,c,b⟩:=h;subst e;rcases YX.mp m with m|m
   ·exact Ow.at2 c m
   ·exact Ows.at2 b m
def Owf.at2{B H:Hp}:∀{ds:List D} {ns:List Str} {fs:List (Str×Sh)} {xs:List V} {A:List Addr} {a:Addr},Owf Y B H ds ns fs xs A->a∈A->∃o,H a=some o/\¬ eB o
 |[],_,_,_,_,_,h,m=>by rw[Owf]at h;rw[h.2]at m;cases m
 | d::ds,ns,fs,xs,A,a,h,m=>by
   rw[Owf]at h;obtain⟨n,b,x,r,A1,i,g,h0,f,e,c⟩:=h;subst f;rcases YX.mp m with m|m
   ·exact Ow.at2 e m
   ·exact Owf.at2 c m
end
def Ow.at{H:Hp}(h:Ow Y B H d s v A)(m:a∈A):∃o,H a=some o:=let ⟨o,e,_⟩:=Ow.at2 h m;⟨o,e⟩
def Owf.at{H:Hp}(h:Owf Y B H ds ns fs xs A)(m:a∈A):∃o,H a=some o:=let ⟨o,e,_⟩:=Owf.at2 h m;⟨o,e⟩
def Ows.of:∀{ds:List D} {xs:List V},Dns Y B ds xs->Ows Y B H ds .fz xs []
 |[],_,h=>by rw[Dns]at h;rw[Ows];exact⟨h,rfl⟩
 | d::ds,_,h=>by
   rw[Dns]at h;obtain⟨x,r,h0,b,a⟩:=h;rw[Ows];exact⟨x,r,[],[],h0,rfl,by rw[Ow];exact⟨b,rfl⟩,Ows.of a⟩
def Ows.fz:∀{ds:List D} {xs:List V} {A:List Addr},Ows Y B H ds .fz xs A->Dns Y B ds xs/\A=[]
 |[],_,_,h=>by rw[Ows]at h;rw[Dns];exact h
 | d::ds,_,_,h=>by
   rw[Ows]at h;obtain⟨x,r,A1,g,h0,f,a,e⟩:=h;rw[Ow]at a;obtain⟨c,b⟩:=Ows.fz e;rw[Dns];exact⟨⟨x,r,h0,a.1,c⟩,by rw[f,a.2,b];rfl⟩
def Lo.at2{H:Hp}(h:Lo Y B U H m o s A)(b:a∈A):∃o,H a=some o/\¬ eB o:=by
 unfold Lo at h;cases o with
 |none=>simp only at h;rw[h]at b;cases b
 |some d=>
   obtain⟨v,_,h⟩:=h;cases m with
   |F=>have h:Dn Y B d v/\A=[]:=h;rw[h.2]at b;cases b
   |R=>have h:Dn Y U d v/\A=[]:=h;rw[h.2]at b;cases b
   |O sh=>exact Ow.at2 h b
def Lo.at{H:Hp}(h:Lo Y B U H m o s A)(b:a∈A):∃o,H a=some o:=let ⟨o,e,_⟩:=h.at2 b;⟨o,e⟩
def Lo.mono{H H':Hp}(h:Lo Y B U H m o s A)(e:Same B S)(f:Same U J)(k:∀a∈A,H' a=H a):Lo Y S J H' m o s A:=by
 unfold Lo at h ⊢;cases o with
 |none=>exact h
 |some d=>
   obtain⟨v,b,h⟩:=h;refine⟨v,b,?_⟩;cases m with
   |F=>exact⟨h.1.mono e,h.2⟩
   |R=>exact⟨h.1.mono f,h.2⟩
   |O sh=>exact Ow.mono e k h
variable{M:List Md}{B U H S J H':Hp}{As:Nat->List Addr}{Z:St}{T:P1}
def Rel.at(R:Rel Y M B U As Z H T)(h:a∈As i):∃o,H a=some o:=(R.lo i).at h
def Rel.nt(R:Rel Y M B U As Z H T)(h:a∈As i)(e:H a=some o)(z:eB o):False:=by
 obtain⟨o',b,n⟩:=(R.lo i).at2 h;rw[e]at b;cases b;exact n z
def Rel.fresh(R:Rel Y M B U As Z H T)(h:H p=none)(i:Nat):p∉As i:=λm=>by
 obtain⟨o,e⟩:=R.at m;rw[h]at e;cases e
def Rel.grow(R:Rel Y M B U As Z H T)(e:Same B S)(f:Same U J)(g:Same H H')(bu:Same S J)(uh:Same J H')(un:∀i a,a∈As i->J a=none):Rel Y M S J As Z H' T:=
 ⟨bu,uh,R.nd,R.dj,un,λi=>(R.lo i).mono e f λa b=>by
  obtain⟨o,q⟩:=R.at b
  rw[q,g a o q],R.len,λp hp=>let ⟨l,d,c⟩:=R.tb p hp;⟨l,e _ _ d,c⟩⟩
def Rel.bh(R:Rel Y M B U As Z H T):Same B H:=R.bu.trans R.uh
def Rel.new(R:Rel Y M B U As Z H T)(h:H p=none):Rel Y M B U As Z (upd H p o) T:=
 R.grow (Same.refl _) (Same.refl _) (Gd.b9 h) R.bu (R.uh.trans (Gd.b9 h)) R.un
def rE(e:Same G a):Same (upd G p o) (upd a p o):=λb u q=>by
 by_cases z:b=p
 ·subst z;rw[ay]at q ⊢;exact q
 ·rw[aq z]at q ⊢;exact e b u q
def Rel.newB(R:Rel Y M B U As Z H T)(h:H p=none):Rel Y M (upd B p o) (upd U p o) As Z (upd H p o) T:=
 R.grow (Gd.b9 (R.bh.free h)) (Gd.b9 (R.uh.free h)) (Gd.b9 h) (rE R.bu) (rE R.uh) λi a b=>by
  rw[aq (λz:a=p=>R.fresh h i (z▸b))];exact R.un i a b
def Ex.newB(R:Rel Y M B U As Z H T)(h:H p=none):Ex B U (upd B p o) (upd U p o):=
 ⟨Gd.b9 (R.bh.free h),Gd.b9 (R.uh.free h),λa u q=>by
  by_cases z:a=p
  ·subst z;exact .inr (.inl (R.uh.free h))
  ·rw[aq z]at q;exact .inl q⟩
def frz(B H:Hp)(A:List Addr):Hp:=λa=>if a∈A then H a else B a
def bx(e:Same B H):Same B (frz B H A):=λa o q=>by
 unfold frz;split
 ·exact e a o q
 ·exact q
def nz(e:Same B H):Same (frz B H A) H:=λa o q=>by
 unfold frz at q;split at q
 ·exact q
 ·exact e a o q
def kR(e:Same B U):Same (frz B H A) (frz U H A):=λa o q=>by
 unfold frz at q ⊢;split
 ·rename_i z;rw[YG z]at q;exact q
 ·rename_i z;rw[on z]at q;exact e a o q
end
abbrev KT(W X:Type):=W->X->Hp->Hp->Hp->List Addr->Prop
inductive Kd where
 |F|U|X
def hp:Kd->Hp->Hp->Hp->Hp
 |.F,B,_,_=>B
 |.U,_,U,_=>U
 |.X,_,_,H=>H
structure Gw (B U H S J H':Hp):Prop extends Ex B U S J where
 h:Same H H'
 fr:∀a o,J a=some o->U a=some o\/H a=none\/eB o
def Gw.refl(B U H:Hp):Gw B U H B U H:=⟨Ex.refl _ _,Same.refl _,λ_ _ h=>.inl h⟩
def Gw.trans(a:Gw B U H I U1 H1)(b:Gw I U1 H1 f d e):Gw B U H f d e:=
 ⟨a.toEx.trans b.toEx,a.h.trans b.h,λc o h=>by
  rcases b.fr c o h with h|h|h
  ·exact a.fr c o h
  ·exact .inr (.inl (a.h.free h))
  ·exact .inr (.inr h)⟩
structure New (N:List Addr) (H U:Hp) (As:Nat->List Addr):Prop where
 nd:N.Nodup
 fr:∀a∈N,H a=none
 un:∀a∈N,U a=none
def New.nil:New [] H U As:=⟨ZD,λ_ h=>(nomatch h),λ_ h=>(nomatch h)⟩
section
variable(Y:Cm)
def Cn(G H:Hp):D->V->Prop
 |.lst ds,v=>∃a xs,v=.ref a/\H a=some (.lst xs)/\Dns Y G ds xs
 |.scr ds,v=>∃a xs,v=.ref a/\SqF Y.K H a xs/\Dns Y G ds xs
 |.tup ds,v=>∃a xs,v=.ref a/\H a=some (.tup xs)/\Dns Y G ds xs
 |.dK b ds,v=>∃(a:Addr) (kvs:List (aH×V)),v=.ref a/\H a=some (.dK kvs)/\kvs.map (·.1)=b/\Dns Y G ds (kvs.map (·.2))
 |.dT b ds,v=>∃(a:Addr) (kvs:List (List aH×V)),v=.ref a/\Rd H a (.dT kvs)/\kvs.map (·.1)=b/\Dns Y G ds (kvs.map (·.2))
 |.obj c ns ds,v=>∃(a dx:Addr) (fs:List (Str×V)),v=.ref a/\H a=some (.ins (Y c) dx fs)/\fs.map (·.1)=ns/\Dns Y G ds (fs.map (·.2))
 |d,v=>Dn Y G d v
def KR(k:Kd):KT D V:=λd v B U H _=>Dn Y (hp k B U H) d v
def KC(k:Kd):KT D V:=λd v B U H _=>Cn Y (hp k B U H) H d v
def KO(s:Sh):KT D V:=λd v B U H N=>Ow Y B H d s v N
def KB:KT Bool Bool:=λb c _ _ _ _=>b=c
def KL(k:Kd):KT (List D) (List V):=λd v B U H _=>Dns Y (hp k B U H) d v
def Po{W X:Type}(K:KT W X)(E:XK)(M:List Md)(B U:Hp)(As:Nat->List Addr)(Z:St)(H:Hp)(T:P1)(r:Res W)(Q:X->Hp->Prop):Prop:=
 match r with
 |.ok d=>∀v S J H' N,Rel Y M S J As Z H' T->Gw B U H S J H'->New N H J As->K d v S J H' N->Q v H'
 |.exc c=>∀S J H',Rel Y M S J As Z H' T->Gw B U H S J H'->∀a,E (.ref (Y c)) a H'
 |.bad=>False
def PJ{W X:Type}(K:KT W X)(E:XK)(M:List Md)(t:St->Hp->(X->Hp->Prop)->Prop)(m:P1->Res W):Prop:=
 ∀B U As Z H T Q,Rel Y M B U As Z H T->Po Y K E M B U As Z H T (m T) Q->t Z H Q
end
section
variable{Y:Cm}{E:XK}{M:List Md}{B U H:Hp}{As:Nat->List Addr}{Z:St}{T:P1}
def New.up(h:New N H1 U As)(s:Same H H1):New N H U As:=⟨h.nd,λa b=>s.free (h.fr a b),h.un⟩
def Po.at{W X:Type}{K:KT W X}{I U1 H1:Hp}{r:Res W}{Q:X->Hp->Prop}(P:Po Y K E M B U As Z H T r Q)(e:Gw B U H I U1 H1):Po Y K E M I U1 As Z H1 T r Q:=by
 cases r with
 |ok d=>exact λv S J H' N b a f k=>P v S J H' N b (e.trans a) (f.up e.h) k
 |exc c=>exact λS J H' b a=>P S J H' b (e.trans a)
 |bad=>exact P
def PJ.bnd{X:Type}{f:KT W X}{ta:St->Hp->(X->Hp->Prop)->Prop}{b:P1->Res W}(j:PJ Y f E M ta b)(R:Rel Y M B U As Z H T){k:W->Res L}
 (P:Po Y d E M B U As Z H T ((b T).bind k) Q) {a:X->Hp->Prop}
 (h:∀x v I U1 H1 N,b T=.ok x->Rel Y M I U1 As Z H1 T->Gw B U H I U1 H1->New N H U1 As->f x v I U1 H1 N->Po Y d E M I U1 As Z H1 T (k x) Q->a v H1):ta Z H a:=by
 refine j B U As Z H T a R ?_;cases e:b T with
 |ok x=>
   rw[e]at P;exact λv I U1 H1 N l e1 g i=>h x v I U1 H1 N e l e1 g i (Po.at (r:=k x) P e1)
 |exc c=>rw[e]at P;exact P
 |bad=>rw[e]at P;exact P
def gU(e:Gw B U H I U1 H1):Same (hp k B U H) (hp k I U1 H1):=by
 cases k with
 |F=>exact e.b
 |U=>exact e.u
 |X=>exact e.h
def Cn.mono(e:Same G j)(f:Same H H')(h:Cn Y G H d v):Cn Y j H' d v:=by
 cases d with
 |lst ds=>obtain⟨a,xs,r,g,b⟩:=h;exact⟨a,xs,r,f _ _ g,b.mono e⟩
 |scr ds=>obtain⟨a,xs,r,g,b⟩:=h;exact⟨a,xs,r,g.mono f,b.mono e⟩
 |tup ds=>obtain⟨a,xs,r,g,b⟩:=h;exact⟨a,xs,r,f _ _ g,b.mono e⟩
 |dK k ds=>obtain⟨a,xs,r,g,b,i⟩:=h;exact⟨a,xs,r,f _ _ g,b,i.mono e⟩
 |dT k ds=>obtain⟨a,xs,r,g,b,i⟩:=h;exact⟨a,xs,r,ko f g,b,i.mono e⟩
 |obj c ns ds=>obtain⟨a,dx,xs,r,g,b,i⟩:=h;exact⟨a,dx,xs,r,f _ _ g,b,i.mono e⟩
 |non=>exact Dn.mono e h
 |bl _=>exact Dn.mono e h
 |int _=>exact Dn.mono e h
 |str _=>exact Dn.mono e h
 |ty _=>exact Dn.mono e h
def Dn.cn(f:Same G H)(h:Dn Y G d v):Cn Y G H d v:=by
 cases d with
 |lst ds=>rw[Dn]at h;obtain⟨a,xs,r,e,b⟩:=h;exact⟨a,xs,r,f _ _ e,b⟩
 |scr ds=>rw[Dn]at h;obtain⟨a,xs,r,e,b⟩:=h;exact⟨a,xs,r,e.mono f,b⟩
 |tup ds=>rw[Dn]at h;obtain⟨a,xs,r,e,b⟩:=h;exact⟨a,xs,r,f _ _ e,b⟩
 |dK i ds=>rw[Dn]at h;obtain⟨a,xs,r,e,b,g⟩:=h;exact⟨a,xs,r,f _ _ e,b,g⟩
 |dT i ds=>rw[Dn]at h;obtain⟨a,xs,r,e,b,g⟩:=h;exact⟨a,xs,r,ko f e,b,g⟩
 |obj c ns ds=>rw[Dn]at h;obtain⟨a,dx,xs,r,e,b,g⟩:=h;exact⟨a,dx,xs,r,f _ _ e,b,g⟩
 |non=>exact h
 |bl _=>exact h
 |int _=>exact h
 |str _=>exact h
 |ty _=>exact h
def Rel.hp(R:Rel Y M B U As Z H T)(k:Kd):Same (hp k B U H) H:=by
 cases k with
 |F=>exact R.bh
 |U=>exact R.uh
 |X=>exact Same.refl _
def PJ.imp{W X:Type}{K b:KT W X}{t:St->Hp->(X->Hp->Prop)->Prop}{m:P1->Res W}(h:PJ Y K E M t m)(f:∀B U As Z H T d v N,Rel Y M B U As Z H T->K d v B U H N->b d v B U H N):PJ Y b E M t m:=by
 intro B U As Z H T Q R P;refine h B U As Z H T Q R ?_;cases e:m T with
 |ok d=>rw[e]at P;exact λv S J H' N a i g k=>P v S J H' N a i g (f _ _ _ _ _ _ _ _ _ a k)
 |exc c=>rw[e]at P;exact P
 |bad=>rw[e]at P;exact P
section
variable{t:TE}{m:P1->Res D}{k:Kd}{s:Sh}
def fu(h:PJ Y (KR Y .F) E M t m):PJ Y (KR Y .U) E M t m:=h.imp λ_ _ _ _ _ _ _ _ _ R q=>Dn.mono R.bu q
def ux(h:PJ Y (KR Y .U) E M t m):PJ Y (KR Y .X) E M t m:=h.imp λ_ _ _ _ _ _ _ _ _ R q=>Dn.mono R.uh q
def fx(h:PJ Y (KR Y .F) E M t m):PJ Y (KR Y .X) E M t m:=ux (fu h)
def rc(h:PJ Y (KR Y k) E M t m):PJ Y (KC Y k) E M t m:=h.imp λ_ _ _ _ _ _ _ _ _ R q=>Dn.cn (R.hp k) q
def Rel.freeze(R:Rel Y M B U As Z H T)(h:∀a∈A,U a=none/\∀i,a∉As i):Rel Y M (Mi.frz B H A) (Mi.frz U H A) As Z H T/\Ex B U (Mi.frz B H A) (Mi.frz U H A):=by
 refine⟨R.grow (bx R.bh) (bx R.uh) (Same.refl _) (kR R.bu) (nz R.uh) λi a b=>?_,bx R.bh,bx R.uh,λa o q=>?_⟩
 · unfold Mi.frz;split
   ·rename_i z;exact absurd b ((h a z).2 i)
   ·exact R.un i a b
 · unfold Mi.frz at q;split at q
   ·rename_i z;exact .inr (.inl (h a z).1)
   ·exact .inl q
def Rel.apart(R:Rel Y M B U As Z H T)(n:New N H J As):∀a∈N,∀i,a∉As i:=λa b i=>R.fresh (n.fr a b) i
def oF(h:PJ Y (KO Y s) E M t m):PJ Y (KR Y .F) E M t m:=by
 intro B U As Z H T Q R P;refine h B U As Z H T Q R ?_;cases e:m T with
 |ok d=>
   rw[e]at P;intro v S J H' N i g f j;obtain⟨R2,k⟩:=i.freeze λa b=>⟨f.un a b,R.apart f a b⟩;refine P v _ _ H' [] R2 ⟨g.toEx.trans k,g.h,λa o q=>?_⟩ New.nil (Ow.dn (bx i.bh) (λa b o q=>?_) j)
   · unfold Mi.frz at q;split at q
     ·rename_i z;exact .inr (.inl (f.fr a z))
     ·exact g.fr a o q
   ·unfold Mi.frz;rw[if_pos b];exact q
 |exc c=>rw[e]at P;exact P
 |bad=>rw[e]at P;exact P
def oc(h:PJ Y (KO Y (.ct .fz)) E M t m):PJ Y (KC Y .F) E M t m:=rc (oF h)
end
def bQ(h:rg l i=some x):l[i]?=some (some x):=by
 unfold rg at h;cases e:l[i]? with
 |none=>rw[e]at h;cases h
 |some o=>rw[e]at h;exact congrArg some h
def tL{K:KT D V}(f:∀(B U:Hp) (A:List Addr) (H:Hp) (d:D) (v:V) (s:Option V),Same B U->Same U H->Lo Y B U H (M.getD i .F) (some d) s A->s=some v->K d v B U H []):PJ Y K E M (cK i) (vr i):=by
 intro B U As Z H T Q R P;unfold vr at P;have l:=R.lo i;cases e:rg T i with
 |none=>rw[e]at P;exact P.elim
 |some d=>
   rw[e]at P l;obtain⟨v,a,q⟩:=id l;exact⟨v,bQ a,P v B U H [] R (Gw.refl _ _ _) New.nil (f B U _ H d v _ R.bu R.uh l a)⟩
def gP(l:Lo Y B U H m (some d) s A)(b:s=some v):LoV Y B U H m d v A:=by
 obtain⟨w,a,q⟩:=l;rw[b]at a;cases a;exact q
def xF(b:M.getD i .F= .F):PJ Y (KR Y .F) E M (cK i) (vr i):=tL λB U As H d v s _ _ l a=>by
 rw[b]at l;exact(gP l a).1
def xR(b:M.getD i .F= .R):PJ Y (KR Y .U) E M (cK i) (vr i):=tL λB U As H d v s _ _ l a=>by
 rw[b]at l;exact(gP l a).1
def xO(c:M.getD i .F= .O sh):PJ Y (KR Y .X) E M (cK i) (vr i):=tL λB U As H d v s b u l a=>by
 rw[c]at l;exact Ow.dn (b.trans u) (λ_ _ _ q=>q) (gP l a)
def Ow.cn(f:Same B H)(h:Ow Y B H d (.ct .fz) v A):Cn Y B H d v:=by
 cases d with
 |lst ds=>rw[Ow]at h;obtain⟨a,xs,i,r,b,c,g⟩:=h;exact⟨a,xs,r,b,(Ows.fz g).1⟩
 |dK j ds=>rw[Ow]at h;obtain⟨a,xs,i,r,b,c,g,e⟩:=h;exact⟨a,xs,r,b,c,(Ows.fz e).1⟩
 |dT j ds=>rw[Ow]at h;obtain⟨a,xs,i,r,b,c,g,e⟩:=h;exact⟨a,xs,r,.inl b,c,(Ows.fz e).1⟩
 |_=>simp[Ow]at h
def xC(c:M.getD i .F= .O (.ct .fz)):PJ Y (KC Y .F) E M (cK i) (vr i):=tL λB U As H d v s b u l a=>by
 rw[c]at l;exact Ow.cn (b.trans u) (gP l a)
def U6(h:∀G,Dn Y G d v):PJ Y (KR Y .F) E M (tC v) (ax d):=λB U As Z H T Q R P=>P v B U H [] R (Gw.refl _ _ _) New.nil (h _)
def pI:PJ Y (KR Y .F) E M (tC (.int i)) (ax (.int i)):=U6 λ_=>by rw[Dn]
def pB:PJ Y (KR Y .F) E M (tC (.bl b)) (ax (.bl b)):=U6 λ_=>by rw[Dn]
def pS:PJ Y (KR Y .F) E M (tC (.str x)) (ax (.str x)):=U6 λ_=>by rw[Dn]
def pN:PJ Y (KR Y .F) E M (tC .non) (ax .non):=U6 λ_=>by rw[Dn]
def pT:PJ Y (KR Y .F) E M (tC (.ty n)) (ax (.ty n)):=U6 λ_=>by rw[Dn]
end
def gS(neg:Bool)(x y:D):Res D:=if mN y=true then .ok (.bl (neg.xor (mN x))) else .bad
def b6(m:P1->Res D):P1->Res Bool:=λT=>(m T).bind Cc
def uX(a b:P1->Res Bool):P1->Res Bool:=λT=>(a T).bind λc=>if c=true then b T else .ok false
def yq(a b:P1->Res Bool):P1->Res Bool:=λT=>(a T).bind λc=>if c=true then .ok true else b T
def qU(a:P1->Res Bool):P1->Res Bool:=λT=>(a T).bind λc=>.ok (!c)
section
variable{Y:Cm}{E:XK}{M:List Md}
def S2(Y:Cm)(r:R2)(f:D->D->Res D):Prop:=∀H x y v u,Dn Y H x v->Dn Y H y u->match f x y with
 |.ok d=>∃w,(∀G,Dn Y G d w)/\∀Q:VK,Q w H->r v u H Q
 |.exc _=>False
 |.bad=>True
def S1(Y:Cm)(r:V->Hp->VK->Prop)(f:D->Res D):Prop:=∀H x v,Dn Y H x v->match f x with
 |.ok d=>∃w,(∀G,Dn Y G d w)/\∀Q:VK,Q w H->r v H Q
 |.exc _=>False
 |.bad=>True
section
variable{r:R2}{r1:V->Hp->VK->Prop}{rb:List V->Hp->VK->Prop}{f:D->D->Res D}{f1:D->Res D}{ta tb:TE}{ma mb:P1->Res D}
def PL(h:S2 Y r f)(j:PJ Y (KR Y .X) E M ta ma)(i:PJ Y (KR Y .X) E M tb mb):PJ Y (KR Y .F) E M (DM r ta tb) (bn f ma mb):=by
 intro B U As Z H T Q R P;refine j.bnd R P λx v I U1 H1 L _ p e1 z n W=>i.bnd p W λy u s o b A _ R2 l t m a=>?_;have q:=h b x y v u (Dn.mono l.h n) m;cases e:f x y with
 |ok d=>
   rw[e]at q a;obtain⟨w,g,k⟩:=q;exact k Q (a w s o b [] R2 (Gw.refl _ _ _) New.nil (g _))
 |exc c=>rw[e]at q;exact q.elim
 |bad=>rw[e]at a;exact a.elim
def UN(h:S1 Y r1 f1)(b:PJ Y (KR Y .X) E M ta ma):PJ Y (KR Y .F) E M (XN r1 ta) (un f1 ma):=by
 intro B U As Z H T Q R P;refine b.bnd R P λx v I U1 H1 L _ g e1 i f W=>?_;have q:=h H1 x v f;cases e:f1 x with
 |ok d=>
   rw[e]at q W;obtain⟨w,a,k⟩:=q;exact k Q (W w I U1 H1 [] g (Gw.refl _ _ _) New.nil (a _))
 |exc c=>rw[e]at q;exact q.elim
 |bad=>rw[e]at W;exact W.elim
def M8(h:S1 Y (λv H Q=>rb [v] H Q) f1)(a:PJ Y (KR Y .X) E M ta ma):PJ Y (KR Y .F) E M (xK rb (aN ta bT)) (un f1 ma):=UN h a
def FA(h:S2 Y (λv u H Q=>rb [v,u] H Q) f)(b:PJ Y (KR Y .X) E M ta ma)(a:PJ Y (KR Y .X) E M tb mb):PJ Y (KR Y .F) E M (xK rb (aN ta (aN tb bT))) (bn f ma mb):=PL h b a
end
def S2.imp{r a:R2}(h:S2 Y r f)(k:∀x y H Q,r x y H Q->a x y H Q):S2 Y a f:=by
 intro H x y v u g b;have q:=h H x y v u g b;cases e:f x y with
 |ok d=>
   rw[e]at q;obtain⟨w,i,q⟩:=q;exact⟨w,i,λQ z=>k _ _ _ _ (q Q z)⟩
 |exc c=>rw[e]at q;exact q
 |bad=>trivial
def Xp{g:Int->Int->Int}:S2 Y (yn λi j=>.int (g i j)) (iI g):=by
 intro H x y v u b a;cases x with
 |int i=>
   cases y with
   |int j=>
     rw[Dn]at b;rw[Dn]at a;subst b a;exact⟨.int (g i j),λ_=>by rw[Dn],λQ q=>⟨i,j,rfl,rfl,q⟩⟩
   |_=>trivial
 |_=>trivial
def XZ{g:Int->Int->Bool}:S2 Y (yn λi j=>.bl (g i j)) (iB g):=by
 intro H x y v u b a;cases x with
 |int i=>
   cases y with
   |int j=>
     rw[Dn]at b;rw[Dn]at a;subst b a;exact⟨.bl (g i j),λ_=>by rw[Dn],λQ q=>⟨i,j,rfl,rfl,q⟩⟩
   |_=>trivial
 |_=>trivial
def Xo{C:Int->Int->Prop}{c:Int->Int->Bool}{g:Int->Int->Int}(d:∀i j,c i j=true->C i j):S2 Y (rI C λi j=>.int (g i j)) (iC c g):=by
 intro H x y v u b a;cases x with
 |int i=>
   cases y with
   |int j=>
     rw[Dn]at b;rw[Dn]at a;subst b a;unfold iC;dsimp only;by_cases z:c i j=true
     ·rw[YG z];exact⟨.int (g i j),λ_=>by rw[Dn],λQ q=>⟨i,j,rfl,rfl,d i j z,q⟩⟩
     ·rw[on z];trivial
   |_=>trivial
 |_=>trivial
def Us:S2 Y (yn λi j=>.int (i+j)) lF:=Xp
def T6:S2 Y (yn λi j=>.int (i-j)) sX:=Xp
def XT:S2 Y (yn λi j=>.bl (decide (i<j))) G4:=XZ
def XW:S2 Y (yn λi j=>.bl (decide (j<i))) DS:=XZ
def XX:S2 Y (yn λi j=>.bl (decide (j<=i))) XC:=XZ
def Ue:S2 Y (rI CMul λi j=>.int (i*j)) tP:=Xo λ_ _ h=>by simpa [CMul] using h
def OQ:S2 Y (rI TC λi j=>.int (i / j)) eC:=Xo λ_ _ h=>by simpa [TC] using h
def Uf:S2 Y (rI (λ_ j=>0<j) λi j=>.int (i%j)) cX:=Xo λ_ _ h=>Ac2 h
def T7:S2 Y (rI (λ_ j=>0<=j) λi j=>.int (i / 2 ^ j.toNat)) En:=Xo λ_ _ h=>Ac2 h
def Ug:S2 Y (λv u H Q=>∃i j,[v,u]=[.int i,.int j]/\Q (.int (if j<i then j else i)) H) tQ:=(Xp (g:=λi j=>if j<i then j else i)).imp λx y H Q ⟨i,j,c,b,a⟩=>⟨i,j,by rw[c,b],a⟩
def Uh:S2 Y (λv u H Q=>∃i j,[v,u]=[.int i,.int j]/\Q (.int (if j>i then j else i)) H) tR:=(Xp (g:=λi j=>if j>i then j else i)).imp λx y H Q ⟨i,j,c,b,a⟩=>⟨i,j,by rw[c,b],a⟩
def Ud:S1 Y (rU λi=>.int (-i)) CJ:=by
 intro H x v a;cases x with
 |int i=>
   rw[Dn]at a;subst a;exact⟨.int (-i),λ_=>by rw[Dn],λQ q=>⟨i,rfl,q⟩⟩
 |_=>trivial
def MS(neg:Bool):S2 Y (λx y H Q=>OF x y=true/\Q (.bl (neg.xor (decide (x=y)))) H) (sn neg):=by
 intro H x y v u b a;cases x with
 |int i=>
   cases y with
   |int j=>
     rw[Dn]at b;rw[Dn]at a;subst b a;exact⟨_,λ_=>by rw[Dn],λQ q=>⟨rfl,by simpa using q⟩⟩
   |non=>
     rw[Dn]at b;rw[Dn]at a;subst b a;exact⟨_,λ_=>by rw[Dn],λQ q=>⟨rfl,by simpa using q⟩⟩
   |_=>trivial
 |str i=>
   cases y with
   |str j=>
     rw[Dn]at b;rw[Dn]at a;subst b a;exact⟨_,λ_=>by rw[Dn],λQ q=>⟨rfl,by simpa using q⟩⟩
   |_=>trivial
 |bl i=>
   cases y with
   |bl j=>
     rw[Dn]at b;rw[Dn]at a;subst b a;exact⟨_,λ_=>by rw[Dn],λQ q=>⟨rfl,by simpa using q⟩⟩
   |_=>trivial
 |non=>
   cases y with
   |int j=>
     rw[Dn]at b;rw[Dn]at a;subst b a;exact⟨_,λ_=>by rw[Dn],λQ q=>⟨rfl,by simpa using q⟩⟩
   |non=>
     rw[Dn]at b;rw[Dn]at a;subst b a;exact⟨_,λ_=>by rw[Dn],λQ q=>⟨rfl,by simpa using q⟩⟩
   |_=>trivial
 |_=>cases y<;>trivial
def XY:S2 Y rEq (sn false):=(MS false).imp λx y H Q h=>⟨h.1,by simpa using h.2⟩
def XR:S2 Y rNe (sn true):=(MS true).imp λx y H Q h=>⟨h.1,by simpa using h.2⟩
def Dn.non(h:Dn Y G d v):decide (v=.non)=mN d:=by
 cases d with
 |non=>rw[Dn]at h;subst h;rfl
 |bl _=>rw[Dn]at h;subst h;rfl
 |int _=>rw[Dn]at h;subst h;rfl
 |str _=>rw[Dn]at h;subst h;rfl
 |ty _=>rw[Dn]at h;subst h;rfl
 |lst _=>rw[Dn]at h;obtain⟨a,xs,e,_⟩:=h;subst e;rfl
 |scr _=>rw[Dn]at h;obtain⟨a,xs,e,_⟩:=h;subst e;rfl
 |tup _=>rw[Dn]at h;obtain⟨a,xs,e,_⟩:=h;subst e;rfl
 |dK _ _=>rw[Dn]at h;obtain⟨a,xs,e,_⟩:=h;subst e;rfl
 |dT _ _=>rw[Dn]at h;obtain⟨a,xs,e,_⟩:=h;subst e;rfl
 |obj _ _ _=>rw[Dn]at h;obtain⟨a,dx,xs,e,_⟩:=h;subst e;rfl
def XU:S2 Y (λx y H Q=>y=.non/\Q (.bl (decide (x=.non))) H) (gS false):=by
 intro H x y v u b a;unfold gS;by_cases e:mN y=true
 · rw[YG e]
   have:decide (u=.non)=true:=by rw[Dn.non a];exact e
   refine⟨_,λ_=>by rw[Dn],λQ q=>⟨Ac2 this,?_⟩⟩;rw[Dn.non b];simpa using q
 ·rw[on e];trivial
def ON:S2 Y (λx y H Q=>y=.non/\Q (.bl (!decide (x=.non))) H) (gS true):=by
 intro H x y v u b a;unfold gS;by_cases e:mN y=true
 · rw[YG e]
   have:decide (u=.non)=true:=by rw[Dn.non a];exact e
   refine⟨_,λ_=>by rw[Dn],λQ q=>⟨Ac2 this,?_⟩⟩;rw[Dn.non b];simpa using q
 ·rw[on e];trivial
def Uj:S1 Y (λv H Q=>∃p e,[v]=[.ref p]/\(SqL Y.K H p e\/SqT Y.K H p e)/\Q (.int e.length) H) gq:=by
 intro H x v b;cases x with
 |lst ds=>
   rw[Dn]at b;obtain⟨a,xs,rfl,d,c⟩:=b;exact⟨.int ds.length,λ_=>by rw[Dn],λQ q=>⟨a,xs,rfl,.inl (SqL.of d),by rw[<-c.len];exact q⟩⟩
 |scr ds=>
   rw[Dn]at b;obtain⟨a,xs,rfl,d,c⟩:=b;exact⟨.int ds.length,λ_=>by rw[Dn],λQ q=>⟨a,xs,rfl,.inl d.sq,by rw[<-c.len];exact q⟩⟩
 |tup ds=>
   rw[Dn]at b;obtain⟨a,xs,rfl,d,c⟩:=b;exact⟨.int ds.length,λ_=>by rw[Dn],λQ q=>⟨a,xs,rfl,.inr (SqT.of d),by rw[<-c.len];exact q⟩⟩
 |_=>trivial
def UR(d:PJ Y (KR Y .X) E M ta c):PJ Y (KR Y .F) E M (D6 ta) (un Ln c):=by
 intro B U As Z H T Q R P;refine d.bnd R P λx v I U1 H1 L _ e e1 f a W=>?_;cases x with
 |bl b=>
   have a:Dn Y H1 (.bl b) v:=a;rw[Dn]at a;exact⟨b,a,W _ I U1 H1 [] e (Gw.refl _ _ _) New.nil (show Dn Y _ (.bl (!b)) _ by rw[Dn])⟩
 |_=>exact W.elim
def M6{t:TE}(h:PJ Y (KR Y .X) E M t m):PJ Y KB E M (λZ H Q=>t Z H λx H1=>∃c,x=.bl c/\Q c H1) (b6 m):=by
 intro B U As Z H T Q R P;refine h.bnd R P λx v I U1 H1 L _ d e1 e a W=>?_;cases x with
 |bl b=>
   have a:Dn Y H1 (.bl b) v:=a;rw[Dn]at a;exact⟨b,a,W _ I U1 H1 [] d (Gw.refl _ _ _) New.nil rfl⟩
 |_=>exact W.elim
def X9(h:PJ Y (KR Y .X) E M t m):PJ Y KB E M (tB t) (b6 m):=M6 h
def X8(h:PJ Y (KR Y .X) E M t m):PJ Y KB E M (D4 t) (b6 m):=M6 h
def O5(h:PJ Y KB E M t m)(k:PJ Y KB E M u n):PJ Y KB E M (Oz t u) (uX m n):=by
 intro B U As Z H T Q R P;refine h.bnd R P λx v I U1 H1 L _ a e1 c b W=>?_;cases b;cases x with
 |true=>exact k I U1 As Z H1 T Q a W
 |false=>exact W _ I U1 H1 [] a (Gw.refl _ _ _) New.nil rfl
def UB(h:PJ Y KB E M t m)(k:PJ Y KB E M u n):PJ Y KB E M (XQ t u) (yq m n):=by
 intro B U As Z H T Q R P;refine h.bnd R P λx v I U1 H1 L _ a e1 c b W=>?_;cases b;cases x with
 |false=>exact k I U1 As Z H1 T Q a W
 |true=>exact W _ I U1 H1 [] a (Gw.refl _ _ _) New.nil rfl
def Kt(h:PJ Y KB E M t m):PJ Y KB E M (Ot t) (qU m):=by
 intro B U As Z H T Q R P;refine h.bnd R P λx v I U1 H1 L _ b e1 c a W=>?_;cases a;exact W _ I U1 H1 [] b (Gw.refl _ _ _) New.nil rfl
def U8(i:PJ Y (KR Y .X) E M ta a)(h:PJ Y (KR Y k) E M tb f):PJ Y (KR Y k) E M (Eb ta tb) (Jd a f):=by
 intro B U As Z H T Q R P;unfold Jd at P
 have j:Po Y (KR Y k) E M B U As Z H T ((a T).bind λx=>(Cc x).bind λc=>if c=true then f T else .ok (.bl false)) Q:=by
  cases e:a T<;>(rw[e]at P;exact P)
 refine i.bnd R j λx v I U1 H1 L _ g e1 l d W=>?_;cases x with
 |bl b=>
   have d:Dn Y H1 (.bl b) v:=d;rw[Dn]at d;refine⟨b,d,?_⟩;cases b with
   |true=>exact h I U1 As Z H1 T Q g W
   |false=>exact W _ I U1 H1 [] g (Gw.refl _ _ _) New.nil (show Dn Y _ (.bl false) _ by rw[Dn])
 |_=>exact W.elim
def Ye(i:PJ Y (KR Y .X) E M ta a)(h:PJ Y (KR Y k) E M tb f):PJ Y (KR Y k) E M (Os ta tb) (U9 a f):=by
 intro B U As Z H T Q R P;unfold U9 at P
 have j:Po Y (KR Y k) E M B U As Z H T ((a T).bind λx=>(Cc x).bind λc=>if c=true then .ok (.bl true) else f T) Q:=by
  cases e:a T<;>(rw[e]at P;exact P)
 refine i.bnd R j λx v I U1 H1 L _ g e1 l d W=>?_;cases x with
 |bl b=>
   have d:Dn Y H1 (.bl b) v:=d;rw[Dn]at d;refine⟨b,d,?_⟩;cases b with
   |false=>exact h I U1 As Z H1 T Q g W
   |true=>exact W _ I U1 H1 [] g (Gw.refl _ _ _) New.nil (show Dn Y _ (.bl true) _ by rw[Dn])
 |_=>exact W.elim
end
section
variable{Y:Cm}{E:XK}{M:List Md}{K:F0}
def eG(h:n<=af):n<sizeLine:=by
 have:=Ak3
 unfold af at h;omega
def BM(h:Dns Y G ds xs)(e:ke ds i=some d):∃v,ke xs i=some v/\Dn Y G d v:=by
 unfold ke at e ⊢;rw[<-h.len];cases q:oB ds.length i with
 |none=>rw[q]at e;cases e
 |some j=>
   rw[q]at e;exact h.get e
def UV(A:PJ Y (KC Y k) E M ta s)(z:PJ Y (KR Y .X) E M tb p):PJ Y (KR Y k) E M (DM (Kn Y.K) ta tb) (bn ki s p):=by
 intro B U As Z H T Q R P;refine A.bnd R P λx v I U1 H1 L _ G e1 N F W=>z.bnd G W λy u o n j O _ R2 t J b g=>?_;have c:=Cn.mono (gU t) t.h F;have b:Dn Y j y u:=b
 have f:∀(ds:List D) (i:Int),Po Y (KR Y k) E M o n As Z j T (Mq ds i) Q->∀xs,Dns Y (hp k o n j) ds xs->∃w,ke xs i=some w/\Q w j:=λds i P3 xs h=>by
  unfold Mq at P3;cases q:ke ds i with
  |none=>rw[q]at P3;exact P3.elim
  |some d=>
    rw[q]at P3;obtain⟨w,e,C⟩:=BM h q;exact⟨w,e,P3 w o n j [] R2 (Gw.refl _ _ _) New.nil C⟩
 cases x with
 |lst ds=>
   cases y with
   |int i=>
     rw[Dn]at b;obtain⟨a,xs,r,m,l⟩:=c;obtain⟨w,e,q⟩:=f ds i g xs l;exact⟨a,xs,i,w,r,b,SqL.of m,e,q⟩
   |_=>exact g.elim
 |scr ds=>
   cases y with
   |int i=>
     rw[Dn]at b;obtain⟨a,xs,r,m,l⟩:=c;obtain⟨w,e,q⟩:=f ds i g xs l;exact⟨a,xs,i,w,r,b,m.sq,e,q⟩
   |_=>exact g.elim
 |_=>cases y<;>exact g.elim
def UU(s:PJ Y (KC Y k) E M ta j)(p:PJ Y (KR Y .X) E M tb g):PJ Y (KR Y k) E M (DM (OX K) ta tb) (bn r6 j g):=by
 intro B U As Z H T Q R P;refine s.bnd R P λx v I U1 H1 L _ F e1 J C W=>p.bnd F W λy u n m f N _ R2 l G b e=>?_;have c:=Cn.mono (gU l) l.h C;have b:Dn Y f y u:=b;cases x with
 |tup ds=>
   cases y with
   |int i=>
     rw[Dn]at b;obtain⟨a,xs,r,z,t⟩:=c;have P3:Po Y (KR Y k) E M n m As Z f T (Mq ds i) Q:=e;unfold Mq at P3;cases q:ke ds i with
     |none=>rw[q]at P3;exact P3.elim
     |some d=>
       rw[q]at P3;obtain⟨w,o,A⟩:=BM t q;exact⟨a,xs,i,w,r,b,SqT.of z,o,P3 w n m f [] R2 (Gw.refl _ _ _) New.nil A⟩
   |_=>exact e.elim
 |_=>cases y<;>exact e.elim
def R5:PJ Y (KL Y k) E M bT aB:=λB U As Z H T Q R P=>P [] B U H [] R (Gw.refl _ _ _) New.nil (show Dns Y _ [] [] by rw[Dns])
def L3(e:PJ Y (KR Y k) E M ta c)(d:PJ Y (KL Y k) E M a b):PJ Y (KL Y k) E M (aN ta a) (aj c b):=by
 intro B U As Z H T Q R P;refine e.bnd R P λx v I U1 H1 L _ j e1 p h W=>d.bnd j W λy u n i m q _ R2 f o g l=>?_;refine l (v::u) n i m [] R2 (Gw.refl _ _ _) New.nil ?_;show Dns Y _ (x::y) (v::u);rw[Dns];exact⟨v,u,rfl,Dn.mono (gU f) h,g⟩
variable{B U H:Hp}{As:Nat->List Addr}{Z:St}{T:P1}
def Gw.newO(R:Rel Y M B U As Z H T)(h:H p=none):Gw B U H B U (upd H p o):=⟨Ex.refl _ _,Gd.b9 h,λ_ _ q=>.inl q⟩
def Gw.newB(R:Rel Y M B U As Z H T)(h:H p=none):Gw B U H (upd B p o) (upd U p o) (upd H p o):=⟨Ex.newB R h,Gd.b9 h,λa u q=>by
 by_cases z:a=p
 ·subst z;exact .inr (.inl h)
 ·rw[aq z]at q;exact .inl q⟩
def New.one(R:Rel Y M B U As Z H T)(h:H p=none):New [p] H U As:=⟨by simp,λa b=>by rw[YT.mp b];exact h,λa b=>by rw[YT.mp b];exact R.uh.free h⟩
def dX(R:Rel Y M B U As Z H T){Q:VK}(P:Po Y (KO Y (.ct .fz)) E M B U As Z H T (.ok (.lst ds)) Q)(h:Dns Y B ds xs)(hp:H p=none):Q (.ref p) (upd H p (.lst xs)):=
 P (.ref p) B U _ [p] (R.new hp) (Gw.newO R hp) (New.one R hp) (by
  show Ow Y B _ (.lst ds) (.ct .fz) (.ref p) [p];rw[Ow]
  exact⟨p,xs,[],rfl,ay,rfl,Ows.of h⟩)
def n8(R:Rel Y M B U As Z H T){Q:VK}(P:Po Y (KR Y .F) E M B U As Z H T (.ok (.tup ds)) Q)(h:Dns Y B ds xs)(hp:H p=none):Q (.ref p) (upd H p (.tup xs)):=
 P (.ref p) _ _ _ [] (R.newB hp) (Gw.newB R hp) New.nil (by
  show Dn Y (upd B p (.tup xs)) (.tup ds) (.ref p);rw[Dn]
  exact⟨p,xs,rfl,ay,h.mono (Gd.b9 (R.bh.free hp))⟩)
section
variable{t:TA}{m:P1->Res (List D)}
def US(h:PJ Y (KL Y .F) E M t m):PJ Y (KO Y (.ct .fz)) E M (Ou t) (jL m):=by
 intro B U As Z H T Q R P;refine h.bnd R P λds xs I U1 H1 L _ b e1 c a W=>?_;by_cases z:ds.length<=af
 ·rw[YG z]at W;have a:Dns Y I ds xs:=a;exact⟨ZO (eG (by rw[<-a.len];exact z)),λp hp=>dX b W a hp⟩
 ·rw[on z]at W;exact W.elim
def UO(h:PJ Y (KL Y .F) E M t m):PJ Y (KR Y .F) E M (JI t) (iW m):=by
 intro B U As Z H T Q R P;refine h.bnd R P λds xs I U1 H1 L _ b e1 c a W=>?_;by_cases z:ds.length<=af
 ·rw[YG z]at W;have a:Dns Y I ds xs:=a;exact⟨ZO (eG (by rw[<-a.len];exact z)),λp hp=>n8 b W a hp⟩
 ·rw[on z]at W;exact W.elim
end
def UY:PJ Y (KO Y (.ct .fz)) E M xZ (ax (.dT [] [])):=by
 intro B U As Z H T Q R P p hp;refine P (.ref p) B U _ [p] (R.new hp) (Gw.newO R hp) (New.one R hp) ?_;show Ow Y B _ (.dT [] []) (.ct .fz) (.ref p) [p];rw[Ow];exact⟨p,[],[],rfl,ay,rfl,rfl,Ows.of (by rw[ZL,Dns])⟩
def UZ:PJ Y (KO Y (.ct .fz)) E M x5 (ax (.dK [] [])):=by
 intro B U As Z H T Q R P p hp;refine P (.ref p) B U _ [p] (R.new hp) (Gw.newO R hp) (New.one R hp) ?_;show Ow Y B _ (.dK [] []) (.ct .fz) (.ref p) [p];rw[Ow];exact⟨p,[],[],rfl,ay,rfl,rfl,Ows.of (by rw[ZL,Dns])⟩
def S8(l:Cn Y G H x v)(k:Cn Y G H y u){C:Res D->Prop}(f:C .bad->False)(P:C (zB x y)){Q:VK}
 (h:∀ds c xs d,Dns Y G (ds++c) (xs++d)->C (.ok (.lst (ds++c)))->∀p,H p=none->Q (.ref p) (upd H p (.lst (xs++d)))):OY v u H Q:=by
 cases x with
 |lst ds=>
   cases y with
   |lst c=>
     obtain⟨a,xs,r,n,i⟩:=l;obtain⟨b,d,j,m,g⟩:=k;have e:C (if ds.length+c.length<=af then .ok (.lst (ds++c)) else .bad):=P;by_cases z:ds.length+c.length<=af
     ·rw[YG z]at e;exact⟨a,b,xs,d,r,j,n,m,ZO (eG (by rw[<-i.len,<-g.len];exact z)),h ds c xs d (i.append g) e⟩
     ·rw[on z]at e;exact(f e).elim
   |_=>exact(f P).elim
 |_=>cases y<;>exact(f P).elim
def U5(g:PJ Y (KC Y .F) E M ta c)(f:PJ Y (KC Y .F) E M tb a):PJ Y (KO Y (.ct .fz)) E M (DM OY ta tb) (bn zB c a):=by
 intro B U As Z H T Q R P;refine g.bnd R P λx v I U1 H1 L _ l e1 s j W=>f.bnd l W λy u e k n w _ R2 d q i m=>?_;exact S8 (G:=e) (Cn.mono d.b d.h j) i (C:=λr=>Po Y (KO Y (.ct .fz)) E M e k As Z n T r Q) (λh=>h) m λds t xs o h P3 p hp=>dX R2 P3 h hp
def C0(e:Cn Y G H x v){C:Res D->Prop}(f:C .bad->False)(P:C (lU x)){Q:VK}
 (h:∀ds xs,Dns Y G ds xs->C (.ok (.lst ds))->∀p,H p=none->Q (.ref p) (upd H p (.lst xs))):∃p d,[v]=[.ref p]/\(SqL Y.K H p d\/SqT Y.K H p d)/\∀l,H l=none->Q (.ref l) (upd H l (.lst d)):=by
 cases x with
 |lst ds=>
   obtain⟨a,xs,r,c,b⟩:=e;exact⟨a,xs,by rw[r],.inl (SqL.of c),h ds xs b P⟩
 |scr ds=>
   obtain⟨a,xs,r,c,b⟩:=e;exact⟨a,xs,by rw[r],.inl c.sq,h ds xs b P⟩
 |tup ds=>
   obtain⟨a,xs,r,c,b⟩:=e;exact⟨a,xs,by rw[r],.inr (SqT.of c),h ds xs b P⟩
 |_=>exact(f P).elim
def PX(c:PJ Y (KC Y .F) E M ta b):
 PJ Y (KO Y (.ct .fz)) E M (xK (λxs H Q=>∃p a,xs=[.ref p]/\(SqL Y.K H p a\/SqT Y.K H p a)/\∀l,H l=none->Q (.ref l) (upd H l (.lst a))) (aN ta bT)) (un lU b):=by
 intro B U As Z H T Q R P;refine c.bnd R P λx v I U1 H1 L _ e e1 f d W=>?_;exact C0 (G:=I) d (C:=λr=>Po Y (KO Y (.ct .fz)) E M I U1 As Z H1 T r Q) (λh=>h) W λds xs h P3 p hp=>dX e P3 h hp
def xT:D->Res D | .lst xs=>.ok (.tup xs)|_=>.bad
def K7(d:PJ Y (KC Y .F) E M ta c):
 PJ Y (KR Y .F) E M (xK (λxs H Q=>∃p b,xs=[.ref p]/\((SqL K H p b/\∀l,H l=none->Q (.ref l) (upd H l (.tup b)))\/(SqT K H p b/\Q (.ref p) H))) (aN ta bT)) (un xT c):=by
 intro B U As Z H T Q R P;refine d.bnd R P λx v I U1 H1 L _ h e1 i g W=>?_;cases x with
 |lst ds=>
   obtain⟨a,xs,r,f,e⟩:=g;exact⟨a,xs,by rw[r],.inl ⟨SqL.of f,λp hp=>n8 h W e hp⟩⟩
 |_=>exact W.elim
def fh:∀{ds:List D} {xs:List V} {k:List aH},bH ds=some k->Dns Y G ds xs->xs=k.map kV
 |[],_,_,e,h=>by rw[Dns]at h;cases e;rw[h];rfl
 | d::ds,_,k,e,h=>by
   rw[Dns]at h;obtain⟨x,r,rfl,a,c⟩:=h;unfold bH at e;cases q:aJ d with
   |none=>rw[q]at e;cases e
   |some g=>
     cases b:bH ds with
     |none=>rw[q,b]at e;cases e
     |some f=>
       rw[q,b]at e;cases e;rw[fh b c,YI];congr 1;cases d with
       |int i=>cases q;rw[Dn]at a;exact a
       |str x=>cases q;rw[Dn]at a;exact a
       |_=>cases q
def oz(e:aJ d=some k)(h:Dn Y G d v):v=kV k:=by
 cases d with
 |int i=>cases e;rw[Dn]at h;exact h
 |str x=>cases e;rw[Dn]at h;exact h
 |_=>cases e
def OI(Y:Cm)(G:Hp):Option D->Option V->Prop
 |some d,r=>∃v,r=some v/\Dn Y G d v
 |none,r=>r=none
section
variable{W:Type}[DecidableEq W]
def gp:∀{kvs:List (W×V)} {ds:List D} (j:W),Dns Y G ds (kvs.map (·.2))->OI Y G (bj (kvs.map (·.1)) ds j) (cJ kvs j)
 | [],ds,j,h=>by
   cases ds with
   |nil=>exact DY
   |cons d ds=>rw[Dns]at h;obtain⟨x,r,e,_⟩:=h;cases e
 | p::kvs,ds,j,h=>by
   cases ds with
   |nil=>rw[Dns]at h;cases h
   |cons d ds=>
     rw[List.map_cons,Dns]at h;obtain⟨x,r,e,b,a⟩:=h;cases e;rw[List.map_cons];unfold bj;by_cases q:p.1=j
     ·rw[YG q];exact⟨p.2,kj q,b⟩
     ·rw[on q,kl q];exact gp j a
end
def kP(hd:Cn Y G H d v)(h:Dn Y H k u)(e:jz d k=some o):∃a r,v=.ref a/\Oi H a/\DGet H a u r/\OI Y G o r:=by
 cases d with
 |dT g vs=>
   obtain⟨a,kvs,rfl,f,j,i⟩:=hd;cases k with
   |tup p=>
     have e:(bH p).map (λk=>bj g vs k)=some o:=e;obtain⟨c,n,m⟩:=Y3.mp e;rw[Dn]at h;obtain⟨b,xs,rfl,s,q⟩:=h;have ex:=fh n q;subst ex;refine⟨a,cJ kvs c,rfl,.inr ⟨kvs,f⟩,.inr ⟨kvs,_,_,f,rfl,s,rfl⟩,?_⟩;have l:=gp (W:=List aH) c i;rw[j,m]at l;exact l
   |_=>cases e
 |dK g vs=>
   obtain⟨a,kvs,rfl,f,j,i⟩:=hd;have e:(aJ k).map (λk=>bj g vs k)=some o:=by cases k<;>exact e
   obtain⟨c,n,m⟩:=Y3.mp e;have ex:=oz n h;subst ex;refine⟨a,cJ kvs c,rfl,.inl ⟨kvs,.inl f⟩,DGet.k f,?_⟩;have l:=gp (W:=aH) c i;rw[j,m]at l;exact l
 |_=>cases k<;>cases e
def P8(hd:PJ Y (KC Y k) E M e f)(j:PJ Y (KR Y .X) E M c mk):PJ Y (KR Y k) E M (D9 e c) (bn k6 f mk):=by
 intro B U As Z H T Q R P;refine hd.bnd R P λx v I U1 H1 L _ z e1 G s W=>j.bnd z W λy u C t A J _ R2 i F p b=>?_;unfold k6 at b;cases q:jz x y with
 |none=>rw[q]at b;exact b.elim
 |some o=>
   obtain⟨a,r,m,_,g,l⟩:=kP (Cn.mono (gU i) i.h s) p q;cases o with
   |none=>rw[q]at b;exact b.elim
   |some d=>
     rw[q]at b;obtain⟨w,rfl,n⟩:=l;exact⟨a,w,m,g,b w C t A [] R2 (Gw.refl _ _ _) New.nil n⟩
def U0(i:PJ Y (KR Y .X) E M c mk)(hd:PJ Y (KC Y k) E M e f):PJ Y (KR Y .F) E M (Oy c e) (bn (mh false) mk f):=by
 intro B U As Z H T Q R P;refine i.bnd R P λy u I U1 H1 L _ t e1 G p W=>hd.bnd t W λx v A s z J _ R2 m C n b=>?_;unfold mh at b;cases q:jz x y with
 |none=>rw[q]at b;exact b.elim
 |some o=>
   rw[q]at b;obtain⟨a,r,j,_,g,l⟩:=kP n (Dn.mono m.h p) q;refine⟨a,r,j,g,b _ A s z [] R2 (Gw.refl _ _ _) New.nil ?_⟩;show Dn Y _ (.bl (false.xor o.isSome)) _;rw[Dn];cases o with
   |none=>rw[show r=none from l];rfl
   |some d=>obtain⟨w,rfl,_⟩:=l;rfl
def P7(i:PJ Y (KR Y .X) E M c mk)(hd:PJ Y (KC Y k) E M e f):PJ Y (KR Y .F) E M (sW c e) (bn (mh true) mk f):=by
 intro B U As Z H T Q R P;refine i.bnd R P λy u I U1 H1 L _ t e1 G p W=>hd.bnd t W λx v A s z J _ R2 m C n b=>?_;unfold mh at b;cases q:jz x y with
 |none=>rw[q]at b;exact b.elim
 |some o=>
   rw[q]at b;obtain⟨a,r,j,_,g,l⟩:=kP n (Dn.mono m.h p) q;refine⟨a,r,j,g,b _ A s z [] R2 (Gw.refl _ _ _) New.nil ?_⟩;show Dn Y _ (.bl (true.xor o.isSome)) _;rw[Dn];cases o with
   |none=>rw[show r=none from l];rfl
   |some d=>obtain⟨w,rfl,_⟩:=l;rfl
def vQ:D->Bool | .dT _ _=>true | .dK _ _=>true|_=>false
def Cn.dic(h:Cn Y G H d v)(e:vQ d=true):∃a,v=.ref a/\Oi H a:=by
 cases d with
 |dT c vs=>obtain⟨a,kvs,r,b,_⟩:=h;exact⟨a,r,.inr ⟨kvs,b⟩⟩
 |dK c vs=>obtain⟨a,kvs,r,b,_⟩:=h;exact⟨a,r,.inl ⟨kvs,.inl b⟩⟩
 |_=>cases e
def vW(b mk a:P1->Res D):P1->Res D:=λT=>(b T).bind λd=>if vQ d=true then (mk T).bind λk=>(a T).bind λx=>ga d k x else .bad
def K9(hd:PJ Y (KC Y k) E M j n)(O:PJ Y (KR Y .X) E M i mk)(N:PJ Y (KR Y k) E M f m):PJ Y (KR Y k) E M (x8 j i f) (vW n mk m):=by
 intro B U As Z H T Q R P;refine hd.bnd R P λx v I U1 H1 L _ R1 e1 n1 t W=>?_;by_cases z:vQ x=true
 · rw[if_pos z]at W;obtain⟨a,p,S⟩:=Cn.dic t z;refine⟨a,p,S,O.bnd R1 W λy u B2 U2 H2 N2 _ R2 s n2 d2 P2=>N.bnd R2 P2 λw J G A F N3 _ C e n3 d3 P3=>?_⟩;unfold ga at P3;have c:=Cn.mono (gU (s.trans e)) (s.trans e).h t;cases q:jz x y with
   |none=>rw[q]at P3;exact P3.elim
   |some o=>
     rw[q]at P3;obtain⟨a',r,b,_,g,l⟩:=kP c (Dn.mono e.h d2) q;rw[p]at b;cases b;cases o with
     |none=>
       refine⟨r,g,?_⟩;rw[show r=none from l];exact P3 J G A F [] C (Gw.refl _ _ _) New.nil d3
     |some d=>
       obtain⟨K,rfl,V⟩:=l;exact⟨_,g,P3 K G A F [] C (Gw.refl _ _ _) New.nil V⟩
 ·rw[on z]at W;exact W.elim
def sj(a mk:P1->Res D):P1->Res D:=λT=>(a T).bind λd=>if vQ d=true then (mk T).bind λk=>ga d k .non else .bad
def La(hd:PJ Y (KC Y k) E M f i)(A:PJ Y (KR Y .X) E M e mk):PJ Y (KR Y k) E M (x9 f e) (sj i mk):=by
 intro B U As Z H T Q R P;refine hd.bnd R P λx v I U1 H1 L _ J e1 N n W=>?_;by_cases z:vQ x=true
 · rw[if_pos z]at W;obtain⟨a,j,C⟩:=Cn.dic n z;refine⟨a,j,C,A.bnd J W λy u t p s S _ R2 m K G P3=>?_⟩;unfold ga at P3;have c:=Cn.mono (gU m) m.h n;cases q:jz x y with
   |none=>rw[q]at P3;exact P3.elim
   |some o=>
     rw[q]at P3;obtain⟨O,r,b,_,g,l⟩:=kP c G q;rw[j]at b;cases b;cases o with
     |none=>
       refine⟨r,g,?_⟩;rw[show r=none from l];exact P3 .non t p s [] R2 (Gw.refl _ _ _) New.nil (show Dn Y _ .non .non by rw[Dn])
     |some d=>
       obtain⟨w,rfl,F⟩:=l;exact⟨_,g,P3 w t p s [] R2 (Gw.refl _ _ _) New.nil F⟩
 ·rw[on z]at W;exact W.elim
end
section
variable{Y:Cm}{E:XK}{M:List Md}{K:F0}{B U H:Hp}{As:Nat->List Addr}{Z:St}{T:P1}
def kH:∀{fs:List (Str×V)} {ds:List D} {f:Str} {d:D},Dns Y G ds (fs.map (·.2))->bj (fs.map (·.1)) ds f=some d->∃v,fs.lookup f=some v/\Dn Y G d v
 |[],ds,f,d,h,e=>by cases ds<;>cases e
 | p::fs,ds,f,d,h,e=>by
   cases ds with
   |nil=>cases e
   |cons d0 ds=>
     rw[List.map_cons,Dns]at h;obtain⟨x,r,e0,c,b⟩:=h;cases e0;rw[List.map_cons]at e;unfold bj at e;by_cases q:p.1=f
     ·rw[YG q]at e;cases e;exact⟨p.2,by rw[Zl,<-q,Z4],c⟩
     · rw[on q]at e;obtain⟨v,a,g⟩:=kH b e
       have:(f==p.1)=false:=Zp.mpr λz=>q z.symm
       exact⟨v,by rw[Zl,this];exact a,g⟩
def Owf.get{sh:List (Str×Sh)}:∀{fs:List (Str×V)} {ds:List D} {A:List Addr} {f:Str} {d:D},Owf Y B H ds (fs.map (·.1)) sh (fs.map (·.2)) A->bj (fs.map (·.1)) ds f=some d->
 ∃v A1,fs.lookup f=some v/\Ow Y B H d ((sh.lookup f).getD .fz) v A1/\∀a∈A1,a∈A
 |[],ds,A,f,d,h,e=>by cases ds<;>cases e
 | p::fs,ds,A,f,d,h,e=>by
   cases ds with
   |nil=>cases e
   |cons d0 ds=>
     rw[List.map_cons,List.map_cons,Owf]at h;obtain⟨n,i,x,r,A1,t,k,h0,o,c,m⟩:=h;cases k;cases h0;subst o;rw[List.map_cons]at e;unfold bj at e;by_cases q:p.1=f
     ·rw[YG q]at e;cases e;rw[q]at c;exact⟨p.2,A1,by rw[Zl,<-q,Z4],c,λa b=>YU _ b⟩
     · rw[on q]at e;obtain⟨v,s,j,g,l⟩:=Owf.get m e
       have:(f==p.1)=false:=Zp.mpr λz=>q z.symm
       exact⟨v,s,by rw[Zl,this];exact j,g,λa b=>YL _ (l a b)⟩
def nA(h:bA c f x=.ok d):∃ns vs,x=.obj c ns vs/\bj ns vs f=some d:=by
 cases x with
 |obj a ns vs=>
   unfold bA at h;dsimp only at h;by_cases e:a=c
   · rw[YG e]at h;subst e;cases q:bj ns vs f with
     |none=>rw[q]at h;cases h
     |some y=>rw[q]at h;cases h;exact⟨ns,vs,rfl,q⟩
   ·rw[on e]at h;cases h
 |_=>cases h
def kT(h:bA c f x=.exc e):False:=by
 cases x with
 |obj a ns vs=>
   have h:(if a=c then (match bj ns vs f with|some x=>Res.ok x|none=>.bad) else .bad)=.exc e:=h;by_cases e:a=c
   ·rw[YG e]at h;cases q:bj ns vs f<;>(rw[q]at h;cases h)
   ·rw[on e]at h;cases h
 |_=>cases h
def UX(i:Cls K (Y c))(h:NoAttr K (Y c) f)(j:PJ Y (KC Y k) E M ta b):PJ Y (KR Y k) E M (nH K ta f) (un (bA c f) b):=by
 intro B U As Z H T Q R P;refine j.bnd R P λx v I U1 H1 L _ s e1 t q W=>?_;cases e:bA c f x with
 |ok d=>
   rw[e]at W;obtain⟨ns,vs,rfl,l⟩:=nA e;obtain⟨a,dx,fs,r,o,n,m⟩:=q;subst n;obtain⟨w,g,p⟩:=kH m l;exact⟨a,_,dx,fs,w,r,o,i,h,g,W w I U1 H1 [] s (Gw.refl _ _ _) New.nil p⟩
 |exc u=>exact(kT e).elim
 |bad=>rw[e]at W;exact W.elim
def PZ{g:KT D V}{sh:List (Str×Sh)}(p:Cls K (Y c))(m:NoAttr K (Y c) f)(n:M.getD i .F= .O (.ob sh))
 (o:∀B U H d v A,Same B U->Same U H->Ow Y B H d ((sh.lookup f).getD .fz) v A->g d v B U H []):PJ Y g E M (nH K (cK i) f) (un (bA c f) (vr i)):=by
 intro B U As Z H T Q R P;have l:=R.lo i;rw[n]at l;unfold un vr at P;cases e:rg T i with
 |none=>rw[e]at P;exact P.elim
 |some d0=>
   rw[e]at P l;obtain⟨v,k,q⟩:=l;replace P:Po Y g E M B U As Z H T (bA c f d0) Q:=P;refine⟨v,bQ k,?_⟩;cases b:bA c f d0 with
   |ok d=>
     rw[b]at P;obtain⟨ns,vs,rfl,l⟩:=nA b;have q:Ow Y B H (.obj c ns vs) (.ob sh) v (As i):=q;rw[Ow]at q;obtain⟨a,dx,fs,z,r,u,t,x,s⟩:=q;subst t;obtain⟨w,A1,j,h,_⟩:=Owf.get s l;exact⟨a,_,dx,fs,w,r,u,p,m,j,P w B U H [] R (Gw.refl _ _ _) New.nil (o B U H d w A1 R.bu R.uh h)⟩
   |exc y=>exact(kT b).elim
   |bad=>rw[b]at P;exact P.elim
def P5{sh:List (Str×Sh)}(j:Cls K (Y c))(e:NoAttr K (Y c) f)(g:M.getD i .F= .O (.ob sh))(h:(sh.lookup f).getD .fz=.ct .fz):PJ Y (KC Y .F) E M (nH K (cK i) f) (un (bA c f) (vr i)):=
 PZ j e g λB U H d v A b u a=>by
  rw[h]at a;exact Ow.cn (b.trans u) a
def Mx(J:It)(H:Hp)(vs:List V):Prop:=∀a,Same H a->(∀i,vs.length<=i->J.stop i a)/\(∀i,i<vs.length->J.go i a)/\∀i x H',i<vs.length->J.yld i a x H'->H'=a/\vs[i]?=some x
def KI(Y:Cm)(k g:Kd):KT (List D) It:=λds J B U H _=>∃vs,Mx J (hp g B U H) vs/\Dns Y (hp k B U H) ds vs
def jk(h:H a=some (.lst xs)\/SqF K H a xs):Mx (YE K a) H xs:=λb s=>by
 have q:SqL K b a xs:=by
  rcases h with h|h
  ·exact .inl (.inl (s _ _ h))
  ·exact(h.mono s).sq
 exact⟨λi hi=>⟨xs,q,hi⟩,λi hi=>⟨xs,xs[i],q,Y1 hi⟩,λi x H' hi y=>⟨y.1,y.2 xs q⟩⟩
def vP(lo:Int)(n:Nat):Mx (Xm lo n) H ((List.range n).map λi:Nat=>V.int (lo+i)):=λb s=>by
 have a:((List.range n).map λi:Nat=>V.int (lo+i)).length=n:=by rw[YJ,Ad7]
 refine⟨λi hi=>by rw[a]at hi;exact hi,λi hi=>by rw[a]at hi;exact hi,λi x H' hi y=>⟨y.1,?_⟩⟩;rw[a]at hi;rw[Y5,Ac7 hi,y.2];rfl
def ub(lo:Int):∀n:Nat,Dns Y G ((List.range n).map λi:Nat=>D.int (lo+i)) ((List.range n).map λi:Nat=>V.int (lo+i))
 |0=>by rw[List.range_zero,ZL,ZL,Dns]
 | n+1=>by
   rw[List.range_succ,Zr,Zr];exact(ub lo n).append (Dns.one (by rw[Dn]))
def RU(g:PJ Y (KC Y k) E M ta d):PJ Y (KI Y k .X) E M (sf Y.K ta) (fJ d):=by
 intro B U As Z H T Q R P;refine g.bnd R P λx v I U1 H1 L _ f e1 h e W=>?_;cases x with
 |lst ds=>
   obtain⟨a,xs,r,b,c⟩:=e;exact⟨a,r,⟨xs,SqL.of b⟩,W _ I U1 H1 [] f (Gw.refl _ _ _) New.nil ⟨xs,jk (.inl b),c⟩⟩
 |scr ds=>
   obtain⟨a,xs,r,b,c⟩:=e;exact⟨a,r,⟨xs,b.sq⟩,W _ I U1 H1 [] f (Gw.refl _ _ _) New.nil ⟨xs,jk (.inr b),c⟩⟩
 |_=>exact W.elim
def AT(g:PJ Y (KR Y k) E M ta f):PJ Y (KI Y k k) E M (sf Y.K ta) (fJ f):=by
 intro B U As Z H T Q R P;refine g.bnd R P λx v I U1 H1 L _ d e1 h b W=>?_;have b:Dn Y (hp k I U1 H1) x v:=b;cases x with
 |lst ds=>
   rw[Dn]at b;obtain⟨a,xs,r,c,e⟩:=b;exact⟨a,r,⟨xs,SqL.of (d.hp k _ _ c)⟩,W _ I U1 H1 [] d (Gw.refl _ _ _) New.nil ⟨xs,jk (.inl c),e⟩⟩
 |scr ds=>
   rw[Dn]at b;obtain⟨a,xs,r,c,e⟩:=b;exact⟨a,r,⟨xs,(c.mono (d.hp k)).sq⟩,W _ I U1 H1 [] d (Gw.refl _ _ _) New.nil ⟨xs,jk (.inr c),e⟩⟩
 |_=>exact W.elim
def Yn(m:PJ Y (KR Y .X) E M ta f)(l:PJ Y (KR Y .X) E M tb e):PJ Y (KI Y .F g) E M (HJ (aN ta (aN tb bT))) (yb f e):=by
 intro B U As Z H T Q R P;refine m.bnd R P λx v I U1 H1 L _ n e1 p c W=>l.bnd n W λy u k h d r _ R2 q o b a=>?_;have c:Dn Y H1 x v:=c;have b:Dn Y d y u:=b;cases x with
 |int i=>
   cases y with
   |int j=>
     rw[Dn]at c;rw[Dn]at b;subst c b;have a:Po Y (KI Y .F g) E M k h As Z d T (if -(2 ^ 62)<=i/\i<2 ^ 62/\-(2 ^ 62)<=j/\j<2 ^ 62 then .ok (rng i j) else .bad) Q:=a;by_cases z:-(2 ^ 62)<=i/\i<2 ^ 62/\-(2 ^ 62)<=j/\j<2 ^ 62
     ·rw[YG z]at a;exact⟨i,j,rfl,z,a _ k h d [] R2 (Gw.refl _ _ _) New.nil ⟨_,vP i _,ub i _⟩⟩
     ·rw[on z]at a;exact a.elim
   |_=>exact a.elim
 |_=>cases y<;>exact a.elim
def Yo(k:PJ Y (KR Y .X) E M tb c):PJ Y (KI Y .F g) E M (HK (aN tb bT)) (dR c):=by
 intro B U As Z H T Q R P
 have P:Po Y (KI Y .F g) E M B U As Z H T ((c T).bind λy=>match D.int 0,y with
  |.int i,.int j=>if -(2 ^ 62)<=i/\i<2 ^ 62/\-(2 ^ 62)<=j/\j<2 ^ 62 then .ok (rng i j) else .bad
  |_,_=>.bad) Q:=P
 refine k.bnd R P λy u h f d n _ R2 m l b a=>?_;have b:Dn Y d y u:=b;cases y with
 |int j=>
   rw[Dn]at b;subst b;have a:Po Y (KI Y .F g) E M h f As Z d T (if -(2 ^ 62)<=(0:Int)/\(0:Int)<2 ^ 62/\-(2 ^ 62)<=j/\j<2 ^ 62 then .ok (rng 0 j) else .bad) Q:=a;by_cases z:-(2 ^ 62)<=(0:Int)/\(0:Int)<2 ^ 62/\-(2 ^ 62)<=j/\j<2 ^ 62
   · rw[YG z]at a;refine⟨j,rfl,z.2.2.1,z.2.2.2,a _ h f d [] R2 (Gw.refl _ _ _) New.nil ?_⟩;have e:(j-0).toNat=j.toNat:=by rw[Int.sub_zero]
     unfold rng;rw[e];exact⟨_,vP 0 _,ub 0 _⟩
   ·rw[on z]at a;exact a.elim
 |_=>exact a.elim
def zW:rg (x::l) (i+1)=rg l i:=by unfold rg;rw[List.getElem?_cons_succ]
def zV:rg (x::l) 0=x:=by unfold rg;rw[List.getElem?_cons_zero];rfl
def Ey{a:List Nat}:rg (a.map λi=>rg l i) j=match a[j]? with|some i=>rg l i|none=>none:=by
 unfold rg;rw[List.getElem?_map];cases a[j]?<;>rfl
def vv:∀{l:List Nat} {i j:Nat},l.Nodup->(a:i<l.length)->(b:j<l.length)->l[i]=l[j]->i=j
 |[],_,_,_,a,_,_=>by simp at a
 |x::l,0,0,_,_,_,_=>rfl
 | x::l,0,j+1,nd,a,b,e=>by
   have c:j<l.length:=by simpa using b
   exact absurd (show x∈l from by rw[show x=l[j] from e];exact Ah6 c) (Y7.mp nd).1
 | x::l,i+1,0,nd,a,b,e=>by
   have c:i<l.length:=by simpa using a
   exact absurd (show x∈l from by rw[show x=l[i] from e.symm];exact Ah6 c) (Y7.mp nd).1
 | x::l,i+1,j+1,nd,a,b,e=>by
   rw[vv (Y7.mp nd).2 (by simpa using a) (by simpa using b) e]
def Yy(As:Nat->List Addr)(a:List Nat):Nat->List Addr
 |0=>[]
 |j+1=>match a[j]? with|some i=>As i|none=>[]
def jJ(m:Md)(M:List Md)(a:List Nat):List Md:=m::a.map λi=>M.getD i .F
def Rel.inner(R:Rel Y M B U As Z H T){b:List Nat}(k:b.Nodup){m:Md}{d:D}{v:V}(hd:Lo Y B U H m (some d) (some v) []):
 Rel Y (jJ m M b) B U (Yy As b) (some v::iH Z b) H (some d::dH T b) where
 bu:=R.bu
 uh:=R.uh
 nd:=λi=>by
  cases i with
  |zero=>exact ZD
  |succ j=>
    show(match b[j]? with|some i=>As i|none=>[]).Nodup;cases b[j]? with
    |none=>exact ZD
    |some i=>exact R.nd i
 dj:=λi j a h c f=>by
  cases i with
  |zero=>cases c
  |succ i=>
    cases j with
    |zero=>cases f
    |succ j=>
      have c:a∈(match b[i]? with|some i=>As i|none=>[]):=c;have f:a∈(match b[j]? with|some i=>As i|none=>[]):=f;cases g:b[i]? with
      |none=>rw[g]at c;cases c
      |some x=>
        cases l:b[j]? with
        |none=>rw[l]at f;cases f
        |some y=>
          rw[g]at c;rw[l]at f;by_cases e:x=y
          · subst e;obtain⟨p,e1⟩:=Y2.mp g;obtain⟨o,n⟩:=Y2.mp l
            have:=vv k p o (e1.trans n.symm)
            exact h (by rw[this])
          ·exact R.dj x y a e c f
 tb:=R.tb
 un:=λi a c=>by
  cases i with
  |zero=>cases c
  |succ i=>
    have c:a∈(match b[i]? with|some i=>As i|none=>[]):=c;cases g:b[i]? with
    |none=>rw[g]at c;cases c
    |some x=>rw[g]at c;exact R.un x a c
 lo:=λi=>by
  cases i with
  |zero=>
    rw[zV,zV];exact hd
  |succ j=>
    rw[zW,zW];unfold iH dH;have e1:rg (b.map λj=>rg T j) j=match b[j]? with|some i=>rg T i|none=>none:=Ey
    have n:rg (b.map λj=>(Z[j]?).join) j=match b[j]? with|some i=>rg Z i|none=>none:=Ey
    rw[e1,n];show Lo Y B U H ((m::b.map λi=>M.getD i .F).getD (j+1) .F) _ _ (match b[j]? with|some i=>As i|none=>[]);rw[Z0,Y0,Y5];cases b[j]? with
    |none=>exact rfl
    |some i=>exact R.lo i
 len:=by
  rw[YO,YO,iH,dH,YJ,YJ]
def Rel.poke(R:Rel Y M B U As Z H T)(b:U p=none)(c:∀i,p∉As i):Rel Y M B U As Z (upd H p o) T:=
 ⟨R.bu,λa u q=>by rw[aq (aT q b)];exact R.uh a u q,R.nd,R.dj,R.un,λi=>(R.lo i).mono (Same.refl _) (Same.refl _) λa h=>aq (λz:a=p=>c i (z▸h)),R.len,R.tb⟩
def mf{W:Type}{l:List W}{i:Nat}{x:W}(h:l[i]?=some x):l.drop i=x::l.drop (i+1):=by
 obtain⟨b,a⟩:=Y2.mp h;rw[Ac6 b,a]
def BK{k O:Kd}{m0:Md}{K':KT D V}{f:List Nat}{ti:TT}{te:TE}{mi:P1->Res Bool}{me:P1->Res D}(hix:f.Nodup)(h0:∀B U H d v,Same B U->Same U H->Dn Y (hp k B U H) d v->Lo Y B U H m0 (some d) (some v) [])
 (hti:PJ Y KB E0 (jJ m0 M f) ti mi) (hte:PJ Y (KR Y O) E0 (jJ m0 M f) te me)
 (fin:∀B U As Z H T I U1 H1 Q n N p,Rel Y M I U1 As Z H1 T->Gw B U H I U1 H1->H p=none->U1 p=none->(∀i,p∉As i)->H1 p=some (.lst N)->Dns Y (hp O I U1 H1) n N->Po Y K' E M B U As Z H T (.ok (.lst n)) Q->Q (.ref p) H1)
 (hk':O= .F\/O= .U) {As:Nat->List Addr} {Z:St} {T:P1} {Q:VK} {ds:List D} {J:It} {I U1 H1:Hp} {vs:List V} (R1:Rel Y M I U1 As Z H1 T) (hJ:Mx J H1 vs) (hd:Dns Y (hp k I U1 H1) ds vs)
 (W:Po Y K' E M I U1 As Z H1 T (if ds.length<af then (bo mi me (dH T f) ds).bind λr=>.ok (.lst r) else .bad) Q) (p:Addr) (hp:H1 p=none):Jn J (λv=>some v::iH Z f) ti te p H1 Q:=by
 by_cases z:ds.length<af
 · rw[YG z]at W;have hvl:ds.length=vs.length:=hd.len;have hpA:∀i,p∉As i:=λi=>R1.fresh hp i
   have G:∀{t l L B3 S H3:Hp},Gw t l L B3 S H3->Same (Mi.hp O t l (λ_=>none)) (Mi.hp O B3 S (λ_=>none)):=λg=>by
    rcases hk' with e|e<;>subst e
    ·exact g.b
    ·exact g.u
   have hpe:∀{t l L:Hp},Mi.hp O t l L=Mi.hp O t l (λ_=>none):=λ{t l L}=>by rcases hk' with e|e<;>subst e<;>rfl
   refine⟨λi m N L=>i<=ds.length/\m=ds.length-i/\L p=some (.lst N)/\N.length<=i/\∃t l n,Rel Y M t l As Z L T/\Gw I U1 H1 t l L/\l p=none/\Dns Y (Mi.hp O t l (λ_=>none)) n N/\
    Po Y K' E M I U1 As Z H1 T ((bo mi me (dH T f) (ds.drop i)).bind λr=>.ok (.lst (n++r))) Q,⟨ds.length,Z3 _,rfl,ay,YY _,I,U1,[],R1.new hp,Gw.newO R1 hp,R1.uh.free hp,by rw[Dns],W⟩,?_⟩
   rintro i m N L ⟨hi,rfl,hy,hle,t,l,n,R2,g2,u2,dz,w⟩;have C:=hJ L g2.h;refine⟨hy,Ab3 hle (eG (ZO (Ab3 hi z))),?_⟩;by_cases hlt:i<ds.length
   · refine .inr ⟨C.2.1 i (by omega),λv H3 hyl=>?_⟩;obtain⟨rfl,ev⟩:=C.2.2 i v H3 (by omega) hyl;obtain⟨d,ed,dd⟩:=hd.geti ev;rw[mf ed,bo]at w;have RI:=R2.inner hix (h0 t l H3 d v R2.bu R2.uh (Dn.mono (gU g2) dd));refine hti t l _ _ H3 _ _ RI ?_;cases eb:mi (some d::dH T f) with
     |ok c=>
       rw[eb]at w;intro b B3 S H4 N3 K s n3 hb;cases hb
       have up3:S p=none:=by
        cases q:S p with
        |none=>rfl
        |some o=>
          rcases s.fr p o q with z|z|⟨xs,z⟩
          ·rw[u2]at z;cases z
          ·rw[hy]at z;cases z
          ·subst z;have:=K.uh p _ q;rw[s.h _ _ hy]at this;cases this
       have R3:Rel Y M B3 S As Z H4 T:=R2.grow s.b s.u s.h K.bu K.uh λj a P=>by
        cases q:S a with
        |none=>rfl
        |some o=>
          rcases s.fr a o q with z|z|z
          ·rw[R2.un j a P]at z;cases z
          ·obtain⟨o',A⟩:=R2.at P;rw[z]at A;cases A
          ·obtain⟨o',A⟩:=R2.at P;have e1:=s.h _ _ A;rw[K.uh a _ q]at e1;cases e1;exact(R2.nt P A z).elim
       cases c with
       |false=>
         rw[on YW];exact⟨ds.length-(i+1),by omega,hlt,rfl,s.h _ _ hy,by omega,B3,S,n,R3,g2.trans s,up3,dz.mono (G s),w⟩
       |true=>
         rw[YG rfl];refine hte B3 S _ _ H4 _ _ K ?_;cases ee:me (some d::dH T f) with
         |ok x=>
           have P3:Po Y K' E M I U1 As Z H1 T (((me (some d::dH T f)).calm.bind λx=>(bo mi me (dH T f) (ds.drop (i+1))).bind λxs=>.ok (x::xs)).bind λr=>.ok (.lst (n++r))) Q:=w;rw[ee]at P3;intro y B4 U4 H5 N4 X R n4 hx;have y5:H5 p=some (.lst N):=R.h _ _ (s.h _ _ hy)
           have up4:U4 p=none:=by
            cases q:U4 p with
            |none=>rfl
            |some o=>
              rcases R.fr p o q with z|z|⟨xs,z⟩
              ·rw[up3]at z;cases z
              ·rw[s.h _ _ hy]at z;cases z
              ·subst z;have:=X.uh p _ q;rw[y5]at this;cases this
           have R4:Rel Y M B4 U4 As Z H5 T:=R3.grow R.b R.u R.h X.bu X.uh λj a P=>by
            cases q:U4 a with
            |none=>rfl
            |some o=>
              rcases R.fr a o q with z|z|z
              ·rw[R3.un j a P]at z;cases z
              ·obtain⟨o',A⟩:=R3.at P;rw[z]at A;cases A
              ·obtain⟨o',A⟩:=R3.at P;have e1:=R.h _ _ A;rw[X.uh a _ q]at e1;cases e1;exact(R3.nt P A z).elim
           have g5:Gw I U1 H1 B4 U4 (upd H5 p (.lst (N++[y]))):=by
            have g:=(g2.trans s).trans R;exact⟨g.toEx,λa o q=>by rw[aq (aT q hp)];exact g.h a o q,g.fr⟩
           refine⟨y5,ds.length-(i+1),by omega,hlt,rfl,ay,by rw[YQ,Ac0];omega,B4,U4,n++[x],R4.poke up4 hpA,g5,up4,(dz.mono (G (s.trans R))).append (Dns.one ?_),?_⟩
           ·have hx:Dn Y (Mi.hp O B4 U4 H5) x y:=hx;rw[hpe]at hx;exact hx
           · cases eg:bo mi me (dH T f) (ds.drop (i+1)) with
             |ok r=>
               rw[eg]at P3;show Po Y K' E M I U1 As Z H1 T (.ok (.lst (n++[x]++r))) Q;rw[Zw];exact P3
             |exc c=>rw[eg]at P3;exact P3
             |bad=>rw[eg]at P3;exact P3
         |exc c=>
           have P3:Po Y K' E M I U1 As Z H1 T (((me (some d::dH T f)).calm.bind λx=>(bo mi me (dH T f) (ds.drop (i+1))).bind λxs=>.ok (x::xs)).bind λr=>.ok (.lst (n++r))) Q:=w;rw[ee]at P3;exact P3.elim
         |bad=>
           have P3:Po Y K' E M I U1 As Z H1 T (((me (some d::dH T f)).calm.bind λx=>(bo mi me (dH T f) (ds.drop (i+1))).bind λxs=>.ok (x::xs)).bind λr=>.ok (.lst (n++r))) Q:=w;rw[ee]at P3;exact P3.elim
     |exc c=>rw[eb]at w;exact w.elim
     |bad=>rw[eb]at w;exact w.elim
   · have e:i=ds.length:=by omega
     subst e;rw[Ah7,bo]at w;refine .inl ⟨C.1 _ (by omega),?_⟩;have P3:Po Y K' E M I U1 As Z H1 T (.ok (.lst (n++[]))) Q:=w;rw[Zm]at P3;exact fin I U1 As Z H1 T t l L Q n N p R2 g2 hp u2 hpA hy (by rw[hpe];exact dz) P3
 ·rw[on z]at W;exact W.elim
def uO{a:List Nat}
 (r:PJ Y (KI Y k .X) E M n src) (h:a.Nodup) (h0:∀B U H d v,Same B U->Same U H->Dn Y (hp k B U H) d v->Lo Y B U H c (some d) (some v) [])
 (e:PJ Y KB E0 (jJ c M a) o mi) (f:PJ Y (KR Y b) E0 (jJ c M a) te me)
 (j:∀B U As Z H T I U1 H1 Q l m p,Rel Y M I U1 As Z H1 T->Gw B U H I U1 H1->H p=none->U1 p=none->(∀i,p∉As i)->H1 p=some (.lst m)->Dns Y (hp b I U1 H1) l m->Po Y q E M B U As Z H T (.ok (.lst l)) Q->Q (.ref p) H1)
 (g:b= .F\/b= .U):PJ Y q E M (ju n a o te) (eJ src a mi me):=by
 intro B U As Z H T Q R P;refine r.bnd R P λds J I U1 H1 L _ t e1 u ⟨vs,s,hd⟩ W p hp=>?_;exact BK h h0 e f j g t s hd W p hp
def TR(_:Same B U)(_:Same U H)(h:Dn Y (hp .F B U H) d v):Lo Y B U H .F (some d) (some v) []:=⟨v,rfl,h,rfl⟩
def inU(_:Same B U)(_:Same U H)(h:Dn Y (hp .U B U H) d v):Lo Y B U H .R (some d) (some v) []:=⟨v,rfl,h,rfl⟩
def RZ{H:Hp}{U1 H1:Hp}{Q:VK}(R:Rel Y M I U1 As Z H1 T)(g:Gw B U H I U1 H1)(hp:H p=none)(u:U1 p=none)(e:∀i,p∉As i)(h:H1 p=some (.lst c))
 (d:Dns Y (Mi.hp .F I U1 H1) b c) (P:Po Y (KO Y (.ct .fz)) E M B U As Z H T (.ok (.lst b)) Q):Q (.ref p) H1:=
 P (.ref p) I U1 H1 [p] R g ⟨by simp,λa q=>by rw[YT.mp q];exact hp,λa q=>by rw[YT.mp q];exact u⟩ (by
  show Ow Y I H1 (.lst b) (.ct .fz) (.ref p) [p];rw[Ow]
  exact⟨p,c,[],rfl,h,rfl,Ows.of d⟩)
def Yt{H:Hp}{U1 H1:Hp}{Q:VK}(R:Rel Y M I U1 As Z H1 T)(g:Gw B U H I U1 H1)(hp:H p=none)(u:U1 p=none)(k:∀i,p∉As i)(h:H1 p=some (.lst c))
 (d:Dns Y (Mi.hp .U I U1 H1) f c) (P:Po Y (KR Y .U) E M B U As Z H T (.ok (.lst f)) Q):Q (.ref p) H1:=by
 have e:Same U1 (upd U1 p (.lst c)):=Gd.b9 u
 have j:Same (upd U1 p (.lst c)) H1:=λa o q=>by
  by_cases z:a=p
  ·subst z;rw[ay]at q;cases q;exact h
  ·rw[aq z]at q;exact R.uh a o q
 refine P (.ref p) I (upd U1 p (.lst c)) H1 [] (R.grow (Same.refl _) e (Same.refl _) (R.bu.trans e) j λi a q=>by rw[aq (λz:a=p=>k i (z▸q))];exact R.un i a q)
  ⟨⟨g.b,g.u.trans e,g.nb⟩,g.h,λa o q=>?_⟩ New.nil ?_
 · by_cases z:a=p
   ·subst z;exact .inr (.inl hp)
   ·rw[aq z]at q;exact g.fr a o q
 ·show Dn Y (upd U1 p (.lst c)) (.lst f) (.ref p);rw[Dn];exact⟨p,c,rfl,ay,Dns.mono e d⟩
section
variable{wi:TI}{ix:List Nat}{ti:TT}{te:TE}{src:P1->Res (List D)}{mi:P1->Res Bool}{me:P1->Res D}
def O1:PJ Y KB E M Op (λ_=>.ok true):=λB U As Z H T Q R P=>P _ B U H [] R (Gw.refl _ _ _) New.nil rfl
def Fy(d:PJ Y (KI Y .F .X) E M wi src)(c:ix.Nodup)(a:PJ Y KB E0 (jJ .F M ix) ti mi)(b:PJ Y (KR Y .F) E0 (jJ .F M ix) te me):PJ Y (KO Y (.ct .fz)) E M (ju wi ix ti te) (eJ src ix mi me):=
 uO d c (λ_ _ _ _ _=>TR) a b (λ_ _ _ _ _ _ _ _ _ _ _ _ _=>RZ) (.inl rfl)
def Fv(d:PJ Y (KI Y .U .X) E M wi src)(c:ix.Nodup)(a:PJ Y KB E0 (jJ .R M ix) ti mi)(b:PJ Y (KR Y .F) E0 (jJ .R M ix) te me):PJ Y (KO Y (.ct .fz)) E M (ju wi ix ti te) (eJ src ix mi me):=
 uO d c (λ_ _ _ _ _=>inU) a b (λ_ _ _ _ _ _ _ _ _ _ _ _ _=>RZ) (.inl rfl)
def Fw(d:PJ Y (KI Y .F .X) E M wi src)(c:ix.Nodup)(a:PJ Y KB E0 (jJ .F M ix) ti mi)(b:PJ Y (KR Y .U) E0 (jJ .F M ix) te me):PJ Y (KR Y .U) E M (ju wi ix ti te) (eJ src ix mi me):=
 uO d c (λ_ _ _ _ _=>TR) a b (λ_ _ _ _ _ _ _ _ _ _ _ _ _=>Yt) (.inr rfl)
end
end
structure NewM (N:List Addr) (U:Hp) (As:Nat->List Addr):Prop where
 nd:N.Nodup
 un:∀a∈N,U a=none
 ap:∀a∈N,∀i,a∉As i
def NewM.nil:NewM [] U As:=⟨ZD,λ_ h=>(nomatch h),λ_ h=>(nomatch h)⟩
def Kp(b:Nat->Bool)(Z a:St):Prop:=∀j,b j=true->rg a j=rg Z j
def Kp.refl(a:Nat->Bool)(Z:St):Kp a Z Z:=λ_ _=>rfl
def Kp.trans(a:Kp e Z d)(b:Kp e d c):Kp e Z c:=λj h=>(b j h).trans (a j h)
section
variable(Y:Cm)
def Mo{W X:Type}(K:KT W X)(E:XK)(M:List Md)(B U:Hp)(Z:St)(r:Out W)(Q:X->Hp->Prop):Prop:=
 match r with
 |.ok d G=>∀v S J C H' N,Rel Y M S J C Z H' G->Ex B U S J->NewM N J C->K d v S J H' N->Q v H'
 |.exc c G=>∀S J C H',Rel Y M S J C Z H' G->Ex B U S J->∀a,E (.ref (Y c)) a H'
 |.bad=>False
def MJ{W X:Type}(K:KT W X)(E:XK)(M:List Md)(t:St->Hp->(X->Hp->Prop)->Prop)(m:P1->Out W):Prop:=
 ∀B U As Z H T Q,Rel Y M B U As Z H T->Mo Y K E M B U Z (m T) Q->t Z H Q
def So(E:XK)(f:KT D V)(b:Nat->Bool)(M:List Md)(B U:Hp)(Z:St)(r:SO)(D:Ends):Prop:=
 match r with
 |.nx G=>∀a S J C H',Rel Y M S J C a H' G->Ex B U S J->Kp b Z a->D.nx a H'
 |.bk G=>∀a S J C H',Rel Y M S J C a H' G->Ex B U S J->Kp b Z a->D.bk a H'
 |.ct G=>∀a S J C H',Rel Y M S J C a H' G->Ex B U S J->Kp b Z a->D.ct a H'
 |.rt d G=>∀v a S J C H' N,Rel Y M S J C a H' G->Ex B U S J->Kp b Z a->NewM N J C->f d v S J H' N->D.rt v H'
 |.exc c G=>∀a S J C H',Rel Y M S J C a H' G->Ex B U S J->Kp b Z a->∀e,E (.ref (Y c)) e H'
 |.bad=>False
def SJ(E:XK)(b:KT D V)(a:Nat->Bool)(M:List Md)(t:TS)(m:P1->SO):Prop:=
 ∀B U As Z H T D,Rel Y M B U As Z H T->So Y E b a M B U Z (m T) D->t D Z H
end
section
variable{Y:Cm}{E:XK}{Kr:KT D V}{pr:Nat->Bool}{M:List Md}{K:F0}{B U H I U1 H1:Hp}{As:Nat->List Addr}{Z σ1:St}{T:P1}
def Mo.at{W X:Type}{K:KT W X}{r:Out W}{Q:X->Hp->Prop}(P:Mo Y K E M B U Z r Q)(e:Ex B U I U1):Mo Y K E M I U1 Z r Q:=by
 cases r with
 |ok d G=>exact λv S J C H' N b a f k=>P v S J C H' N b (e.trans a) f k
 |exc c G=>exact λS J C H' b a=>P S J C H' b (e.trans a)
 |bad=>exact P
def So.at{D:Ends}(P:So Y E Kr pr M B U Z r D)(e:Ex B U I U1)(k:Kp pr Z σ1):So Y E Kr pr M I U1 σ1 r D:=by
 cases r with
 |nx G=>exact λa S J C H' g f b=>P a S J C H' g (e.trans f) (k.trans b)
 |bk G=>exact λa S J C H' g f b=>P a S J C H' g (e.trans f) (k.trans b)
 |ct G=>exact λa S J C H' g f b=>P a S J C H' g (e.trans f) (k.trans b)
 |rt d G=>exact λv a S J C H' N g f b=>P v a S J C H' N g (e.trans f) (k.trans b)
 |exc c G=>exact λa S J C H' g f b=>P a S J C H' g (e.trans f) (k.trans b)
 |bad=>exact P
def upM{W X:Type}{K:KT W X}{t:St->Hp->(X->Hp->Prop)->Prop}{m:P1->Res W}(h:PJ Y K E M t m):MJ Y K E M t (λT=>(m T).up T):=by
 intro B U As Z H T Q R P;replace P:Mo Y K E M B U Z ((m T).up T) Q:=P;refine h B U As Z H T Q R ?_;cases e:m T with
 |ok d=>
   rw[e]at P;exact λv S J H' N a g n k=>P v S J As H' N a g.toEx ⟨n.nd,n.un,R.apart n⟩ k
 |exc c=>
   rw[e]at P;exact λS J H' a g=>P S J As H' a g.toEx
 |bad=>rw[e]at P;exact P
def moF(h:MJ Y (KO Y s) E M t m):MJ Y (KR Y .F) E M t m:=by
 intro B U As Z H T Q R P;refine h B U As Z H T Q R ?_;cases e:m T with
 |ok d G=>
   rw[e]at P;intro v S J C H' N g k f i;obtain⟨R2,j⟩:=g.freeze λa b=>⟨f.un a b,f.ap a b⟩;refine P v _ _ C H' [] R2 (k.trans j) NewM.nil (Ow.dn (bx g.bh) (λa b o q=>?_) i);unfold Mi.frz;rw[if_pos b];exact q
 |exc c G=>rw[e]at P;exact P
 |bad=>rw[e]at P;exact P
def MJ.bnd{X:Type}{g:KT W X}{ta:St->Hp->(X->Hp->Prop)->Prop}{d:P1->Out W}(l:MJ Y g E M ta d)(R:Rel Y M B U As Z H T){k:W->P1->Out L}
 (P:Mo Y f E M B U Z ((d T).bind k) Q) {a:X->Hp->Prop}
 (h:∀x G v I U1 b H1 N,Rel Y M I U1 b Z H1 G->Ex B U I U1->NewM N U1 b->g x v I U1 H1 N->Mo Y f E M I U1 Z (k x G) Q->a v H1):ta Z H a:=by
 refine l B U As Z H T a R ?_;cases e:d T with
 |ok x G=>
   rw[e]at P;exact λv I U1 b H1 N m e1 i j=>h x G v I U1 b H1 N m e1 i j (Mo.at (r:=k x G) P e1)
 |exc c G=>rw[e]at P;exact P
 |bad=>rw[e]at P;exact P
def MJ.bndS{X:Type}{f:KT W X}{ta:St->Hp->(X->Hp->Prop)->Prop}{d:P1->Out W}(j:MJ Y f E M ta d)(R:Rel Y M B U As Z H T){k:W->P1->SO}{D:Ends}
 (P:So Y E Kr pr M B U Z (ge (d T) k) D) {a:X->Hp->Prop}
 (h:∀x G v I U1 b H1 N,Rel Y M I U1 b Z H1 G->Ex B U I U1->NewM N U1 b->f x v I U1 H1 N->So Y E Kr pr M I U1 Z (k x G) D->a v H1):ta Z H a:=by
 refine j B U As Z H T a R ?_;cases e:d T with
 |ok x G=>
   rw[e]at P;exact λv I U1 b H1 N m e1 g i=>h x G v I U1 b H1 N m e1 g i (So.at (r:=k x G) P e1 (Kp.refl _ _))
 |exc c G=>rw[e]at P;exact λS J C H' n l=>P Z S J C H' n l (Kp.refl _ _)
 |bad=>rw[e]at P;exact P
def c7{l:List (Option W)}:rg (l.set i x) j=if i=j/\i<l.length then x else rg l j:=by
 unfold rg;rw[List.getElem?_set];by_cases e:i=j
 · subst e;by_cases h:i<l.length
   ·rw[YG rfl,YG h,YG ⟨rfl,h⟩];rfl
   ·rw[YG rfl,on h,on λz=>h z.2,Y8 (by omega)]
 ·rw[on e,on λz=>e z.1]
def Rel.store(R:Rel Y M B U As Z H T)(n:NewM N U As)(l:Lo Y B U H (M.getD i .F) (some d) (some v) N):
 ∃C,Rel Y M B U C (Z.set i (some v)) H (T.set i (some d)):=by
 by_cases hi:i<T.length
 · refine⟨λj=>if j=i then N else As j,R.bu,R.uh,λj=>?_,λj k a f b c=>?_,λj a b=>?_,λj=>?_,by rw[Za,Za];exact R.len,R.tb⟩
   · show(if j=i then N else As j).Nodup;split
     ·exact n.nd
     ·exact R.nd j
   · replace b:a∈(if j=i then N else As j):=b;replace c:a∈(if k=i then N else As k):=c;split at b
     · split at c
       ·rename_i h g;exact f (h.trans g.symm)
       ·exact n.ap a b k c
     · split at c
       ·exact n.ap a c j b
       ·exact R.dj j k a f b c
   · replace b:a∈(if j=i then N else As j):=b;split at b
     ·exact n.un a b
     ·exact R.un j a b
   · rw[c7,c7];show Lo Y B U H (M.getD j .F) _ _ (if j=i then N else As j);by_cases e:i=j
     ·subst e;rw[YG ⟨rfl,hi⟩,YG ⟨rfl,by rw[<-R.len];exact hi⟩,YG rfl];exact l
     ·rw[on λz=>e z.1,on λz=>e z.1,on λz=>e z.symm];exact R.lo j
 ·have g:=R.len;have e1:Z.set i (some v)=Z:=Ah0 (by omega);have m:T.set i (some d)=T:=Ah0 (by omega);rw[e1,m];exact⟨As,R⟩
def Kp.set(h:pr i=false):Kp pr Z (Z.set i x):=λj a=>by
 rw[c7,on];rintro⟨e,_⟩;rw[e,a]at h;cases h
def Er{f:KT D V}(h:MJ Y f E M te m)(n:∀B U H d v N,f d v B U H N->∃a,(a=[]\/a=N)/\Lo Y B U H (M.getD i .F) (some d) (some v) a)(hp:pr i=false):SJ Y E Kr pr M (qS te (dg i)) (a7 i m):=by
 intro B U As Z H T D R P;refine h.bndS R P λx G v I U1 c H1 N p e1 j k W=>?_;obtain⟨a,o,l⟩:=n I U1 H1 x v N k
 have g:NewM a U1 c:=by
  rcases o with e|e
  ·subst e;exact NewM.nil
  ·subst e;exact j
 obtain⟨b,R2⟩:=p.store g l;exact W _ I U1 b H1 R2 (Ex.refl _ _) (Kp.set hp)
def OJ(h:MJ Y (KR Y .F) E M te m)(a:M.getD i .F= .F)(hp:pr i=false):SJ Y E Kr pr M (qS te (dg i)) (a7 i m):=
 Er h (λB U H d v N k=>⟨[],.inl rfl,by rw[a];exact⟨v,rfl,k,rfl⟩⟩) hp
def OG(h:MJ Y (KR Y .U) E M te m)(a:M.getD i .F= .R)(hp:pr i=false):SJ Y E Kr pr M (qS te (dg i)) (a7 i m):=
 Er h (λB U H d v N k=>⟨[],.inl rfl,by rw[a];exact⟨v,rfl,k,rfl⟩⟩) hp
def OH(h:MJ Y (KO Y s) E M te m)(a:M.getD i .F= .O s)(hp:pr i=false):SJ Y E Kr pr M (qS te (dg i)) (a7 i m):=
 Er h (λB U H d v N k=>⟨N,.inr rfl,by rw[a];exact⟨v,rfl,k⟩⟩) hp
def Ub:SJ Y E Kr pr M D7 aV:=λB U As Z H T D R P=>P Z B U As H R (Ex.refl _ _) (Kp.refl _ _)
def T8(h:SJ Y E Kr pr M t m)(k:SJ Y E Kr pr M u n):SJ Y E Kr pr M (Oq t u) (ai m n):=by
 intro B U As Z H T D R P;refine h B U As Z H T _ R ?_;unfold ai at P;cases e:m T with
 |nx G=>rw[e]at P;exact λa S J C H' f b kp=>k S J C a H' G D f (So.at P b kp)
 |bk G=>rw[e]at P;exact P
 |ct G=>rw[e]at P;exact P
 |rt d G=>rw[e]at P;exact P
 |exc c G=>rw[e]at P;exact P
 |bad=>rw[e]at P;exact P
def OU:SJ Y E Kr pr M Ea Iq:=λB U As Z H T D R P=>P Z B U As H R (Ex.refl _ _) (Kp.refl _ _)
def OR(h:MJ Y c E M te m):SJ Y E Kr pr M (D8 te) (aE m):=by
 intro B U As Z H T D R P;refine h.bndS R P λx G v I U1 a H1 N b e1 d e W=>?_;exact W Z I U1 a H1 b (Ex.refl _ _) (Kp.refl _ _)
def T9(h:MJ Y Kr E M te m):SJ Y E Kr pr M (JJ te) (bp m):=by
 intro B U As Z H T D R P;refine h.bndS R P λx G v I U1 a H1 N d e1 b c W=>?_;exact W v Z I U1 a H1 N d (Ex.refl _ _) (Kp.refl _ _) b c
def OK(h:∀B U H,Kr .non .non B U H []):SJ Y E Kr pr M D5 Kk:=λB U As Z H T D R P=>P .non Z B U As H [] R (Ex.refl _ _) (Kp.refl _ _) NewM.nil (h _ _ _)
def XV{mc:P1->Out Bool}(e:MJ Y KB E M c mc)(h:SJ Y E Kr pr M t m)(k:SJ Y E Kr pr M u n):SJ Y E Kr pr M (Ov c t u) (fi mc m n):=by
 intro B U As Z H T D R P;refine e.bndS R P λx G v I U1 a H1 N b e1 f d W=>?_;cases d;cases x with
 |true=>exact h I U1 a Z H1 G D b W
 |false=>exact k I U1 a Z H1 G D b W
def Kh:SJ Y E Kr pr M xV (λ_=>.bad):=λ_ _ _ _ _ _ _ _ P=>P
def TJ(Y:Cm)(k:Kd)(pr:Nat->Bool)(M:List Md)(g:TG)(c:D->P1->Option P1):Prop:=∀B U As Z H T d v a Q,Rel Y M B U As Z H T->Dn Y (hp k B U H) d v->c d T=some a->(∀σ1 b,Rel Y M B U b σ1 H a->Kp pr Z σ1->Q σ1 H)->g v Z H Q
def tgF(c:M.getD i .F= .F)(hp:pr i=false):TJ Y .F pr M (dg i) (rn i):=by
 intro B U As Z H T d v b Q R hd e h;cases e;obtain⟨a,R2⟩:=R.store (i:=i) (d:=d) (v:=v) NewM.nil (by rw[c];exact⟨v,rfl,hd,rfl⟩);exact h _ a R2 (Kp.set hp)
def tgR(c:M.getD i .F= .R)(hp:pr i=false):TJ Y .U pr M (dg i) (rn i):=by
 intro B U As Z H T d v b Q R hd e h;cases e;obtain⟨a,R2⟩:=R.store (i:=i) (d:=d) (v:=v) NewM.nil (by rw[c];exact⟨v,rfl,hd,rfl⟩);exact h _ a R2 (Kp.set hp)
def XJ(b:M.getD i .F= .R)(hp:pr i=false):TJ Y .F pr M (dg i) (rn i):=λB U As Z H T d v a Q R hd e h=>tgR b hp B U As Z H T d v a Q R (Dn.mono R.bu hd) e h
def tg2(hi:TJ Y k pr M (dg i) (rn i))(w:TJ Y k pr M (dg j) (rn j)):TJ Y k pr M (RV K 2 (AX (dg i) (AX (dg j) RX))) (JH i j):=by
 intro B U As Z H T d v p Q R hd e h;cases d with
 |tup ds=>
   rcases ds with _|⟨x,_|⟨y,_|⟨z,ds⟩⟩⟩
   ·cases e
   ·cases e
   ·cases e;rw[Dn]at hd;obtain⟨a,xs,rfl,A,o⟩:=hd;rw[Dns]at o;obtain⟨f,r,rfl,u,n⟩:=o;rw[Dns]at n;obtain⟨b,D,rfl,t,m⟩:=n;rw[Dns]at m;subst m;refine⟨a,[f,b],rfl,SqT.of (R.hp k _ _ A),rfl,f,[b],rfl,?_⟩;refine hi B U As Z H T x f _ _ R u rfl λσ1 l C s=>⟨b,[],rfl,?_⟩;exact w B U l σ1 H _ y b _ _ C t rfl λc g R2 q=>⟨rfl,h c g R2 (s.trans q)⟩
   ·cases e
 |_=>cases e
def Um(hs:MJ Y (KI Y k .U) E M wi src)(hk:k= .F\/k= .U)(hg:TJ Y k pr M g S)(hb:SJ Y E Kr pr M tb j):
 SJ Y E Kr pr M (Ox wi g tb) (cW src S j):=by
 intro B U As Z H T D R P;refine hs.bndS R P λds ρ0 J I U1 As1 H1 N R1 e1 n1 ⟨vs,hJ,hd⟩ W=>?_;have hvl:ds.length=vs.length:=hd.len
 have hp1:∀{q p H2:Hp},Ex I U1 q p->Same (hp k I U1 H1) (hp k q p H2):=λe=>by
  rcases hk with z|z<;>subst z
  ·exact e.b
  ·exact e.u
 refine⟨λi m s H'=>i<=ds.length/\m=ds.length-i/\∃q p o h,Rel Y M q p o s H' h/\Ex I U1 q p/\Kp pr Z s/\So Y E Kr pr M I U1 Z (t5 S j (ds.drop i) h) D,⟨_,Z3 _,rfl,I,U1,As1,ρ0,R1,Ex.refl _ _,Kp.refl _ _,W⟩,?_⟩;rintro i m s H' ⟨hi,rfl,q,p,o,h,R2,G,O,a⟩;have hj:=hJ H' (G.u.trans R2.uh);by_cases X:i<ds.length
 · refine .inr ⟨hj.2.1 i (by omega),λr H''=>i+1<=ds.length/\∃q p o h,Rel Y M q p o r H'' h/\Ex I U1 q p/\Kp pr Z r/\So Y E Kr pr M I U1 Z (t5 S j (ds.drop (i+1)) h) D,λr H'' ⟨h1,h2⟩=>⟨ds.length-(i+1),by omega,h1,rfl,h2⟩,λx Hx hy=>?_⟩;obtain⟨rfl,ev⟩:=hj.2.2 i x Hx (by omega) hy;obtain⟨d,ed,dd⟩:=hd.geti ev;rw[mf ed,t5]at a;cases et:S d h with
   |none=>rw[et]at a;exact a.elim
   |some K=>
     rw[et]at a;refine hg q p o s Hx h d x K _ R2 (Dn.mono (hp1 G) dd) et λσ3 As3 R3 V=>?_;refine hb q p As3 σ3 Hx K _ R3 ?_;dsimp only at a;cases Q:j K with
     |nx n=>
       rw[Q]at a;exact λl C y f L A w t=>⟨X,C,y,f,n,A,G.trans w,(O.trans V).trans t,a⟩
     |ct n=>
       rw[Q]at a;exact λl C y f L A w t=>⟨X,C,y,f,n,A,G.trans w,(O.trans V).trans t,a⟩
     |bk n=>
       rw[Q]at a;exact λl C y f L A w t=>a l C y f L A (G.trans w) ((O.trans V).trans t)
     |rt d n=>
       rw[Q]at a;exact λv l C y f L N A w t=>a v l C y f L N A (G.trans w) ((O.trans V).trans t)
     |exc c n=>
       rw[Q]at a;exact λl C y f L A w t=>a l C y f L A (G.trans w) ((O.trans V).trans t)
     |bad=>rw[Q]at a;exact a.elim
 · have e:i=ds.length:=by omega
   subst e;rw[Ah7,t5]at a;exact .inl ⟨hj.1 _ (by omega),a s q p o H' R2 G O⟩
def Kg{mc:P1->Out Bool}(n:Nat)(X:MJ Y KB E M c mc)(hb:SJ Y E Kr pr M tb a):SJ Y E Kr pr M (xU c tb) (xJ mc a n):=by
 intro B U As Z H T D R P;refine⟨λm j H'=>∃V L F q,Rel Y M V L F j H' q/\Ex B U V L/\Kp pr Z j/\So Y E Kr pr M B U Z (xJ mc a m q) D,⟨n,B,U,As,T,R,Ex.refl _ _,Kp.refl _ _,P⟩,?_⟩;rintro m j H' ⟨V,L,F,q,R2,A,z,f⟩;cases m with
 |zero=>exact f.elim
 |succ m=>
   rw[xJ]at f;refine X V L F j H' q _ R2 ?_;cases e:mc q with
   |ok x r=>
     rw[e]at f;intro v S K w Q N O y n3 W;cases W;cases x with
     |false=>
       rw[on YW];exact f j S K w Q O (A.trans y) z
     |true=>
       rw[YG rfl]
       have f:So Y E Kr pr M B U Z (match a r with
        |.nx G=>xJ mc a m G
        |.ct G=>xJ mc a m G
        |.bk G=>.nx G
        |o=>o) D:=f
       refine⟨λp J=>∃l k b g,Rel Y M l k b p J g/\Ex B U l k/\Kp pr Z p/\So Y E Kr pr M B U Z (xJ mc a m g) D,λp J h=>⟨m,Ac4 m,h⟩,?_⟩;refine hb S K w j Q r _ O ?_;cases I:a r with
       |nx g=>
         rw[I]at f;exact λi l k b C u t s=>⟨l,k,b,g,u,(A.trans y).trans t,z.trans s,f⟩
       |ct g=>
         rw[I]at f;exact λi l k b C u t s=>⟨l,k,b,g,u,(A.trans y).trans t,z.trans s,f⟩
       |bk g=>
         rw[I]at f;exact λi l k b C u t s=>f i l k b C u ((A.trans y).trans t) (z.trans s)
       |rt d g=>
         rw[I]at f;exact λv i l k b C N u t s=>f v i l k b C N u ((A.trans y).trans t) (z.trans s)
       |exc c g=>
         rw[I]at f;exact λi l k b C u t s=>f i l k b C u ((A.trans y).trans t) (z.trans s)
       |bad=>rw[I]at f;exact f.elim
   |exc c r=>rw[e]at f;exact λS K w Q O y=>f j S K w Q O (A.trans y) z
   |bad=>rw[e]at f;exact f.elim
end
inductive Ap where
 |F|U|X|O (i:Nat)|Bo (i:Nat)
deriving DecidableEq
def cy:List Ap->Nat->P1->P1->P1
 |[],_,_,T=>T
 |.O i::r,j,a,T=>cy r (j+1) a (T.set i (rg a j))
 |_::r,j,a,T=>cy r (j+1) a T
def bV(a:List Ap)(e:List D->Out D)(ds:List D)(T:P1):Out D:=match e ds with
 |.ok d b=>.ok d (cy a 0 b T)
 |.exc c b=>.exc c (cy a 0 b T)
 |.bad=>.bad
def fG(a:List D->Out D)(ds:List D):Res D:=match a ds with
 |.ok d _=>.ok d
 |.exc c _=>.exc c
 |.bad=>.bad
def fV(M:List Md)(T:P1):P1:=(List.range M.length).map λi=>match M.getD i .F with | .O _=>rg T i|_=>none
section
variable(Y:Cm)
def xL(M:List Md)(e:KT D V)(b:List D->Out D):Sp:=λvs H Q E=>∃B U As ds,Rel Y M B U As (vs.map some) H (ds.map some)/\vs.length=M.length/\match b ds with
 |.ok d G=>∀v S J C H' N,Rel Y M S J C (vs.map some) H' (fV M G)->Ex B U S J->NewM N J C->e d v S J H' N->Q v H'
 |.exc c G=>∀S J C H',Rel Y M S J C (vs.map some) H' (fV M G)->Ex B U S J->∀a,E (.ref (Y c)) a H'
 |.bad=>False
def A1(p:Ap)(B U H:Hp)(Z:St)(T:P1)(d:D)(v:V):Prop:=match p with
 |.F=>Dn Y B d v
 |.U=>Dn Y U d v
 |.X=>Dn Y H d v
 |.O i=>rg Z i=some v/\rg T i=some d
 |.Bo i=>rg Z i=some v/\rg T i=some d
def Ag(B U H:Hp)(Z:St)(T:P1):List Ap->List D->List V->Prop
 |[],ds,vs=>ds=[]/\vs=[]
 |p::ps,ds,vs=>∃d a v vr,ds=d::a/\vs=v::vr/\A1 Y p B U H Z T d v/\Ag B U H Z T ps a vr
end
section
variable{Y:Cm}{E:XK}{M:List Md}{B U H:Hp}{As:Nat->List Addr}{Z:St}{T:P1}
def A1.mono(h:A1 Y p B U H Z T d v)(g:Gw B U H S J H'):A1 Y p S J H' Z T d v:=by
 cases p with
 |F=>exact Dn.mono g.b h
 |U=>exact Dn.mono g.u h
 |X=>exact Dn.mono g.h h
 |O i=>exact h
 |Bo i=>exact h
def A1J(Y:Cm)(E:XK)(M:List Md)(p:Ap)(t:TE)(m:P1->Res D):Prop:=∀B U As Z H T Q,Rel Y M B U As Z H T->Po Y (λd v B U H _=>A1 Y p B U H Z T d v) E M B U As Z H T (m T) Q->t Z H Q
def AJ(Y:Cm)(E:XK)(M:List Md)(ps:List Ap)(t:TA)(m:P1->Res (List D)):Prop:=∀B U As Z H T Q,Rel Y M B U As Z H T->Po Y (λd v B U H _=>Ag Y B U H Z T ps d v) E M B U As Z H T (m T) Q->t Z H Q
def aF(h:PJ Y (KR Y .F) E M t m):A1J Y E M .F t m:=λB U As Z H T Q R P=>h B U As Z H T Q R P
def aU(h:PJ Y (KR Y .U) E M t m):A1J Y E M .U t m:=λB U As Z H T Q R P=>h B U As Z H T Q R P
def aX(h:PJ Y (KR Y .X) E M t m):A1J Y E M .X t m:=λB U As Z H T Q R P=>h B U As Z H T Q R P
def Ti(hp:∀B U H Z T d v,rg Z i=some v->rg T i=some d->A1 Y p B U H Z T d v):A1J Y E M p (cK i) (vr i):=by
 intro B U As Z H T Q R P;unfold vr at P;have l:=R.lo i;cases e:rg T i with
 |none=>rw[e]at P;exact P.elim
 |some d=>
   rw[e]at P l;obtain⟨v,a,q⟩:=l;exact⟨v,bQ a,P v B U H [] R (Gw.refl _ _ _) New.nil (hp _ _ _ _ _ _ _ a e)⟩
def aO:A1J Y E M (.O i) (cK i) (vr i):=Ti λ_ _ _ _ _ _ _ h k=>⟨h,k⟩
def Xc:AJ Y E M [] bT aB:=λB U As Z H T Q R P=>P [] B U H [] R (Gw.refl _ _ _) New.nil ⟨rfl,rfl⟩
def A1J.bnd{ta:TE}{b:P1->Res D}(g:A1J Y E M p ta b)(R:Rel Y M B U As Z H T){k:D->Res L}
 (P:Po Y d E M B U As Z H T ((b T).bind k) Q) {a:V->Hp->Prop}
 (h:∀x v I U1 H1,Rel Y M I U1 As Z H1 T->Gw B U H I U1 H1->A1 Y p I U1 H1 Z T x v->Po Y d E M I U1 As Z H1 T (k x) Q->a v H1):ta Z H a:=by
 refine g B U As Z H T a R ?_;cases e:b T with
 |ok x=>
   rw[e]at P;exact λv I U1 H1 N i e1 j f=>h x v I U1 H1 i e1 f (Po.at (r:=k x) P e1)
 |exc c=>rw[e]at P;exact P
 |bad=>rw[e]at P;exact P
def AJ.bnd{ta:TA}{b:P1->Res (List D)}(g:AJ Y E M ps ta b)(R:Rel Y M B U As Z H T){k:List D->Res L}
 (P:Po Y d E M B U As Z H T ((b T).bind k) Q) {a:List V->Hp->Prop}
 (h:∀x v I U1 H1,Rel Y M I U1 As Z H1 T->Gw B U H I U1 H1->Ag Y I U1 H1 Z T ps x v->Po Y d E M I U1 As Z H1 T (k x) Q->a v H1):ta Z H a:=by
 refine g B U As Z H T a R ?_;cases e:b T with
 |ok x=>
   rw[e]at P;exact λv I U1 H1 N i e1 j f=>h x v I U1 H1 i e1 f (Po.at (r:=k x) P e1)
 |exc c=>rw[e]at P;exact P
 |bad=>rw[e]at P;exact P
def Tj(e:A1J Y E M p ta c)(d:AJ Y E M ps a b):AJ Y E M (p::ps) (aN ta a) (aj c b):=by
 intro B U As Z H T Q R P;refine e.bnd R P λx v I U1 H1 j e1 h W=>d.bnd j W λy u m i l R2 f g k=>?_;exact k (v::u) m i l [] R2 (Gw.refl _ _ _) New.nil ⟨x,y,v,u,rfl,rfl,h.mono f,g⟩
def t6(M:List Md)(pure:Bool):Ap->Md->Bool
 |.F,.F=>true
 |.F,.R=>true
 |.U,.R=>true
 |.X,.R=>pure
 |.Bo _,.R=>true
 |_,_=>false
def Ag.len:∀{ps:List Ap} {ds:List D} {vs:List V},Ag Y B U H Z T ps ds vs->ds.length=ps.length/\vs.length=ps.length
 |[],_,_,h=>by obtain⟨rfl,rfl⟩:=h;exact⟨rfl,rfl⟩
 | p::ps,_,_,h=>by
   obtain⟨d,a,v,vr,rfl,rfl,_,h⟩:=h
   have:=Ag.len h
   exact⟨by rw[YO,YO,this.1],by rw[YO,YO,this.2]⟩
def Ag.get:∀{ps:List Ap} {ds:List D} {vs:List V} {j:Nat} {p:Ap},Ag Y B U H Z T ps ds vs->ps[j]?=some p->∃d v,ds[j]?=some d/\vs[j]?=some v/\A1 Y p B U H Z T d v
 |[],_,_,_,_,_,e=>by cases e
 | p::ps,_,_,j,q,h,e=>by
   obtain⟨d,b,v,vr,rfl,rfl,a,h⟩:=h;cases j with
   |zero=>cases e;exact⟨d,v,rfl,rfl,a⟩
   |succ j=>exact Ag.get (j:=j) h (by simpa using e)
def dJ{l:List W}:rg (l.map some) i=l[i]?:=by
 unfold rg;rw[List.getElem?_map];cases l[i]?<;>rfl
def Rel.read(R:Rel Y M B U As Z H T)(a:rg Z i=some v)(hd:rg T i=some d):Dn Y H d v:=by
 have l:=R.lo i;rw[hd]at l;have q:=gP l a;cases e:M.getD i .F with
 |F=>rw[e]at q;exact Dn.mono R.bh q.1
 |R=>rw[e]at q;exact Dn.mono R.uh q.1
 |O s=>rw[e]at q;exact Ow.dn R.bh (λ_ _ _ q=>q) q
def A1.read(R:Rel Y M B U As Z H T)(h:A1 Y p B U H Z T d v):Dn Y H d v:=by
 cases p with
 |F=>exact Dn.mono R.bh h
 |U=>exact Dn.mono R.uh h
 |X=>exact h
 |O i=>exact R.read h.1 h.2
 |Bo i=>exact R.read h.1 h.2
def ov(B U:Hp):Hp:=λa=>match B a with|some o=>some o|none=>U a
def xo{f:List Md}{y:KT D V}{ps:List Ap}(R:Rel Y M B U As Z H T)(A:Ag Y B U H Z T ps ds vs)(hl:ps.length=f.length)
 (hf:∀(j:Nat) p,ps[j]?=some p->t6 M true p (f.getD j .F)=true) (hU:∀d v B U J H N,y d v B U H N->y d v B J H N) (P:Po Y y E M B U As Z H T (fG L ds) Q):xL Y f y L vs H Q E:=by
 have n:=A.len
 have Rc:Rel Y f B H (λ_=>[]) (vs.map some) H (ds.map some):=by
  refine⟨R.bh,Same.refl _,λ_=>ZD,λ_ _ _ _ h=>(nomatch h),λ_ _ h=>(nomatch h),λj=>?_,by rw[YJ,YJ,n.1,n.2],R.tb⟩;rw[dJ,dJ];cases e:ps[j]? with
  |none=>
    have:ps.length<=j:=Aa0.mp e
    rw[Y8 (by omega)];rfl
  |some p=>
    obtain⟨d,v,ed,ev,t⟩:=A.get e;rw[ed,ev];refine⟨v,rfl,?_⟩;have hr:=A1.read R t;have q:=hf j p e;cases em:f.getD j .F with
    |F=>
      rw[em]at q;cases p with
      |F=>exact⟨t,rfl⟩
      |_=>cases q
    |R=>exact⟨hr,rfl⟩
    |O s=>rw[em]at q;cases p<;>cases q
 refine⟨B,H,λ_=>[],ds,Rc,by omega,?_⟩
 have m:∀{S J H':Hp} {C:Nat->List Addr} {x:P1},Rel Y f S J C (vs.map some) H' x->Ex B H S J->Rel Y M S (ov S U) As Z H' T/\Gw B U H S (ov S U) H':=λ{S J H' C x} l g=>by
  have same:∀a o,U a=some o->∀o',S a=some o'->o'=o:=λa o q o' w=>by
   have t:=g.u a o (R.uh a o q);have X:=l.bu a o' w;rw[t]at X;exact(Y6 X).symm
  have W:Same U (ov S U):=λa o q=>by
   unfold ov;cases z:S a with
   |none=>exact q
   |some o'=>rw[same a o q o' z]
  have sh:Same H H':=g.u.trans l.uh
  have uh:Same (ov S U) H':=λa o q=>by
   unfold ov at q;cases z:S a with
   |none=>rw[z]at q;exact sh a o (R.uh a o q)
   |some o'=>rw[z]at q;cases q;exact l.bh a _ z
  have bu:Same S (ov S U):=λa o q=>by unfold ov;rw[q]
  have new:∀a o,S a=some o->B a=some o\/H a=none\/eB o:=g.nb;refine⟨R.grow g.b W sh bu uh λi a r=>?_,⟨g.b,W,λa o q=>?_⟩,sh,λa o q=>?_⟩
  · unfold ov;cases z:S a with
    |none=>exact R.un i a r
    |some o=>
      obtain⟨o',w⟩:=R.at r;rcases new a o z with q|q|q
      ·have:=R.bu a o q;rw[R.un i a r]at this;cases this
      ·rw[q]at w;cases w
      ·have e1:=sh _ _ w;rw[l.bh a o z]at e1;cases e1;exact(R.nt r w q).elim
  · rcases new a o q with q|q|q
    ·exact .inl q
    ·exact .inr (.inl (R.uh.free q))
    ·exact .inr (.inr q)
  · unfold ov at q;cases z:S a with
    |none=>rw[z]at q;exact .inl q
    |some o'=>
      rw[z]at q;cases q;rcases new a _ z with q|q
      ·exact .inl (R.bu a _ q)
      ·exact .inr q
 cases e:L ds with
 |ok d G=>
   unfold fG at P;rw[e]at P;intro v S J C H' N l g I k;obtain⟨R2,K⟩:=m l g;refine P v S _ H' N R2 K ⟨I.nd,λa r=>g.u.free (I.un a r),λa r=>?_⟩ (hU d v S J (ov S U) H' N k);unfold ov;have t:=I.un a r;cases z:S a with
   |none=>exact R.uh.free (g.u.free t)
   |some o=>have:=l.bu a o z;rw[t]at this;cases this
 |exc c G=>
   unfold fG at P;rw[e]at P;intro S J C H' l g;obtain⟨R2,K⟩:=m l g;exact P S _ H' R2 K
 |bad=>
   unfold fG at P;rw[e]at P;exact P
def hF(h:KR Y .F d v B U H N):KR Y .F d v B J H N:=h
def hO(h:KO Y s d v B U H N):KO Y s d v B J H N:=h
def FC{a:List Md}{b:KT D V}{ps:List Ap}{m:P1->Res (List D)}(h:AJ Y E M ps t m)(e:ps.length=a.length)
 (f:∀(j:Nat) p,ps[j]?=some p->t6 M true p (a.getD j .F)=true) (g:∀d v B U J H N,b d v B U H N->b d v B J H N):PJ Y b E M (iL (xL Y a b c) [] E t) (λT=>(m T).bind (fG c)):=by
 intro B U As Z H T Q R P;refine h.bnd R P λds vs I U1 H1 i e1 A W=>?_;rw[Zm];exact xo i A e f g W
def bq(c:Nat)(m:Str):D->Bool
 |.obj a ns _=>decide (a=c)&&!ns.contains m
 |_=>false
def mJ:∀{fs:List (Str×V)},(fs.map (·.1)).contains m=false->fs.lookup m=none
 |[],_=>rfl
 | p::fs,h=>by
   rw[YI,List.contains_cons,Bool.or_eq_false_iff]at h;rw[Zl,h.1];exact mJ h.2
def jj(h:bq c m d=true)(hd:Dn Y H d v):∃a dx fs,v=.ref a/\H a=some (.ins (Y c) dx fs)/\fs.lookup m=none:=by
 cases d with
 |obj g ns ds=>
   have h:(decide (g=c)&&!ns.contains m)=true:=h;rw[Aa9]at h;have e:=Ac2 h.1;subst e;rw[Dn]at hd;obtain⟨a,dx,fs,r,f,b,_⟩:=hd;refine⟨a,dx,fs,r,f,mJ ?_⟩;rw[b];simpa using h.2
 |_=>cases h
def Ft{b:List Md}{e:KT D V}{g:P1->Res D}{m:P1->Res (List D)}(s:A1J Y E M p ta g)(h:AJ Y E M ps t m)(n:(p::ps).length=b.length)
 (r:∀(j:Nat) q,(p::ps)[j]?=some q->t6 M true q (b.getD j .F)=true) (u:∀d v B U J H N,e d v B U H N->e d v B J H N):
 PJ Y e E M (cY (Y c) f (xL Y b e i) [] E ta t) (λT=>(g T).bind λo=>if bq c f o=true then (m T).bind λds=>fG i (o::ds) else .bad):=by
 intro B U As Z H T Q R P;refine s.bnd R P λo v I U1 H1 l e1 k W=>?_;by_cases z:bq c f o=true
 ·rw[YG z]at W;obtain⟨a,dx,fs,rfl,x,w⟩:=jj z (A1.read l k);refine⟨a,dx,fs,rfl,x,w,h.bnd l W λds vs L G K R2 y A C=>?_⟩;rw[Zm];exact xo (ps:=p::ps) (ds:=o::ds) R2 ⟨o,ds,_,vs,rfl,rfl,k.mono y,A⟩ n r u C
 ·rw[on z]at W;exact W.elim
end
section
variable{Y:Cm}{E:XK}{M:List Md}{B U H:Hp}{As:Nat->List Addr}{Z:St}{T:P1}
def iQ:List Ap->Nat->Option Nat
 |[],_=>none
 |p::r,i=>if p= .O i then some 0 else (iQ r i).map (·+1)
def gf:∀{ps:List Ap} {i j:Nat},iQ ps i=some j->ps[j]?=some (.O i)
 |[],_,_,h=>by cases h
 | p::r,i,j,h=>by
   unfold iQ at h;by_cases e:p= .O i
   ·rw[YG e]at h;cases h;rw[e];rfl
   ·rw[on e]at h;obtain⟨k,a,rfl⟩:=Y3.mp h;rw[Ab1];exact gf a
def cD:List Ap->List Nat
 |[]=>[]
 |.O i::r=>i::cD r
 |_::r=>cD r
def iJ:List Ap->List Nat
 |[]=>[]
 |.Bo i::r=>i::iJ r
 |_::r=>iJ r
def iY:∀{ps:List Ap} {i j:Nat},ps[j]?=some (.O i)->i∈cD ps
 |[],_,_,h=>by cases h
 | p::r,i,j,h=>by
   cases j with
   |zero=>cases h;exact YK
   |succ j=>
     have:=iY (ps:=r) (j:=j) (by simpa using h)
     cases p <;> first | exact this | exact YM _ this
def om:∀{ps:List Ap} {i:Nat},i∈cD ps->∃j,iQ ps i=some j
 |[],_,h=>by cases h
 | p::r,i,h=>by
   unfold iQ;by_cases e:p= .O i
   ·exact⟨0,by rw[YG e]⟩
   · rw[on e]
     have:i∈cD r:=by
      cases p with
      |O k=>
        rcases YS.mp h with z|z
        ·exact absurd (by rw[z]) e
        ·exact z
      |_=>exact h
     obtain⟨j,a⟩:=om this;exact⟨j+1,by rw[a];rfl⟩
def vG:∀{ps:List Ap} {i j:Nat},ps[j]?=some (.Bo i)->i∈iJ ps
 |[],_,_,h=>by cases h
 | p::r,i,j,h=>by
   cases j with
   |zero=>cases h;exact YK
   |succ j=>
     have:=vG (ps:=r) (j:=j) (by simpa using h)
     cases p <;> first | exact this | exact YM _ this
def rV:∀{ps:List Ap} {i j k:Nat},(cD ps).Nodup->ps[j]?=some (.O i)->ps[k]?=some (.O i)->j=k
 |[],_,_,_,_,h,_=>by cases h
 | p::r,i,j,k,nd,c,b=>by
   cases j with
   |zero=>
     cases k with
     |zero=>rfl
     |succ k=>
       cases c;exact absurd (iY (ps:=r) (j:=k) (by simpa using b)) (Y7.mp nd).1
   |succ j=>
     cases k with
     |zero=>
       cases b;exact absurd (iY (ps:=r) (j:=j) (by simpa using c)) (Y7.mp nd).1
     |succ k=>
       have a:(cD r).Nodup:=by
        cases p with
        |O x=>exact(Y7.mp nd).2
        |_=>exact nd
       rw[rV a (j:=j) (k:=k) (by simpa using c) (by simpa using b)]
def jD:∀{ps:List Ap} {j:Nat} {a T:P1},(cy ps j a T).length=T.length
 |[],_,_,_=>rfl
 | p::r,j,a,T=>by
   cases p with
   |O i=>rw[cy,jD,Za]
   |F=>rw[cy,jD];all_goals simp
   |U=>rw[cy,jD];all_goals simp
   |X=>rw[cy,jD];all_goals simp
   |Bo i=>rw[cy,jD];all_goals simp
def sR:∀{ps:List Ap} {b:Nat} {a T:P1} {i:Nat},(cD ps).Nodup->i<T.length->rg (cy ps b a T) i=match iQ ps i with|some j=>rg a (b+j)|none=>rg T i
 |[],_,_,_,_,_,_=>rfl
 | p::r,b,a,T,i,nd,hi=>by
   have step:∀G:P1,G.length=T.length->(cD r).Nodup->(p≠ .O i)->rg G i=rg T i->rg (cy r (b+1) a G) i=match iQ (p::r) i with|some j=>rg a (b+j)|none=>rg T i:=λG g d hp e=>by
    rw[sR d (by rw[g];exact hi),iQ,on hp];cases iQ r i with
    |none=>exact e
    |some j=>
      show rg a (b+1+j)=rg a (b+(j+1));rw[show b+1+j=b+(j+1) by omega]
   cases p with
   |O k=>
     rw[cy];by_cases e:k=i
     · subst e
       have f:iQ r k=none:=by
        cases q:iQ r k with
        |none=>rfl
        |some j=>exact absurd (iY (gf q)) (Y7.mp nd).1
       rw[sR (Y7.mp nd).2 (by rw[Za];exact hi),f,iQ,YG rfl,c7,YG ⟨rfl,hi⟩];rfl
     ·exact step _ (Za ..) (Y7.mp nd).2 (λz=>e (by cases z;rfl)) (by rw[c7,on λz=>e z.1])
   |F=>rw[cy];exact step T rfl nd (λz=>by cases z) rfl;all_goals simp
   |U=>rw[cy];exact step T rfl nd (λz=>by cases z) rfl;all_goals simp
   |X=>rw[cy];exact step T rfl nd (λz=>by cases z) rfl;all_goals simp
   |Bo k=>rw[cy];exact step T rfl nd (λz=>by cases z) rfl;all_goals simp
def Wq(M:List Md):Ap->Md->Prop
 |.F,.F=>True
 |.F,.R=>True
 |.U,.R=>True
 |.Bo _,.R=>True
 |.O i,.O s=>M.getD i .F= .O s
 |_,_=>False
def fitM(M:List Md):List Ap->List Md->Prop
 |[],[]=>True
 |p::ps,m::r=>Wq M p m/\fitM M ps r
 |_,_=>False
def fitM.len:∀{ps:List Ap} {mc:List Md},fitM M ps mc->ps.length=mc.length
 |[],[],_=>rfl
 |[],_::_,h=>h.elim
 |_::_,[],h=>h.elim
 |p::ps,m::r,h=>by rw[YO,YO,fitM.len h.2]
def fitM.get:∀{ps:List Ap} {mc:List Md} {j:Nat} {p:Ap},fitM M ps mc->ps[j]?=some p->Wq M p (mc.getD j .F)
 |[],_,_,_,_,e=>by cases e
 |_::_,[],_,_,h,_=>h.elim
 | p::ps,m::r,j,q,h,e=>by
   cases j with
   |zero=>cases e;exact h.1
   |succ j=>rw[Z0];exact fitM.get (j:=j) h.2 (by simpa using e)
def lY{mc:List Md}(h:mc.getD j .F= .O s):rg (fV mc a) j=rg a j:=by
 have b:j<mc.length:=by
  by_cases z:j<mc.length
  ·exact z
  ·rw[Y0,Y8 (by omega)]at h;cases h
 unfold fV;show((((List.range mc.length).map _)[j]?).join)=_;rw[List.getElem?_map,List.getElem?_range b];show(some (match mc.getD j .F with | .O _=>rg a j|_=>none)).join=_;rw[h];rfl
open Classical in
def lD{Kr:KT D V}(R:Rel Y M B U As Z H T)(A:Ag Y B U H Z T ps ds vs)(hf:fitM M ps g)(hd:(cD ps).Nodup)
 (hb:∀i∈iJ ps,i∉cD ps) (hU:∀d v B U J H N,Kr d v B U H N->Kr d v B J H N) (P:Mo Y Kr E M B U Z (bV ps fm ds T) Q):xL Y g Kr fm vs H Q E:=by
 have hlen:=A.len;have hl:=hf.len
 have K:∀{i j:Nat},ps[j]?=some (.O i)->∃d v s,ds[j]?=some d/\vs[j]?=some v/\rg Z i=some v/\rg T i=some d/\g.getD j .F= .O s/\M.getD i .F= .O s:=λ{i j} e=>by
  obtain⟨d,v,ed,ev,r⟩:=A.get e;have q:=hf.get e;cases y:g.getD j .F with
  |O s=>rw[y]at q;exact⟨d,v,s,ed,ev,r.1,r.2,rfl,q⟩
  |F=>rw[y]at q;exact q.elim
  |R=>rw[y]at q;exact q.elim
 have FPd:∃Uc:Hp,(∀a,(∃j i:Nat,ps[j]?=some (.O i)/\a∈As i)->Uc a=none)/\(∀a,(¬ ∃j i:Nat,ps[j]?=some (.O i)/\a∈As i)->Uc a=H a):=
  ⟨λa=>if (∃j i:Nat,ps[j]?=some (.O i)/\a∈As i) then none else H a,λa h=>YG h,λa h=>on h⟩
 obtain⟨Uc,uc1,uc2⟩:=FPd
 have notFP:∀{a o},U a=some o->¬ ∃j i:Nat,ps[j]?=some (.O i)/\a∈As i:=λ{a o} q ⟨j,i,_,f⟩=>by
  rw[R.un i a f]at q;cases q
 have m:Same U Uc:=λa o q=>by rw[uc2 a (notFP q)];exact R.uh a o q
 have ucH:Same Uc H:=λa o q=>by
  by_cases z:∃j i:Nat,ps[j]?=some (.O i)/\a∈As i
  ·rw[uc1 a z]at q;cases q
  ·rw[uc2 a z]at q;exact q
 -- what is owned and not cD
 have other:∀{i a},i∉cD ps->a∈As i->∃o,Uc a=some o/\H a=some o:=λ{i a} hi f=>by
  obtain⟨o,q⟩:=R.at f;refine⟨o,?_,q⟩;rw[uc2 a]
  ·exact q
  · rintro⟨j,k,ek,x⟩;by_cases e:k=i
    ·subst e;exact hi (iY ek)
    ·exact R.dj k i a e x f
 have Rc:Rel Y g B Uc (λj=>match ps[j]? with|some (.O i)=>As i|_=>[]) (vs.map some) H (ds.map some):=by
  refine⟨R.bu.trans m,ucH,λj=>?_,λj k a hne f x=>?_,λj a f=>?_,λj=>?_,by rw[YJ,YJ,hlen.1,hlen.2],R.tb⟩
  · try dsimp only
    split
    ·exact R.nd _
    ·exact ZD
  · try dsimp only at f x
    split at f
    · rename_i i e1;split at x
      · rename_i i' e2;by_cases e:i=i'
        ·subst e;exact hne (rV hd e1 e2)
        ·exact R.dj i i' a e f x
      ·cases x
    ·cases f
  · try dsimp only at f
    split at f
    ·rename_i i e1;exact uc1 a ⟨j,i,e1,f⟩
    ·cases f
  · rw[dJ,dJ];cases e:ps[j]? with
    |none=>
      have:ps.length<=j:=Aa0.mp e
      rw[Y8 (by omega)];rfl
    |some p=>
      obtain⟨d,v,ed,ev,r⟩:=A.get e;rw[ed,ev];refine⟨v,rfl,?_⟩;have q:=hf.get e;cases p with
      |F=>
        have r:Dn Y B d v:=r;cases y:g.getD j .F with
        |F=>exact⟨r,rfl⟩
        |R=>exact⟨Dn.mono (R.bu.trans m) r,rfl⟩
        |O s=>rw[y]at q;exact q.elim
      |U=>
        have r:Dn Y U d v:=r;cases y:g.getD j .F with
        |F=>rw[y]at q;exact q.elim
        |R=>exact⟨Dn.mono m r,rfl⟩
        |O s=>rw[y]at q;exact q.elim
      |X=>cases y:g.getD j .F<;>(rw[y]at q;exact q.elim)
      |Bo i=>
        cases y:g.getD j .F with
        |F=>rw[y]at q;exact q.elim
        |O s=>rw[y]at q;exact q.elim
        |R=>
          refine⟨?_,rfl⟩;have l:=R.lo i;rw[r.2]at l;have w:=gP l r.1;cases e2:M.getD i .F with
          |F=>rw[e2]at w;exact Dn.mono (R.bu.trans m) w.1
          |R=>rw[e2]at w;exact Dn.mono m w.1
          |O s=>
            rw[e2]at w;refine Ow.dn (R.bu.trans m) (λa f o q=>?_) w;obtain⟨o',q1,q2⟩:=other (hb i (vG e)) f;rw[q2]at q;cases q;exact q1
      |O i=>
        obtain⟨d',v',s,ed',ev',L,h3,h4,h5⟩:=K e;rw[h4];have l:=R.lo i;rw[r.2,h5]at l;exact gP l r.1
 refine⟨B,Uc,_,ds,Rc,by omega,?_⟩
 have main:∀{S J H':Hp} {C:Nat->List Addr} {W:P1},Rel Y g S J C (vs.map some) H' (fV g W)->Ex B Uc S J->
  Rel Y M S (ov S U) (λi=>match iQ ps i with|some j=>C j|none=>As i) Z H' (cy ps 0 W T)/\Ex B U S (ov S U)/\∀N,NewM N J C->NewM N (ov S U) (λi=>match iQ ps i with|some j=>C j|none=>As i):=λ{S J H' C W} t I=>by
  have su:Same U (ov S U):=λa o q=>by
   unfold ov;cases z:S a with
   |none=>exact q
   |some o'=>
     have r:=I.u a o (m a o q);have L:=t.bu a o' z;rw[r]at L;cases L;rfl
  have uh:Same (ov S U) H':=λa o q=>by
   unfold ov at q;cases z:S a with
   |none=>rw[z]at q;exact t.uh a o (I.u a o (m a o q))
   |some o'=>rw[z]at q;cases q;exact t.bh a _ z
  have bu:Same S (ov S U):=λa o q=>by unfold ov;rw[q]
  have free:∀{a},J a=none->ov S U a=none:=λ{a} h=>by
   unfold ov;cases z:S a with
   |none=>exact m.free (I.u.free h)
   |some o=>have:=t.bu a o z;rw[h]at this;cases this
  have there:∀{i a},iQ ps i=none->a∈As i->∃o,J a=some o/\H a=some o/\H' a=some o:=λ{i a} hi f=>by
   obtain⟨o,q1,q2⟩:=other (λz=>by obtain⟨j,hj⟩:=om z;rw[hi]at hj;cases hj) f;exact⟨o,I.u a o q1,q2,t.uh a o (I.u a o q1)⟩
  refine⟨⟨bu,uh,λi=>?_,λi k a hne f x=>?_,λi a f=>?_,λi=>?_,by rw[jD];exact R.len,t.tb⟩,⟨I.b,su,λa o q=>?_⟩,λN n=>⟨n.nd,λa f=>free (n.un a f),λa f i=>?_⟩⟩
  · try dsimp only
    split
    ·exact t.nd _
    ·exact R.nd _
  · try dsimp only at f x
    split at f
    · rename_i j ej;split at x
      ·rename_i j' ej';refine t.dj j j' a (λz=>hne ?_) f x;subst z;have r:=gf ej;have L:=gf ej';rw[r]at L;cases L;rfl
      ·rename_i ek;obtain⟨o,q,_⟩:=there ek x;rw[t.un j a f]at q;cases q
    · rename_i ei;obtain⟨o,q,_⟩:=there ei f;split at x
      ·rename_i j' ej';rw[t.un j' a x]at q;cases q
      ·exact R.dj i k a hne f x
  · try dsimp only at f
    split at f
    ·rename_i j ej;exact free (t.un j a f)
    · rename_i ei;obtain⟨o,q,_⟩:=there ei f;unfold ov;cases z:S a with
      |none=>exact R.un i a f
      |some o'=>
        rcases I.nb a o' z with w|w|w
        ·have:=R.bu a o' w;rw[R.un i a f]at this;cases this
        ·obtain⟨o2,q1,q2⟩:=other (λz=>by obtain⟨j,hj⟩:=om z;rw[ei]at hj;cases hj) f;rw[w]at q1;cases q1
        ·obtain⟨o2,_,q2,q3⟩:=there ei f;rw[t.bh a o' z]at q3;cases q3;exact(R.nt f q2 w).elim
  · try dsimp only
    cases ep:iQ ps i with
    |some j=>
      obtain⟨d,v,s,ed,ev,L,h3,h4,h5⟩:=K (gf ep)
      have hi:i<T.length:=by
       have:=bQ h3
       exact(Y2.mp this).1
      rw[sR hd hi,ep]
      try dsimp only
      have l:=t.lo j;rw[lY h4,dJ,ev,h4]at l;rw[L,h5,Nat.zero_add];exact l
    |none=>
      try dsimp only
      by_cases hi:i<T.length
      ·rw[sR hd hi,ep];refine(R.lo i).mono I.b su λa f=>?_;obtain⟨o,_,q1,q2⟩:=there ep f;rw[q1,q2]
      · have r:rg (cy ps 0 W T) i=none:=by
         unfold rg;rw[List.getElem?_eq_none (by rw[jD];omega)];rfl
        have L:rg T i=none:=by
         unfold rg;rw[List.getElem?_eq_none (by omega)];rfl
        have l:=R.lo i;rw[L]at l;rw[r];exact l
  · rcases I.nb a o q with w|w|w
    ·exact .inl w
    ·exact .inr (.inl (m.free w))
    ·exact .inr (.inr w)
  · try dsimp only
    cases ep:iQ ps i with
    |some j=>exact n.ap a f j
    |none=>
      intro z;obtain⟨o,q,_⟩:=there ep z;rw[n.un a f]at q;cases q
 cases e:fm ds with
 |ok d G=>
   unfold bV at P;rw[e]at P;intro v S J C H' N t I n' k;obtain⟨R2,e2,n2⟩:=main t I;exact P v S _ _ H' N R2 e2 (n2 N n') (hU d v S J (ov S U) H' N k)
 |exc c G=>
   unfold bV at P;rw[e]at P;intro S J C H' t I;obtain⟨R2,e2,n2⟩:=main t I;exact P S _ _ H' R2 e2
 |bad=>
   unfold bV at P;rw[e]at P;exact P
end
def gm(c:Nat)(a:List D->Out D)(ds:List D):Res D:=match a (.obj c [] []::ds) with
 |.ok .non G=>(match rg G 0 with|some d=>.ok d|none=>.bad)
 |.ok _ _=>.bad
 |.exc c _=>.exc c
 |.bad=>.bad
section
variable{Y:Cm}{E:XK}{M:List Md}{B U H:Hp}{As:Nat->List Addr}{Z:St}{T:P1}{K:F0}
def RF{b:KT D V}{m:P1->Res (List D)}(h:AJ Y E M ps t m)(k:fitM M ps a)(hd:(cD ps).Nodup)(l:∀i∈iJ ps,i∉cD ps)
 (n:∀d v B U J H N,b d v B U H N->b d v B J H N):MJ Y b E M (iL (xL Y a b f) [] E t) (λT=>((m T).up T).bind (bV ps f)):=by
 intro B U As Z H T Q R P;replace P:Mo Y b E M B U Z (((m T).up T).bind (bV ps f)) Q:=P;refine h B U As Z H T _ R ?_;cases e:m T with
 |ok ds=>
   rw[e]at P;intro vs I U1 H1 N j g o A;rw[Zm];exact lD j A k hd l n (Mo.at (r:=bV ps f ds T) P g.toEx)
 |exc c=>rw[e]at P;exact λI U1 H1 j g=>P I U1 As H1 j g.toEx
 |bad=>rw[e]at P;exact P
def Rx{b:KT D V}{k:P1->Res D}{m:P1->Res (List D)}(G:A1J Y E M p ta k)(h:AJ Y E M ps t m)(C:fitM M (p::ps) f)(hd:(cD (p::ps)).Nodup)
 (F:∀i∈iJ (p::ps),i∉cD (p::ps)) (K:∀d v B U J H N,b d v B U H N->b d v B J H N):
 MJ Y b E M (cY (Y c) g (xL Y f b j) [] E ta t) (λT=>((k T).up T).bind λo T=>if bq c g o=true then ((m T).up T).bind λds T=>bV (p::ps) j (o::ds) T else .bad):=by
 intro B U As Z H T Q R P;replace P:Mo Y b E M B U Z (((k T).up T).bind λo T=>if bq c g o=true then ((m T).up T).bind λds T=>bV (p::ps) j (o::ds) T else .bad) Q:=P;refine G B U As Z H T _ R ?_;cases e:k T with
 |ok o=>
   rw[e]at P;intro v I U1 H1 N q n W u;replace P:Mo Y b E M B U Z (if bq c g o=true then ((m T).up T).bind λds T=>bV (p::ps) j (o::ds) T else .bad) Q:=P;by_cases z:bq c g o=true
   · rw[YG z]at P;obtain⟨a,dx,fs,rfl,O,L⟩:=jj z (A1.read q u);refine⟨a,dx,fs,rfl,O,L,h I U1 As Z H1 T _ q ?_⟩;cases s:m T with
     |ok ds=>
       rw[s]at P;intro vs y w x X R2 l S A;rw[Zm];exact lD (ps:=p::ps) (ds:=o::ds) R2 ⟨o,ds,_,vs,rfl,rfl,u.mono l,A⟩ C hd F K (Mo.at (r:=bV (p::ps) j (o::ds) T) P (n.toEx.trans l.toEx))
     |exc c=>rw[s]at P;exact λy w x R2 l=>P y w As x R2 (n.toEx.trans l.toEx)
     |bad=>rw[s]at P;exact P
   ·rw[on z]at P;exact P.elim
 |exc c=>rw[e]at P;exact λI U1 H1 q n=>P I U1 As H1 q n.toEx
 |bad=>rw[e]at P;exact P
def LA{f:List Md}{ps:List Ap}(R:Rel Y M B U As Z H T)(A:Ag Y B U H Z T ps ds vs)(hl:ps.length+1=f.length)(h0:f.getD 0 .F= .O (.ob sh))
 (hf:∀(j:Nat) p,ps[j]?=some p->t6 M true p (f.getD (j+1) .F)=true) (P:Po Y (KO Y (.ob sh)) E M B U As Z H T (gm c fm ds) Q) (x dx:Addr) (hx:H x=none) (hdx:H dx=none) (hne:dx≠x):
 xL Y f (KR Y .F) fm (.ref x::vs) (upd (upd H dx (.own x)) x (.ins (Y c) dx [])) (λv H2=>v=.non/\Q (.ref x) H2) E:=by
 have K:=A.len;have sH:Same H (upd (upd H dx (.own x)) x (.ins (Y c) dx [])):=Gd.va hx (Gd.b9 hdx);have hUc:∃y:Hp,y x=none/\∀a,a≠x->y a=upd (upd H dx (.own x)) x (.ins (Y c) dx []) a:=⟨λa=>if a=x then none else upd (upd H dx (.own x)) x (.ins (Y c) dx []) a,YG rfl,λa h=>on h⟩;obtain⟨y,u1,u2⟩:=hUc;have n:Same H y:=λa o q=>by rw[u2 a (aT q hx)];exact sH a o q
 have ucH:Same y (upd (upd H dx (.own x)) x (.ins (Y c) dx [])):=λa o q=>by
  by_cases z:a=x
  ·subst z;rw[u1]at q;cases q
  ·rw[u2 a z]at q;exact q
 have r:∀{a},y a=none->H a=none:=λh=>n.free h
 have Rc:Rel Y f B y (λj=>match j with|0=>[x]|_+1=>[]) ((.ref x::vs).map some) (upd (upd H dx (.own x)) x (.ins (Y c) dx [])) ((.obj c [] []::ds).map some):=by
  refine⟨R.bh.trans n,ucH,λj=>?_,λj k a W g hk=>?_,λj a g=>?_,λj=>?_,by rw[YJ,YJ,YO,YO,K.1,K.2],R.tb⟩
  · cases j with
    |zero=>simp
    |succ j=>exact ZD
  · cases j with
    |zero=>
      cases k with
      |zero=>exact W rfl
      |succ k=>cases hk
    |succ j=>cases g
  · cases j with
    |zero=>rw[YT.mp g];exact u1
    |succ j=>cases g
  · rw[dJ,dJ];cases j with
    |zero=>
      rw[h0];refine⟨.ref x,rfl,?_⟩;show Ow Y B _ (.obj c [] []) (.ob sh) (.ref x) [x];rw[Ow];exact⟨x,dx,[],[],rfl,ay,rfl,rfl,by rw[Owf];exact⟨rfl,rfl⟩⟩
    |succ j=>
      rw[Ab1,Ab1];cases e:ps[j]? with
      |none=>
        have:ps.length<=j:=Aa0.mp e
        rw[Y8 (by omega)];rfl
      |some p=>
        obtain⟨d,v,ed,ev,h1⟩:=A.get e;rw[ed,ev];refine⟨v,rfl,?_⟩;have hr:=A1.read R h1;have q:=hf j p e;cases em:f.getD (j+1) .F with
        |F=>
          rw[em]at q;cases p with
          |F=>exact⟨h1,rfl⟩
          |_=>cases q
        |R=>exact⟨Dn.mono n hr,rfl⟩
        |O s=>rw[em]at q;cases p<;>cases q
 refine⟨B,y,_,.obj c [] []::ds,Rc,by rw[YO];omega,?_⟩
 have I:∀{S J H':Hp} {C:Nat->List Addr} {L:P1},Rel Y f S J C ((.ref x::vs).map some) H' L->Ex B y S J->Rel Y M S (ov S U) As Z H' T/\Gw B U H S (ov S U) H'/\∀a,J a=none->ov S U a=none:=λ{S J H' C L} m t=>by
  have sU:Same U J:=(R.uh.trans n).trans t.u
  have su:Same U (ov S U):=λa o q=>by
   unfold ov;cases z:S a with
   |none=>exact q
   |some o'=>
     have h1:=sU a o q;have h2:=m.bu a o' z;rw[h1]at h2;cases h2;rfl
  have sh:Same H H':=(n.trans t.u).trans m.uh
  have uh:Same (ov S U) H':=λa o q=>by
   unfold ov at q;cases z:S a with
   |none=>rw[z]at q;exact sh a o (R.uh a o q)
   |some o'=>rw[z]at q;cases q;exact m.bh a _ z
  have bu:Same S (ov S U):=λa o q=>by unfold ov;rw[q]
  have new:∀a o,S a=some o->B a=some o\/H a=none\/eB o:=λa o q=>(t.nb a o q).imp id λz=>z.imp r id;refine⟨R.grow t.b su sh bu uh λi a g=>?_,⟨⟨t.b,su,λa o q=>?_⟩,sh,λa o q=>?_⟩,λa h=>?_⟩
  · unfold ov;cases z:S a with
    |none=>exact R.un i a g
    |some o=>
      obtain⟨o',q'⟩:=R.at g;rcases new a o z with q|q|q
      ·have:=R.bu a o q;rw[R.un i a g]at this;cases this
      ·rw[q]at q';cases q'
      ·have e1:=sh _ _ q';rw[m.bh a o z]at e1;cases e1;exact(R.nt g q' q).elim
  · rcases new a o q with q|q|q
    ·exact .inl q
    ·exact .inr (.inl (R.uh.free q))
    ·exact .inr (.inr q)
  · unfold ov at q;cases z:S a with
    |none=>rw[z]at q;exact .inl q
    |some o'=>
      rw[z]at q;cases q;rcases new a _ z with q|q
      ·exact .inl (R.bu a _ q)
      ·exact .inr q
  · unfold ov;cases z:S a with
    |none=>exact sU.free h
    |some o=>have:=m.bu a o z;rw[h]at this;cases this
 unfold gm at P;cases e:fm (.obj c [] []::ds) with
 |ok d G=>
   rw[e]at P;intro v S J C H' N m t n' k;obtain⟨R2,g2,X⟩:=I m t;cases d with
   |non=>
     have k:Dn Y S .non v:=k;rw[Dn]at k;refine⟨k,?_⟩;replace P:Po Y (KO Y (.ob sh)) E M B U As Z H T (match rg G 0 with|some d=>.ok d|none=>.bad) Q:=P;have l:=m.lo 0;rw[lY h0,h0]at l;cases e0:rg G 0 with
     |none=>rw[e0]at P;exact P.elim
     |some d=>
       rw[e0]at P l;have w:=gP l (v:=.ref x) rfl;exact P (.ref x) S _ H' (C 0) R2 g2 ⟨m.nd 0,λa g=>r (t.u.free (m.un 0 a g)),λa g=>X a (m.un 0 a g)⟩ w
   |_=>exact P.elim
 |exc c' G=>
   rw[e]at P;intro S J C H' m t;obtain⟨R2,g2,X⟩:=I m t;exact P S _ H' R2 g2
 |bad=>rw[e]at P;exact P
def PV{a:List Md}{ps:List Ap}{m:P1->Res (List D)}(h:AJ Y E M ps t m)(g:ps.length+1=a.length)(h0:a.getD 0 .F= .O (.ob sh))
 (i:∀(j:Nat) p,ps[j]?=some p->t6 M true p (a.getD (j+1) .F)=true):PJ Y (KO Y (.ob sh)) E M (rA (Y c) (xL Y a (KR Y .F) e) [] E t) (λT=>(m T).bind (gm c e)):=by
 intro B U As Z H T Q R P;refine h.bnd R P λds vs I U1 H1 k e1 A W=>?_;intro x dx f d b;rw[Zm];exact LA k A g h0 i W x dx f d b
structure Pth (Y:Cm) (M:List Md) (t:TE) (get:P1->Option D) (set:P1->D->P1):Prop where
 rd:∀{B U:Hp} {As:Nat->List Addr} {Z:St} {H:Hp} {T:P1} {d:D},Rel Y M B U As Z H T->get T=some d->∃v A,(∀Q:VK,Q v H->t Z H Q)/\Ow Y B H d (.ct .fz) v A/\(∀a∈A,∃i,a∈As i)/\
  ∀I U1 H1,Rel Y M I U1 As Z H1 T->Same B I->Same H H1->∀a∈A,∀o' d',Ow Y I (upd H1 a o') d' (.ct .fz) v A->Rel Y M I U1 As Z (upd H1 a o') (set T d')
def Rel.mut(R:Rel Y M B U As Z H T)(g:M.getD i .F= .O sh)(f:rg Z i=some v)(hd:rg T i=some d)(c:a∈As i)(w:Ow Y B (upd H a o') d' sh v (As i)):
 Rel Y M B U As Z (upd H a o') (T.set i (some d')):=by
 have hi:i<T.length:=(Y2.mp (bQ hd)).1;refine⟨R.bu,λb u q=>?_,R.nd,R.dj,R.un,λj=>?_,by rw[Za];exact R.len,R.tb⟩
 ·rw[aq (aT q (R.un i a c))];exact R.uh b u q
 · rw[c7];by_cases e:i=j
   ·subst e;rw[YG ⟨rfl,hi⟩,g];exact⟨v,f,w⟩
   ·rw[on λz=>e z.1];exact(R.lo j).mono (Same.refl _) (Same.refl _) λb h=>aq (λz:b=a=>R.dj i j a e c (z▸h))
def b7(i:Nat):P1->Option D:=λT=>rg T i
def cZ(i:Nat):P1->D->P1:=λT d=>T.set i (some d)
def X5{i:Nat}(f:M.getD i .F= .O (.ct .fz)):Pth Y M (cK i) (b7 i) (cZ i) where
 rd:=λ{B U As Z H T d} R e=>by
  replace e:rg T i=some d:=e;have l:=R.lo i;rw[e,f]at l;obtain⟨v,c,w⟩:=l;exact⟨v,As i,λQ q=>⟨v,bQ c,q⟩,w,λa b=>⟨i,b⟩,λI U1 H1 h _ _ a b o' d' g=>h.mut f c e b g⟩
def Owf.upd{sh:List (Str×Sh)}{H:Hp}:∀{fs:List (Str×V)} {ds:List D} {A:List Addr} {d:D},Owf Y B H ds (fs.map (·.1)) sh (fs.map (·.2)) A->A.Nodup->bj (fs.map (·.1)) ds f=some d->
 ∃v A1,fs.lookup f=some v/\Ow Y B H d ((sh.lookup f).getD .fz) v A1/\(∀a∈A1,a∈A)/\∀I H1 d',Same B I->(∀b∈A,b∉A1->H1 b=H b)->Ow Y I H1 d' ((sh.lookup f).getD .fz) v A1->Owf Y I H1 (c8 (fs.map (·.1)) ds f d') (fs.map (·.1)) sh (fs.map (·.2)) A
 |[],ds,A,d,h,nd,e=>by cases ds<;>cases e
 | p::fs,ds,A,d,h,nd,e=>by
   cases ds with
   |nil=>cases e
   |cons d0 ds=>
     rw[List.map_cons,List.map_cons,Owf]at h;obtain⟨n,E,x,r,s,y,J,h0,K,o,u⟩:=h;cases J;cases h0;subst K;obtain⟨F,j,g⟩:=List.nodup_append.mp nd;rw[List.map_cons]at e;unfold bj at e;by_cases q:p.1=f
     ·rw[YG q]at e;cases e;rw[q]at o;refine⟨p.2,s,by rw[Zl,<-q,Z4],o,λa m=>YU _ m,λI H1 d' i k w=>?_⟩;rw[YI,YI,c8,YG q,Owf];exact⟨p.1,_,p.2,_,s,y,rfl,rfl,rfl,by rw[q];exact w,Owf.mono i (λb c=>k b (YL _ c) λz=>g b z b c rfl) u⟩
     ·rw[on q]at e;obtain⟨v,A1,G,C,t,L⟩:=Owf.upd u j e;have c:(f==p.1)=false:=Zp.mpr λz=>q z.symm;refine⟨v,A1,by rw[Zl,c];exact G,C,λa m=>YL _ (t a m),λI H1 d' i k w=>?_⟩;rw[YI,YI,c8,on q,Owf];exact⟨p.1,_,p.2,_,s,y,rfl,rfl,rfl,Ow.mono i (λb c=>k b (YU _ c) λz=>g b c b (t b z) rfl) o,L I H1 d' i (λb c l=>k b (YL _ c) l) w⟩
def dY(c:Nat)(f:Str)(i:Nat):P1->Option D:=λT=>match rg T i with
 |some (.obj a ns vs)=>if a=c then bj ns vs f else none
 |_=>none
def du(f:Str)(i:Nat):P1->D->P1:=λT d=>match rg T i with
 |some (.obj c ns vs)=>T.set i (some (.obj c ns (c8 ns vs f d)))
 |_=>T
def X7{c:Nat}{f:Str}{i:Nat}{sh:List (Str×Sh)}(X:Cls K (Y c))(W:NoAttr K (Y c) f)(E:M.getD i .F= .O (.ob sh))(G:(sh.lookup f).getD .fz=.ct .fz):Pth Y M (nH K (cK i) f) (dY c f i) (du f i) where
 rd:=λ{B U As Z H T d} R e=>by
  have l:=R.lo i;unfold dY at e;cases e0:rg T i with
  |none=>rw[e0]at e;cases e
  |some d0=>
    cases d0 with
    |obj k ns vs=>
      rw[e0]at e;replace e:(if k=c then bj ns vs f else none)=some d:=e;by_cases q:k=c
      · subst q;rw[YG rfl]at e;rw[e0,E]at l;obtain⟨v,C,w⟩:=l;have x:Ow Y B H (.obj k ns vs) (.ob sh) v (As i):=w;rw[Ow]at x;obtain⟨a,dx,xs,A',rfl,L,h2,j,J⟩:=x;subst h2;have nd:=R.nd i;rw[j]at nd;obtain⟨n,m⟩:=Y7.mp nd;obtain⟨u,A1,V,A,t,cl⟩:=Owf.upd J m e;rw[G]at A;refine⟨u,A1,λQ q=>⟨.ref a,bQ C,a,_,dx,xs,u,rfl,L,X,W,V,q⟩,A,λb h=>⟨i,by rw[j];exact YM _ (t b h)⟩,λI U1 H1 R1 P g b h o' d' N=>?_⟩;have s:b∈As i:=by rw[j];exact YM _ (t b h)
        have:du f i T d'=T.set i (some (.obj k (xs.map (·.1)) (c8 (xs.map (·.1)) vs f d'))):=by unfold du;rw[e0]
        rw[this];refine R1.mut E C e0 s ?_;rw[j,Ow];have p:a≠b:=λz=>n (by rw[z];exact t b h);refine⟨a,dx,xs,A',rfl,by rw[aq p];exact g _ _ L,rfl,rfl,cl I _ d' P (λy S r=>?_) (by rw[G];exact N)⟩
        have:y≠b:=λz=>r (by rw[z];exact h)
        rw[aq this];obtain⟨o,D⟩:=Owf.at J S;rw[D,g _ _ D]
      ·rw[on q]at e;cases e
    |_=>rw[e0]at e;cases e
def CW(set:P1->D->P1)(T:P1):Option (D×List D)->Out D
 |some (d,a)=>.ok d (set T (.lst a))
 |none=>.bad
def RH(set:P1->D->P1)(f:List D->D->Option (D×List D))(T:P1)(xs:List D):Res D->Out D
 |.ok x=>CW set T (f xs x)
 |.exc c=>.exc c T
 |.bad=>.bad
def kG(get:P1->Option D)(set:P1->D->P1)(f:List D->D->Option (D×List D))(me:P1->Res D):P1->Out D:=λT=>match get T with
 |some (.lst xs)=>RH set f T xs (me T)
 |_=>.bad
def Ow.lst{d:D}{v:V}{A:List Addr}{ds:List D}(w:Ow Y B H d (.ct .fz) v A)(e:d=.lst ds):∃a xs,v=.ref a/\H a=some (.lst xs)/\A=[a]/\Dns Y B ds xs:=by
 subst e;rw[Ow]at w;obtain⟨a,xs,i,r,h,g,f⟩:=w;obtain⟨c,b⟩:=Ows.fz f;exact⟨a,xs,r,h,by rw[g,b],c⟩
def Ow.lst'(h:H a=some (.lst xs))(d:Dns Y B ds xs):Ow Y B H (.lst ds) (.ct .fz) (.ref a) [a]:=by
 rw[Ow];exact⟨a,xs,[],rfl,h,rfl,Ows.of d⟩
section
variable{t:TE}{get:P1->Option D}{set:P1->D->P1}
def GS{r:V->List V->Hp->VK->Prop}{f:List D->D->Option (D×List D)}(p:Pth Y M t get set)(G:PJ Y (KR Y k) E M te me)
 (C:∀(B U H:Hp) (a:Addr) (ds:List D) (xs:List V) (x:D) (u:V) (d:D) (j:List D) (Q:VK),Same B U->Same U H->H a=some (.lst xs)->Dns Y B ds xs->Dn Y (hp k B U H) x u->f ds x=some (d,j)->(∀v l,Dn Y B d v->Dns Y B j l->Q v (upd H a (.lst l)))->r (.ref a) [u] H Q):
 MJ Y (KR Y .F) E M (MP K "list" r t (aN te bT)) (kG get set f me):=by
 intro B U As Z H T Q R P;unfold kG at P;cases e:get T with
 |none=>rw[e]at P;exact P.elim
 |some d0=>
   cases d0 with
   |lst ds=>
     rw[e]at P;replace P:Mo Y (KR Y .F) E M B U Z (RH set f T ds (me T)) Q:=P;obtain⟨v,A,z,w,W,O⟩:=p.rd R e;obtain⟨a,xs,rfl,o,rfl,J⟩:=w.lst rfl;refine z _ ⟨.inl ⟨rfl,xs,SqL.of o⟩,G B U As Z H T _ R ?_⟩;cases m:me T with
     |ok x=>
       rw[m]at P;replace P:Mo Y (KR Y .F) E M B U Z (CW set T (f ds x)) Q:=P;intro u I U1 H1 N i g S y;cases n:f ds x with
       |none=>rw[n]at P;exact P.elim
       |some L=>
         obtain⟨d,j⟩:=L;rw[n]at P;refine C I U1 H1 a ds xs x u d j Q i.bu i.uh (g.h _ _ o) (J.mono g.b) y n λv l s q=>?_;exact P v I U1 As _ [] (O I U1 H1 i g.b g.h a YK _ _ (Ow.lst' ay q)) g.toEx NewM.nil s
     |exc c=>rw[m]at P;exact λI U1 H1 i g=>P I U1 As H1 i g.toEx
     |bad=>rw[m]at P;exact P.elim
   |_=>rw[e]at P;exact P.elim
def lE(xs:List D)(x:D):Option (D×List D):=if xs.length<af then some (.non,xs++[x]) else none
def GZ(p:Pth Y M t get set)(g:PJ Y (KR Y .F) E M te me):MJ Y (KR Y .F) E M (MP K "list" tI t (aN te bT)) (kG get set lE me):=
 GS (f:=lE) p g λB U H a ds xs x u d i Q _ _ h c e b k=>by
  unfold lE at b;by_cases z:ds.length<af
  ·rw[YG z]at b;cases b;exact⟨a,xs,u,rfl,rfl,h,eG (ZO (by rw[<-c.len];exact z)),k .non _ (by rw[Dn]) (c.append (Dns.one e))⟩
  ·rw[on z]at b;cases b
def Fa(xs:List D)(x:D):Option (D×List D):=match x with
 |.int i=>if 0<=i/\i<xs.length/\xs.length<=af then xs[i.toNat]?.map λd=>(d,xs.eraseIdx i.toNat) else none
 |_=>none
def LF(p:Pth Y M t get set)(m:PJ Y (KR Y .X) E M te me):MJ Y (KR Y .F) E M (MP K "list" E1 t (aN te bT)) (kG get set Fa me):=
 GS (f:=Fa) p m λB U H a ds xs x u d q Q _ _ n e c b k=>by
  cases x with
  |int i=>
    have c:Dn Y H (.int i) u:=c;rw[Dn]at c;subst c;replace b:(if 0<=i/\i<ds.length/\ds.length<=af then ds[i.toNat]?.map λd=>(d,ds.eraseIdx i.toNat) else none)=some (d,q):=b;by_cases z:0<=i/\i<ds.length/\ds.length<=af
    ·rw[if_pos z]at b;obtain⟨y,o,r⟩:=Option.map_eq_some_iff.mp b;cases r;obtain⟨w,l,s⟩:=e.get o;obtain⟨j,h,g⟩:=z;unfold af at g;refine⟨a,xs,i,i.toNat,w,rfl,rfl,n,by omega,by omega,?_,l,k w _ s (e.erase _)⟩;refine(t3 ?_).1;unfold oB;rw[if_pos j,if_pos (by rw[<-e.len];exact h)]
    ·rw[on z]at b;cases b
  |_=>cases b
def xw(i:Nat)(x:D)(T:P1):Out D:=match rg T i with
 |some (.lst xs)=>CW (cZ i) T (lE xs x)
 |_=>.bad
def DD(i:Nat)(me:P1->Out D):P1->Out D:=λT=>match rg T i with
 |some (.lst _)=>(me T).bind (xw i)
 |_=>.bad
def CU(g:M.getD i .F= .O (.ct .fz))(q:MJ Y (KR Y .F) E M te me):MJ Y (KR Y .F) E M (MP K "list" tI (cK i) (aN te bT)) (DD i me):=by
 intro B U As Z H T Q R P;unfold DD at P;cases e:rg T i with
 |none=>rw[e]at P;exact P.elim
 |some d0=>
   cases d0 with
   |lst ds=>
     rw[e]at P;replace P:Mo Y (KR Y .F) E M B U Z ((me T).bind (xw i)) Q:=P;have l:=R.lo i;rw[e,g]at l;obtain⟨v,f,w⟩:=l;obtain⟨a,xs,rfl,s,_,C⟩:=Ow.lst w rfl;refine⟨.ref a,bQ f,.inl ⟨rfl,xs,SqL.of s⟩,q.bnd R P λx G u I U1 h H1 N n e1 A p W=>?_⟩;have j:=n.lo i;unfold xw at W;cases b:rg G i with
     |none=>rw[b]at W;exact W.elim
     |some y=>
       cases y with
       |lst c=>
         rw[b]at W;rw[b,g,f]at j;have o:=gP j rfl;obtain⟨J,d,t,r,m,k⟩:=Ow.lst o rfl;cases t;replace W:Mo Y (KR Y .F) E M I U1 Z (CW (cZ i) G (lE c x)) Q:=W;unfold lE at W;by_cases z:c.length<af
         ·rw[YG z]at W;refine⟨a,d,u,rfl,rfl,r,eG (ZO (by rw[<-k.len];exact z)),?_⟩;refine W .non I U1 h _ [] (n.mut g f b (by rw[m];exact YK) ?_) (Ex.refl _ _) NewM.nil (show Dn Y I .non .non by rw[Dn]);rw[m];exact Ow.lst' ay (k.append (Dns.one p))
         ·rw[on z]at W;exact W.elim
       |_=>rw[b]at W;exact W.elim
   |_=>rw[e]at P;exact P.elim
end
end
section
variable{Y:Cm}{E:XK}{Kr:KT D V}{pr:Nat->Bool}{M:List Md}{B U H:Hp}{As:Nat->List Addr}{Z:St}{T:P1}{K:F0}
def mS(set:P1->D->P1)(x d:D)(T:P1):Res D->SO
 |.ok k=>(match sy d k x with|some d'=>.nx (set T d')|none=>.bad)
 |.exc c=>.exc c T
 |.bad=>.bad
def fo(get:P1->Option D)(set:P1->D->P1)(mk:P1->Res D)(b:P1->Out D):P1->SO:=λT=>ge (b T) λx a=>match get a with
 |some d=>mS set x d a (mk a)
 |none=>.bad
section
variable{W:Type}[DecidableEq W]
def nD{kvs:List (W×V)}:(kvs.any λa=>decide (a.1=k))=ci (kvs.map (·.1)) k:=by
 unfold ci;rw[List.any_map];rfl
def vf{kvs:List (W×V)}(h:ci (kvs.map (·.1)) k=true):(eF kvs k v).map (·.1)=kvs.map (·.1):=by
 unfold eF;rw[nD,if_pos h,List.map_map];refine List.map_congr_left λp _=>?_;show(if p.1=k then (p.1,v) else p).1=p.1;split<;>rfl
def eM{kvs:List (W×V)}(h:¬ ci (kvs.map (·.1)) k=true):eF kvs k v=kvs++[(k,v)]:=by
 unfold eF;rw[nD,if_neg h]
def nQ{k:W}(b:Dn Y G x v):∀{kvs:List (W×V)} {ds:List D},Dns Y G ds (kvs.map (·.2))->Dns Y G (iP (kvs.map (·.1)) ds k x) ((kvs.map λa=>if a.1=k then (a.1,v) else a).map (·.2))
 |[],ds,h=>by cases ds<;>exact(by rw[List.map_nil,List.map_nil,List.map_nil];unfold iP;rw[Dns])
 | p::kvs,ds,h=>by
   cases ds with
   |nil=>rw[Dns]at h;cases h
   |cons d ds=>
     rw[YI,Dns]at h;obtain⟨y,r,e,f,c⟩:=h;cases e;rw[YI,YI,YI,iP,Dns];refine⟨_,_,rfl,?_,nQ b c⟩;by_cases q:p.1=k
     ·rw[YG q,YG q];exact b
     ·rw[on q,on q];exact f
end
def Ow.dT{d:D}{v:V}{A:List Addr}{b:List (List aH)}{ds:List D}(w:Ow Y B H d (.ct .fz) v A)(e:d=.dT b ds):∃(a:Addr) (kvs:List (List aH×V)),v=.ref a/\H a=some (.dT kvs)/\kvs.map (·.1)=b/\A=[a]/\Dns Y B ds (kvs.map (·.2)):=by
 subst e;rw[Ow]at w;obtain⟨a,xs,k,r,j,i,h,g⟩:=w;obtain⟨f,c⟩:=Ows.fz g;exact⟨a,xs,r,j,i,by rw[h,c],f⟩
def Ow.dK{d:D}{v:V}{A:List Addr}{b:List aH}{ds:List D}(w:Ow Y B H d (.ct .fz) v A)(e:d=.dK b ds):∃(a:Addr) (kvs:List (aH×V)),v=.ref a/\H a=some (.dK kvs)/\kvs.map (·.1)=b/\A=[a]/\Dns Y B ds (kvs.map (·.2)):=by
 subst e;rw[Ow]at w;obtain⟨a,xs,k,r,j,i,h,g⟩:=w;obtain⟨f,c⟩:=Ows.fz g;exact⟨a,xs,r,j,i,by rw[h,c],f⟩
def Ow.dT'{kvs:List (List aH×V)}(h:H a=some (.dT kvs))(d:Dns Y B ds (kvs.map (·.2))):Ow Y B H (.dT (kvs.map (·.1)) ds) (.ct .fz) (.ref a) [a]:=by
 rw[Ow];exact⟨a,kvs,[],rfl,h,rfl,rfl,Ows.of d⟩
def Ow.dK'{kvs:List (aH×V)}(h:H a=some (.dK kvs))(d:Dns Y B ds (kvs.map (·.2))):Ow Y B H (.dK (kvs.map (·.1)) ds) (.ct .fz) (.ref a) [a]:=by
 rw[Ow];exact⟨a,kvs,[],rfl,h,rfl,rfl,Ows.of d⟩
def Ma{d k x d':D}{v u w:V}{A:List Addr}(p:Ow Y B H d (.ct .fz) v A)(m:Dn Y H k u)(j:Dn Y B x w)(e:sy d k x=some d'):∃a o',v=.ref a/\a∈A/\DPut H a u w (upd H a o')/\Ow Y B (upd H a o') d' (.ct .fz) v A:=by
 cases d with
 |dT c vs=>
   obtain⟨a,kvs,rfl,n,i,rfl,h⟩:=p.dT rfl;cases k with
   |tup r=>
     replace e:((bH r).bind λk=>if c.length<af then some (if ci c k=true then D.dT c (iP c vs k x) else .dT (c++[k]) (vs++[x])) else none)=some d':=e;obtain⟨f,o,e⟩:=Ad3.mp e;rw[Dn]at m;obtain⟨b,xs,rfl,y,s⟩:=m;have ex:=fh o s;subst ex;by_cases z:c.length<af
     · rw[YG z]at e;cases e;have l:kvs.length<sizeLine:=eG (ZO (by rw[<-i,YJ]at z;exact z));refine⟨a,_,rfl,YK,DPut.t n y l,?_⟩;subst i;by_cases q:ci (kvs.map (·.1)) f=true
       · rw[if_pos q];have hp:eF kvs f w=kvs.map λg=>if g.1=f then (g.1,w) else g:=by unfold eF;rw[nD,if_pos q]
         have:=Ow.dT' (Y:=Y) (B:=B) (H:=upd H a (.dT (eF kvs f w))) (ds:=iP (kvs.map (·.1)) vs f x) ay (by rw[hp];exact nQ j h)
         rw[vf q]at this;exact this
       · rw[on q]
         have:=Ow.dT' (Y:=Y) (B:=B) (H:=upd H a (.dT (eF kvs f w))) (ds:=vs++[x]) ay (by rw[eM q,Zr];exact h.append (Dns.one j))
         rw[eM q,Zr]at this;rw[eM q];exact this
     ·rw[on z]at e;cases e
   |_=>cases e
 |dK c vs=>
   obtain⟨a,kvs,rfl,n,i,rfl,h⟩:=p.dK rfl;replace e:((aJ k).bind λk=>if c.length<af then some (if ci c k=true then D.dK c (iP c vs k x) else .dK (c++[k]) (vs++[x])) else none)=some d':=by cases k<;>exact e
   obtain⟨f,o,e⟩:=Ad3.mp e;have ex:=oz o m;subst ex;by_cases z:c.length<af
   · rw[YG z]at e;cases e;have l:kvs.length<sizeLine:=eG (ZO (by rw[<-i,YJ]at z;exact z));refine⟨a,_,rfl,YK,DPut.k n l,?_⟩;subst i;by_cases q:ci (kvs.map (·.1)) f=true
     · rw[if_pos q];have hp:eF kvs f w=kvs.map λg=>if g.1=f then (g.1,w) else g:=by unfold eF;rw[nD,if_pos q]
       have:=Ow.dK' (Y:=Y) (B:=B) (H:=upd H a (.dK (eF kvs f w))) (ds:=iP (kvs.map (·.1)) vs f x) ay (by rw[hp];exact nQ j h)
       rw[vf q]at this;exact this
     · rw[on q]
       have:=Ow.dK' (Y:=Y) (B:=B) (H:=upd H a (.dK (eF kvs f w))) (ds:=vs++[x]) ay (by rw[eM q,Zr];exact h.append (Dns.one j))
       rw[eM q,Zr]at this;rw[eM q];exact this
   ·rw[on z]at e;cases e
 |_=>cases k<;>cases e
section
variable{t:TE}{get:P1->Option D}{set:P1->D->P1}{tk tv:TE}{mk:P1->Res D}{mv:P1->Out D}
def OT(p:Pth Y M t get set)(Q:PJ Y (KR Y .X) E M tk mk)(K:MJ Y (KR Y .F) E M tv mv):SJ Y E Kr pr M (Eu t tk tv) (fo get set mk mv):=by
 intro B U As Z H T D R P;refine K.bndS R P λx f w I U1 i H1 N G e1 n1 J W=>?_;cases e:get f with
 |none=>rw[e]at W;exact W.elim
 |some d=>
   rw[e]at W;replace W:So Y E Kr pr M I U1 Z (mS set x d f (mk f)) D:=W;obtain⟨v,A,O,z,hA,V⟩:=p.rd G e;refine O _ (Q I U1 i Z H1 f _ G ?_);cases s:mk f with
   |ok k=>
     rw[s]at W;replace W:So Y E Kr pr M I U1 Z (match sy d k x with|some d'=>.nx (set f d')|none=>.bad) D:=W;intro u j l m N2 R2 g n2 L;cases y:sy d k x with
     |none=>rw[y]at W;exact W.elim
     |some d'=>
       rw[y]at W
       have q:Ow Y j m d (.ct .fz) v A:=Ow.mono g.b (λa r=>by
        obtain⟨o,C⟩:=Ow.at z r
        rw[C,g.h _ _ C]) z
       obtain⟨a,o',S,r,dp,n⟩:=Ma q L (Dn.mono g.b J) y;exact⟨a,_,S,dp,W Z j l i _ (V j l m R2 g.b g.h a r o' d' n) g.toEx (Kp.refl _ _)⟩
   |exc c=>rw[s]at W;exact λj l m R2 g=>W Z j l i m R2 g.toEx (Kp.refl _ _)
   |bad=>rw[s]at W;exact W.elim
def AM(set:P1->D->P1)(x:D)(xs:List D)(T:P1):Res D->SO
 |.ok (.int i)=>(match oB xs.length i with|some j=>.nx (set T (.lst (xs.set j x)))|none=>.bad)
 |.ok _=>.bad
 |.exc c=>.exc c T
 |.bad=>.bad
def mH(get:P1->Option D)(set:P1->D->P1)(mk:P1->Res D)(mv:P1->Out D):P1->SO:=λT=>ge (mv T) λx a=>match get a with
 |some (.lst xs)=>AM set x xs a (mk a)
 |_=>.bad
def OM(p:Pth Y M t get set)(L:PJ Y (KR Y .X) E M tk mk)(J:MJ Y (KR Y .F) E M tv mv):SJ Y E Kr pr M (qS tv (RW t tk M4)) (mH get set mk mv):=by
 intro B U As Z H T D R P;refine J.bndS R P λx f w I U1 l H1 N z e1 V G W=>?_;cases e:get f with
 |none=>rw[e]at W;exact W.elim
 |some d=>
   cases d with
   |lst xs=>
     rw[e]at W;replace W:So Y E Kr pr M I U1 Z (AM set x xs f (mk f)) D:=W;obtain⟨v,A,K,C,hA,Q⟩:=p.rd z e;obtain⟨a,vs,rfl,O,rfl,y⟩:=C.lst rfl;refine K _ (L I U1 l Z H1 f _ z ?_);cases r:mk f with
     |ok k=>
       rw[r]at W;intro u q n o N2 R2 g S m;cases k with
       |int i=>
         replace W:So Y E Kr pr M I U1 Z (match oB xs.length i with|some j=>.nx (set f (.lst (xs.set j x)))|none=>.bad) D:=W;have m:Dn Y o (.int i) u:=m;rw[Dn]at m;cases s:oB xs.length i with
         |none=>rw[s]at W;exact W.elim
         |some j=>
           rw[s]at W;refine⟨a,vs,i,j,rfl,m,g.h _ _ O,by rw[<-y.len];exact s,?_⟩;exact W Z q n l _ (Q q n o R2 g.b g.h a YK _ _ (Ow.lst' ay (Dns.set (Dn.mono g.b G) j (y.mono g.b)))) g.toEx (Kp.refl _ _)
       |_=>exact W.elim
     |exc c=>rw[r]at W;exact λq n o R2 g=>W Z q n l o R2 g.toEx (Kp.refl _ _)
     |bad=>rw[r]at W;exact W.elim
   |_=>rw[e]at W;exact W.elim
end
def rG:∀{fs:List (Str×V)},(fc f y fs).map (·.1)=if ci (fs.map (·.1)) f=true then fs.map (·.1) else fs.map (·.1)++[f]
 |[]=>rfl
 | p::fs=>by
   obtain⟨g,z⟩:=p;unfold fc ci;rw[List.map_cons,List.any_cons];by_cases q:g=f
   ·rw[YG q,Zj q,Bool.true_or,YG rfl,YI]
   · rw[if_neg q,decide_eq_false q,Bool.false_or,List.map_cons,rG];unfold ci;split
     ·rfl
     ·rw[Ab0]
def Owf.put{sh:List (Str×Sh)}{N:List Addr}(s:Ow Y B H x ((sh.lookup f).getD .fz) y N)(v:N.Nodup):∀{fs:List (Str×V)} {ds:List D} {A:List Addr},Owf Y B H ds (fs.map (·.1)) sh (fs.map (·.2)) A->A.Nodup->(∀a∈N,a∉A)->
 ∃i,Owf Y B H (if ci (fs.map (·.1)) f=true then c8 (fs.map (·.1)) ds f x else ds++[x]) ((fc f y fs).map (·.1)) sh ((fc f y fs).map (·.2)) i/\i.Nodup/\∀a∈i,a∈A\/a∈N
 | [],ds,A,h,nd,hd=>by
   cases ds with
   |nil=>
     refine⟨N,?_,v,λa c=>.inr c⟩;show Owf Y B H [x] [f] sh [y] N;rw[Owf];exact⟨f,[],y,[],N,[],rfl,rfl,by rw[Zm],s,by rw[Owf];exact⟨rfl,rfl⟩⟩
   |cons d ds=>
     rw[Owf]at h;obtain⟨_,_,_,_,_,_,e,_⟩:=h;cases e
 | p::fs,ds,A,h,nd,hd=>by
   obtain⟨g,z⟩:=p;cases ds with
   |nil=>
     rw[Owf]at h;cases h.1
   |cons d ds=>
     rw[List.map_cons,List.map_cons,Owf]at h;obtain⟨n,J,u,r,E,I,K,h0,M,L,G⟩:=h;cases K;cases h0;subst M;obtain⟨o,j,m⟩:=List.nodup_append.mp nd;unfold fc;by_cases q:g=f
     · have t:ci (((g,z)::fs).map (·.1)) f=true:=by
        unfold ci;rw[List.map_cons,List.any_cons,decide_eq_true q,Bool.true_or]
       rw[YG q,t,YG rfl,YI,c8,YG q,YI,YI];refine⟨N++I,?_,Zf.mpr ⟨v,j,λa c b k e=>hd a c (YL _ (e▸k))⟩,λa c=>?_⟩
       ·rw[Owf];exact⟨g,_,y,_,N,I,rfl,rfl,rfl,by rw[q];exact s,G⟩
       · rcases YX.mp c with z|z
         ·exact .inr z
         ·exact .inl (YL _ z)
     · obtain⟨i,w,l,F⟩:=Owf.put s v G j (λa c k=>hd a c (YL _ k))
       have t:ci (((g,z)::fs).map (·.1)) f=ci (fs.map (·.1)) f:=by
        unfold ci;rw[List.map_cons,List.any_cons,decide_eq_false q,Bool.false_or]
       rw[on q,t,YI,YI,YI,c8,on q]
       have C:∀a∈E,∀b∈i,a≠b:=λa c b k e=>by
        rcases F b k with z|z
        ·exact m a c b z e
        ·exact hd b z (YU _ (e▸c))
       refine⟨E++i,?_,Zf.mpr ⟨o,l,C⟩,λa c=>?_⟩
       · have:(if ci (fs.map (·.1)) f=true then d::c8 (fs.map (·.1)) ds f x else (d::ds)++[x])=d::(if ci (fs.map (·.1)) f=true then c8 (fs.map (·.1)) ds f x else ds++[x]):=by split<;>rfl
         rw[this,Owf];exact⟨g,_,z,_,E,i,rfl,rfl,rfl,L,w⟩
       · rcases YX.mp c with z|z
         ·exact .inl (YU _ z)
         · rcases F a z with z|z
           ·exact .inl (YL _ z)
           ·exact .inr z
def cz(c:Nat)(f:Str)(i:Nat)(me:P1->Out D):P1->SO:=λT=>ge (me T) λx a=>match rg a i with
 |some d=>(match mE c f x d with|some d'=>.nx (a.set i (some d'))|none=>.bad)
 |none=>.bad
def MR{K':KT D V}{sh:List (Str×Sh)}(hc:Cls K (Y c))(hn:NoAttr K (Y c) f)(hm:M.getD i .F= .O (.ob sh))(he:MJ Y K' E M te me)
 (r:∀B U H d v N,K' d v B U H N->∃N',(N'=[]\/N'=N)/\Ow Y B H d ((sh.lookup f).getD .fz) v N'):SJ Y E Kr pr M (Et K (cK i) te f) (cz c f i me):=by
 intro B U As Z H T D R P;refine he.bndS R P λx s y I U1 g H1 N m e1 n1 hx W=>?_;obtain⟨N',hN,ow⟩:=r _ _ _ _ _ _ hx
 have J:NewM N' U1 g:=by
  rcases hN with e|e
  ·subst e;exact NewM.nil
  ·subst e;exact n1
 have l:=m.lo i;cases e:rg s i with
 |none=>rw[e]at W;exact W.elim
 |some d=>
   rw[e]at W;replace W:So Y E Kr pr M I U1 Z (match mE c f x d with|some d'=>.nx (s.set i (some d'))|none=>.bad) D:=W;rw[e,hm]at l;obtain⟨v,hv,w⟩:=l;cases d with
   |obj p ns vs=>
     have ep:mE c f x (.obj p ns vs)=if p=c/\ns.length<900 then some (if ci ns f=true then .obj p ns (c8 ns vs f x) else .obj p (ns++[f]) (vs++[x])) else none:=rfl
     rw[ep]at W;by_cases q:p=c/\ns.length<900
     · rw[YG q]at W;obtain⟨q1,q2⟩:=q;subst q1;have w:Ow Y I H1 (.obj p ns vs) (.ob sh) v (g i):=w;rw[Ow]at w;obtain⟨a,dx,fs,A',rfl,h1,h2,X,h4⟩:=w;subst h2;have nd:=m.nd i;rw[X]at nd;obtain⟨nd1,nd2⟩:=Y7.mp nd;have n:a∈g i:=by rw[X];exact YK
       obtain⟨o,w2,nda,hA⟩:=Owf.put ow J.nd h4 nd2 (λb h A=>J.ap b h i (by rw[X];exact YM _ A))
       have S:a∉o:=λz=>by
        rcases hA a z with z|z
        ·exact nd1 z
        ·exact J.ap a z i n
       refine⟨.ref a,bQ hv,a,_,dx,fs,rfl,h1,hc,hn,by rw[YJ]at q2;omega,?_⟩
       have w3:Ow Y I (upd H1 a (.ins (Y p) dx (fc f y fs))) (if ci (fs.map (·.1)) f=true then .obj p (fs.map (·.1)) (c8 (fs.map (·.1)) vs f x) else .obj p (fs.map (·.1)++[f]) (vs++[x])) (.ob sh) (.ref a) (a::o):=by
        have C:=Owf.mono (H':=upd H1 a (.ins (Y p) dx (fc f y fs))) (Same.refl I) (λb h=>aq (λz:b=a=>S (z▸h))) w2;have G:=rG (f:=f) (y:=y) (fs:=fs);by_cases k:ci (fs.map (·.1)) f=true
        ·rw[YG k]at G C ⊢;rw[Ow];rw[G]at C;exact⟨a,dx,_,o,rfl,ay,G,rfl,C⟩
        ·rw[on k]at G C ⊢;rw[Ow];rw[G]at C;exact⟨a,dx,_,o,rfl,ay,G,rfl,C⟩
       have hi:i<s.length:=(Y2.mp (bQ e)).1;refine W Z I U1 (λj=>if j=i then a::o else g j) _ ⟨m.bu,λb u z=>?_,λj=>?_,λj k b Q h r=>?_,λj b h=>?_,λj=>?_,by rw[Za];exact m.len,m.tb⟩ (Ex.refl _ _) (Kp.refl _ _)
       ·rw[aq (aT z (m.un i a n))];exact m.uh b u z
       · show(if j=i then a::o else g j).Nodup;split
         ·exact Y7.mpr ⟨S,nda⟩
         ·exact m.nd j
       · replace h:b∈(if j=i then a::o else g j):=h;replace r:b∈(if k=i then a::o else g k):=r
         have L:∀{j},j≠i->b∈a::o->b∈g j->False:=λ{j} hj A t=>by
          rcases YS.mp A with z|z
          ·exact m.dj i j b (Aa7 hj) (by rw[z];exact n) t
          · rcases hA b z with z|z
            ·exact m.dj i j b (Aa7 hj) (by rw[X];exact YM _ z) t
            ·exact J.ap b z j t
         split at h
         · rename_i z1;split at r
           ·rename_i z2;exact Q (z1.trans z2.symm)
           ·rename_i z2;exact L z2 h r
         · rename_i z1;split at r
           ·exact L z1 r h
           ·exact m.dj j k b Q h r
       · replace h:b∈(if j=i then a::o else g j):=h;split at h
         · rcases YS.mp h with z|z
           ·rw[z];exact m.un i a n
           · rcases hA b z with z|z
             ·exact m.un i b (by rw[X];exact YM _ z)
             ·exact J.un b z
         ·exact m.un j b h
       · rw[c7];show Lo Y I U1 _ (M.getD j .F) _ _ (if j=i then a::o else g j);by_cases z:i=j
         ·subst z;rw[YG ⟨rfl,hi⟩,YG rfl,hm];exact⟨.ref a,hv,w3⟩
         ·rw[on λy=>z y.1,on λy=>z y.symm];exact(m.lo j).mono (Same.refl _) (Same.refl _) λb h=>aq (λy:b=a=>m.dj i j a z n (y▸h))
     ·rw[on q]at W;exact W.elim
   |_=>exact W.elim
def OP{sh:List (Str×Sh)}(h:Cls K (Y c))(a:NoAttr K (Y c) f)(b:M.getD i .F= .O (.ob sh))(e:(sh.lookup f).getD .fz=.fz)(g:MJ Y (KR Y .F) E M te me):SJ Y E Kr pr M (Et K (cK i) te f) (cz c f i me):=
 MR h a b g λB U H d v N k=>⟨[],.inl rfl,by rw[e,Ow];exact⟨k,rfl⟩⟩
def OO{sh:List (Str×Sh)}(h:Cls K (Y c))(a:NoAttr K (Y c) f)(b:M.getD i .F= .O (.ob sh))(e:(sh.lookup f).getD .fz=s)(g:MJ Y (KO Y s) E M te me):SJ Y E Kr pr M (Et K (cK i) te f) (cz c f i me):=
 MR h a b g λB U H d v N k=>⟨N,.inr rfl,by rw[e];exact k⟩
def gc(Y:Cm)(M:List Md)(Kr:KT D V)(a:List D->Out D):Sp:=λvs H Q _=>xL Y M Kr a vs H Q E0
def rH(M:List Md)(a:Nat):Nat->Bool:=λj=>decide (j<a)&&(match M.getD j .F with | .O _=>true|_=>false)
def yh:rg (l++List.replicate n none) i=rg l i:=by
 unfold rg;by_cases h:i<l.length
 ·rw[Zy h]
 · rw[Zu (by omega),Y8 (show l.length<=i by omega)];by_cases a:i-l.length<n
   ·rw[Aa8,YG a];rfl
   ·rw[Aa8,on a]
def iN(k:Nat)(a:P1->SO)(ds:List D):Out D:=match a (ds.map some++List.replicate (k-ds.length) none) with
 |.rt d T=>.ok d T
 |.exc c T=>.exc c T
 |_=>.bad
def Rel.enter{vs:List V}{ds:List D}(R:Rel Y M B U As (vs.map some) H (ds.map some))(a:vs.length=M.length):Rel Y (M++more) B U As (vs.map some++List.replicate n none) H (ds.map some++List.replicate n none):=by
 have hd:ds.length=vs.length:=by have:=R.len;rw[YJ,YJ]at this;exact this
 refine⟨R.bu,R.uh,R.nd,R.dj,R.un,λi=>?_,by rw[YQ,YQ,R.len,Z9,Z9],R.tb⟩;rw[yh,yh];have l:=R.lo i;by_cases h:i<M.length
 ·rw[Y0,Zy h,<-Y0];exact l
 · have:rg (ds.map some) i=none:=by rw[dJ,Y8 (by omega)]
   rw[this]at l ⊢;exact l
def Rel.leave{vs:List V}(h:vs.length=M.length)(R:Rel Y (M++more) B U As d H G)(k:Kp (rH M M.length) (vs.map some++List.replicate n none) d):
 ∃C,Rel Y M B U C (vs.map some) H (fV M G)/\∀N,NewM N U As->NewM N U C:=by
 refine⟨λi=>if rH M M.length i=true then As i else [],⟨R.bu,R.uh,λi=>?_,λi j a g b f=>?_,λi a b=>?_,λi=>?_,?_,R.tb⟩,λN n=>⟨n.nd,n.un,λa b i=>?_⟩⟩
 · show(if rH M M.length i=true then As i else []).Nodup;split
   ·exact R.nd i
   ·exact ZD
 · replace b:a∈(if rH M M.length i=true then As i else []):=b;replace f:a∈(if rH M M.length j=true then As j else []):=f;split at b
   · split at f
     ·exact R.dj i j a g b f
     ·cases f
   ·cases b
 · replace b:a∈(if rH M M.length i=true then As i else []):=b;split at b
   ·exact R.un i a b
   ·cases b
 · show Lo Y B U H (M.getD i .F) (rg (fV M G) i) (rg (vs.map some) i) (if rH M M.length i=true then As i else []);by_cases hi:i<M.length
   · have m:(M++more).getD i .F=M.getD i .F:=by
      rw[Y0,Zy hi,<-Y0]
     cases c:M.getD i .F with
     |O s=>
       have hp:rH M M.length i=true:=by unfold rH;rw[c,decide_eq_true hi];rfl
       rw[YG hp,lY c];have l:=R.lo i;rw[m,c,k i hp,yh]at l;exact l
     |F=>
       have hp:rH M M.length i=false:=by unfold rH;rw[c];simp
       have e:rg (fV M G) i=none:=by
        unfold fV rg;rw[List.getElem?_map,List.getElem?_range hi];show(some (match M.getD i .F with | .O _=>_|_=>none)).join=none;rw[c];rfl
       rw[hp,e];exact rfl
     |R=>
       have hp:rH M M.length i=false:=by unfold rH;rw[c];simp
       have e:rg (fV M G) i=none:=by
        unfold fV rg;rw[List.getElem?_map,List.getElem?_range hi];show(some (match M.getD i .F with | .O _=>_|_=>none)).join=none;rw[c];rfl
       rw[hp,e];exact rfl
   · have hp:rH M M.length i=false:=by unfold rH;rw[decide_eq_false hi];rfl
     have e:rg (fV M G) i=none:=by
      unfold fV rg;rw[List.getElem?_eq_none (by rw[List.length_map,List.length_range];omega)];rfl
     rw[hp,e];exact rfl
 ·unfold fV;rw[List.length_map,List.length_map,List.length_range,h]
 · show a∉(if rH M M.length i=true then As i else []);split
   ·exact n.ap a b i
   ·simp
def L1{more:List Md}{N:List Str}{Q:VK}(s:SJ Y E0 Kr (rH M M.length) (M++more) t a)(w:N.length=M.length+more.length)(m:n=run N.length a)(r:∀B U H,Kr .non .non B U H [])
 (h:xL Y M Kr n vs H Q E0):t {nx:=λ_ H'=>Q .non H',rt:=Q} (L2.iw N vs) H:=by
 obtain⟨B,U,As,ds,R,k,P⟩:=h;subst m;have hd:ds.length=vs.length:=by have:=R.len;rw[YJ,YJ]at this;exact this
 unfold L2.iw;refine s B U As _ H (ds.map some++List.replicate (N.length-vs.length) none) _ (R.enter k) ?_;unfold run at P;rw[hd]at P;cases e:a (ds.map some++List.replicate (N.length-vs.length) none) with
 |nx G=>
   rw[e]at P;intro f S J C H' j i g;obtain⟨b,R2,l⟩:=j.leave k g;exact P .non S J b H' [] R2 i NewM.nil (r _ _ _)
 |rt d G=>
   rw[e]at P;intro v f S J C H' u j i g p q;obtain⟨b,R2,l⟩:=j.leave k g;exact P v S J b H' u R2 i (l _ p) q
 |exc c G=>
   rw[e]at P;intro f S J C H' j i g o;obtain⟨b,R2,l⟩:=j.leave k g;exact P S J b H' R2 i o
 |bk G=>rw[e]at P;exact P.elim
 |ct G=>rw[e]at P;exact P.elim
 |bad=>rw[e]at P;exact P.elim
def HP{more:List Md}{N:List Str}{Q:VK}(r:SJ Y E0 Kr (rH M M.length) (M++more) t a)(u:N.length=M.length+more.length)(j:n=iN N.length a)
 (h:xL Y M Kr n vs H Q E0):t {nx:=λ_ H'=>Q .non H',rt:=Q} (L2.iw N vs) H:=by
 obtain⟨B,U,As,ds,R,i,P⟩:=h;subst j;have hd:ds.length=vs.length:=by have:=R.len;rw[YJ,YJ]at this;exact this
 unfold L2.iw;refine r B U As _ H (ds.map some++List.replicate (N.length-vs.length) none) _ (R.enter i) ?_;unfold iN at P;rw[hd]at P;cases e:a (ds.map some++List.replicate (N.length-vs.length) none) with
 |nx G=>rw[e]at P;exact P.elim
 |rt d G=>
   rw[e]at P;intro v f S J C H' s l k g p q;obtain⟨b,R2,m⟩:=l.leave i g;exact P v S J b H' s R2 k (m _ p) q
 |exc c G=>
   rw[e]at P;intro f S J C H' l k g o;obtain⟨b,R2,m⟩:=l.leave i g;exact P S J b H' R2 k o
 |bk G=>rw[e]at P;exact P.elim
 |ct G=>rw[e]at P;exact P.elim
 |bad=>rw[e]at P;exact P.elim
def zT{vs:List V}(h:xL Y M Kr b vs H Q E):vs.length=M.length:=by
 obtain⟨_,_,_,_,_,a,_⟩:=h;exact a
end
end Mi
namespace Mi
open PySem PySem.Spec L2
mutual
def toPy:D->Option PyData
 |.non=>some .none
 |.bl b=>some (.bool b)
 |.int i=>some (.int i)
 |.str x=>some (.str x)
 |.lst xs=>(toPys xs).map .list
 |.scr xs=>(toPys xs).map .list
 |.tup xs=>(toPys xs).map .tuple
 |.ty _=>none
 |.dK _ _=>none
 |.dT _ _=>none
 |.obj _ _ _=>none
def toPys:List D->Option (List PyData)
 |[]=>some []
 | d::r=>match toPy d,toPys r with
   |some p,some q=>some (p::q)
   |_,_=>none
end
section
variable{Y:Cm}{E:XK}{Kr:KT D V}{pr:Nat->Bool}{M:List Md}{B U H:Hp}{As:Nat->List Addr}{Z:St}{T:P1}{K:F0}
mutual
def den_of:∀{d:D} {p:PyData} {v:V},toPy d=some p->Dn Y H d v->L2.Den Y.K H p v
 |.non,p,v,e,h=>by rw[Dn]at h;cases e;rw[L2.Den];exact h
 |.bl _,p,v,e,h=>by rw[Dn]at h;cases e;rw[L2.Den];exact h
 |.int _,p,v,e,h=>by rw[Dn]at h;cases e;rw[L2.Den];exact h
 |.str _,p,v,e,h=>by rw[Dn]at h;cases e;rw[L2.Den];exact h
 | .lst xs,p,v,e,h=>by
   rw[Dn]at h;obtain⟨a,b,rfl,f,c⟩:=h;rw[toPy]at e;obtain⟨ps,e1,rfl⟩:=Y3.mp e;rw[L2.Den];exact⟨a,b,rfl,SqL.of f,dens_of e1 c⟩
 | .scr xs,p,v,e,h=>by
   rw[Dn]at h;obtain⟨a,b,rfl,f,c⟩:=h;rw[toPy]at e;obtain⟨ps,e1,rfl⟩:=Y3.mp e;rw[L2.Den];exact⟨a,b,rfl,f.sq,dens_of e1 c⟩
 | .tup xs,p,v,e,h=>by
   rw[Dn]at h;obtain⟨a,b,rfl,f,c⟩:=h;rw[toPy]at e;obtain⟨ps,e1,rfl⟩:=Y3.mp e;rw[L2.Den];exact⟨a,b,rfl,SqT.of f,dens_of e1 c⟩
 |.ty _,p,v,e,h=>by cases e
 |.dK _ _,p,v,e,h=>by cases e
 |.dT _ _,p,v,e,h=>by cases e
 |.obj _ _ _,p,v,e,h=>by cases e
def dens_of:∀{ds:List D} {ps:List PyData} {xs:List V},toPys ds=some ps->Dns Y H ds xs->L2.Dens Y.K H ps xs
 |[],ps,xs,e,h=>by rw[Dns]at h;rw[toPys]at e;cases e;rw[L2.Dens];exact h
 | d::ds,ps,xs,e,h=>by
   rw[Dns]at h;obtain⟨x,r,rfl,c,b⟩:=h;rw[toPys]at e;cases e1:toPy d with
   |none=>rw[e1]at e;cases e
   |some p=>
     cases a:toPys ds with
     |none=>rw[e1,a]at e;cases e
     |some q=>
       rw[e1,a]at e;cases e;rw[L2.Dens];exact⟨x,r,rfl,den_of e1 c,dens_of a b⟩
end
def L4(neg:Bool)(x y:D):Res D:=match toPy x,toPy y with
 |some p,some q=>if SeqAt.shaped p=true/\SeqAt.shaped q=true then .ok (.bl (neg.xor (PyData.eqv p q))) else .bad
 |_,_=>.bad
def OS:S2 Y (E3 Y.K neg) (L4 neg):=by
 intro H x y v u b a;unfold L4;cases e1:toPy x with
 |none=>trivial
 |some p=>
   cases c:toPy y with
   |none=>trivial
   |some q=>
     dsimp only;by_cases z:SeqAt.shaped p=true/\SeqAt.shaped q=true
     ·rw[YG z];refine⟨.bl _,λ_=>by rw[Dn],λQ h=>⟨p,q,den_of e1 b,den_of c a,z.1,z.2,?_⟩⟩;cases neg<;>simpa using h
     ·rw[on z];trivial
def DQ(x y:D):Res D:=match toPy x,toPy y with
 |some p,some (.list xs)=>if SeqAt.shaped p=true/\SeqAt.shaped (.list xs)=true/\(xs.all λz=>SeqAt.noMix z p)=true then .ok (.bl (decide (countIn p xs≠0))) else .bad
 |_,_=>.bad
def Ul:S2 Y (λx y H Q=>∃d xs,L2.Den Y.K H d x/\L2.Den Y.K H (.list xs) y/\SeqAt.shaped d=true/\SeqAt.shaped (.list xs)=true/\(∀z∈xs,SeqAt.noMix z d=true)/\Q (.bl (decide (countIn d xs≠0))) H) DQ:=by
 intro H x y v u b a;unfold DQ;cases e1:toPy x with
 |none=>trivial
 |some p=>
   cases c:toPy y with
   |none=>trivial
   |some q=>
     cases q with
     |list xs=>
       dsimp only;by_cases z:SeqAt.shaped p=true/\SeqAt.shaped (.list xs)=true/\(xs.all λz=>SeqAt.noMix z p)=true
       ·rw[YG z];exact⟨.bl _,λ_=>by rw[Dn],λQ h=>⟨p,xs,den_of e1 b,den_of c a,z.1,z.2.1,λy a=>ZT.mp z.2.2 y a,h⟩⟩
       ·rw[on z];trivial
     |_=>trivial
def xN:D->Option String
 |.non=>some "NoneType" | .bl _=>some "bool" | .int _=>some "int" | .str _=>some "str" | .lst _=>some "list" | .tup _=>some "tuple" | .dK _ _=>some "dict" | .dT _ _=>none
 |.ty _=>none | .obj _ _ _=>none | .scr _=>none
def kit(t n:String):Option Bool:=PySem.W.kitOne [] (.type t) (.type n)
def HE(x y:D):Res D:=match y,xN x with
 |.ty n,some t=>(match kit t n with|some b=>.ok (.bl b)|none=>.bad)
 |_,_=>.bad
def B8(e:xN d=some t)(h:Dn Y H d v):TyOf K H v (.type t):=by
 cases d with
 |non=>rw[Dn]at h;cases e;subst h;exact .non
 |bl b=>rw[Dn]at h;cases e;subst h;exact .bl b
 |int i=>rw[Dn]at h;cases e;subst h;exact .int i
 |str x=>rw[Dn]at h;cases e;subst h;exact .str x
 |lst _=>rw[Dn]at h;cases e;obtain⟨a,xs,rfl,c,_⟩:=h;exact .lst c
 |scr _=>cases e
 |tup _=>rw[Dn]at h;cases e;obtain⟨a,xs,rfl,c,_⟩:=h;exact .tup c
 |dK _ _=>rw[Dn]at h;cases e;obtain⟨a,xs,rfl,c,_⟩:=h;exact .dK c
 |dT _ _=>cases e
 |ty _=>cases e
 |obj _ _ _=>cases e
def Uk:S2 Y (λv u H Q=>∃x c t b,[v,u]=[x,.ty c]/\TyOf K H x t/\PySem.W.kitOne K t (.type c)=some b/\Q (.bl b) H) HE:=by
 intro H x y v u d a;unfold HE;cases y with
 |ty n=>
   cases e:xN x with
   |none=>trivial
   |some t=>
     dsimp only;cases f:kit t n with
     |none=>trivial
     |some b=>
       rw[Dn]at a;subst a;exact⟨.bl b,λ_=>by rw[Dn],λQ h=>⟨v,n,_,b,rfl,B8 e d,f,h⟩⟩
 |_=>trivial
def xM(i:Nat):P1->Out D:=λT=>match rg T i with|some d=>.ok d (T.set i none)|none=>.bad
def Rel.take(R:Rel Y M B U As Z H T)(i:Nat):Rel Y M B U (λj=>if j=i then [] else As j) Z H (T.set i none)/\∀a∈As i,U a=none/\∀j,a∉(λj=>if j=i then [] else As j) j:=by
 refine⟨⟨R.bu,R.uh,λj=>?_,λj k a f b d=>?_,λj a b=>?_,λj=>?_,by rw[Za];exact R.len,R.tb⟩,λa b=>⟨R.un i a b,λj c=>?_⟩⟩
 · show(if j=i then [] else As j).Nodup;split
   ·exact ZD
   ·exact R.nd j
 · replace b:a∈(if j=i then [] else As j):=b;replace d:a∈(if k=i then [] else As k):=d;split at b
   ·cases b
   · split at d
     ·cases d
     ·exact R.dj j k a f b d
 · replace b:a∈(if j=i then [] else As j):=b;split at b
   ·cases b
   ·exact R.un j a b
 · show Lo Y B U H (M.getD j .F) (rg (T.set i none) j) (rg Z j) (if j=i then [] else As j);rw[c7];by_cases e:i=j
   · subst e;rw[YG rfl];by_cases h:i<T.length
     ·rw[YG ⟨rfl,h⟩];exact rfl
     · rw[on λz=>h z.2]
       have:rg T i=none:=by unfold rg;rw[List.getElem?_eq_none (by omega)];rfl
       rw[this];exact rfl
   ·rw[on λz=>e z.1,on λz=>e z.symm];exact R.lo j
 · replace c:a∈(if j=i then [] else As j):=c;split at c
   ·cases c
   ·rename_i z;exact R.dj i j a (λq=>z q.symm) b c
def Yl(g:M.getD i .F= .O s):MJ Y (KO Y s) E M (cK i) (xM i):=by
 intro B U As Z H T Q R P;unfold xM at P;have l:=R.lo i;cases e:rg T i with
 |none=>rw[e]at P;exact P.elim
 |some d=>
   rw[e]at P;rw[e,g]at l;obtain⟨v,f,w⟩:=l;obtain⟨R2,c⟩:=R.take i;exact⟨v,bQ f,P v B U _ H (As i) R2 (Ex.refl _ _) ⟨R.nd i,λa b=>(c a b).1,λa b=>(c a b).2⟩ w⟩
def aW:D->Bool | .int _=>true | .bl _=>true | .non=>true | .str _=>true|_=>false
def mD:D->Bool
 |.lst xs=>xs.all aW
 |.scr xs=>xs.all aW
 |.tup xs=>xs.all aW
 |.dK _ xs=>xs.all aW
 |.dT _ xs=>xs.all aW
 |.obj _ _ xs=>xs.all aW
 |d=>aW d
def nk(m:P1->Res D):P1->Res D:=λT=>(m T).bind λd=>if mD d=true then .ok d else .bad
def fN(h:aW d=true)(q:Dn Y G d v):Dn Y a d v:=by
 cases d with
 |int _=>rw[Dn]at q ⊢;exact q
 |bl _=>rw[Dn]at q ⊢;exact q
 |non=>rw[Dn]at q ⊢;exact q
 |str _=>rw[Dn]at q ⊢;exact q
 |_=>cases h
def dU:∀{ds:List D} {xs:List V},ds.all aW=true->Dns Y G ds xs->Dns Y c ds xs
 |[],_,_,q=>by rw[Dns]at q ⊢;exact q
 | d::ds,_,h,q=>by
   rw[List.all_cons,Aa9]at h;rw[Dns]at q ⊢;obtain⟨x,r,e,b,a⟩:=q;exact⟨x,r,e,fN h.1 b,dU h.2 a⟩
def cS(h:PJ Y (KC Y k) E M t m):PJ Y (KC Y i) E M t (nk m):=by
 intro B U As Z H T Q R P;refine h.bnd R P λx v I U1 H1 L _ j e1 l e W=>?_;by_cases z:mD x=true
 · rw[YG z]at W;refine W v I U1 H1 [] j (Gw.refl _ _ _) New.nil ?_;cases x with
   |lst ds=>obtain⟨a,xs,r,d,b⟩:=e;exact⟨a,xs,r,d,dU z b⟩
   |scr ds=>obtain⟨a,xs,r,d,b⟩:=e;exact⟨a,xs,r,d,dU z b⟩
   |tup ds=>obtain⟨a,xs,r,d,b⟩:=e;exact⟨a,xs,r,d,dU z b⟩
   |dK g ds=>obtain⟨a,xs,r,d,b,f⟩:=e;exact⟨a,xs,r,d,b,dU z f⟩
   |dT g ds=>obtain⟨a,xs,r,d,b,f⟩:=e;exact⟨a,xs,r,d,b,dU z f⟩
   |obj c ns ds=>obtain⟨a,dx,xs,r,d,b,f⟩:=e;exact⟨a,dx,xs,r,d,b,dU z f⟩
   |int _=>exact fN (G:=hp k I U1 H1) z e
   |bl _=>exact fN (G:=hp k I U1 H1) z e
   |non=>exact fN (G:=hp k I U1 H1) z e
   |str _=>exact fN (G:=hp k I U1 H1) z e
   |ty _=>cases z
 ·rw[on z]at W;exact W.elim
def rS{k:Kd}{t:TE}{m:P1->Res D}(h:PJ Y (KR Y .X) E M t m):PJ Y (KR Y .F) E M t (λT=>(m T).bind λd=>if aW d=true then .ok d else .bad):=by
 intro B U As Z H T Q R P;refine h.bnd R P λx v I U1 H1 L _ b e1 c a W=>?_;by_cases z:aW x=true
 ·rw[YG z]at W;exact W v I U1 H1 [] b (Gw.refl _ _ _) New.nil (fN z a)
 ·rw[on z]at W;exact W.elim
def kD:aH->D | .inl i=>.int i | .inr x=>.str x
def AO:D->Res D | .dT a _=>.ok (.lst (a.map λk=>.tup (k.map kD)))|_=>.bad
def uc:∀k:List aH,Dns Y G (k.map kD) (k.map kV)
 |[]=>by rw[ZL,ZL,Dns]
 | x::k=>by
   rw[YI,YI,Dns];refine⟨_,_,rfl,?_,uc k⟩;cases x with
   |inl i=>show Dn Y G (.int i) (.int i);rw[Dn]
   |inr i=>show Dn Y G (.str i) (.str i);rw[Dn]
def Dns.of_get:∀{ds:List D} {xs:List V},ds.length=xs.length->(∀(i:Nat) d x,ds[i]?=some d->xs[i]?=some x->Dn Y G d x)->Dns Y G ds xs
 | [],xs,h,_=>by
   rw[Dns];exact Zi.mp h.symm
 |d::ds,[],h,_=>by cases h
 | d::ds,x::xs,h,k=>by
   rw[Dns];exact⟨x,xs,rfl,k 0 d x rfl rfl,Dns.of_get (by simpa using h) λi d x e1 a=>k (i+1) d x (by simpa using e1) (by simpa using a)⟩
def K8{k:Kd}(h:PJ Y (KC Y k) E M ta p):PJ Y (KO Y (.ct .fz)) E M (xK (λxs H Q=>∃a kvs,xs=[.ref a]/\Rd H a (.dT kvs)/\
 ∀(g:List Addr) (l:Addr),g.length=kvs.length->(∀(i:Nat) k v b,kvs[i]?=some (k,v)->g[i]?=some b->H b=some (.tup (k.map kV)))->H l=none->Q (.ref l) (upd H l (.lst (g.map V.ref)))) (aN ta bT)) (un AO p):=by
 intro B U As Z H T Q R P;refine h.bnd R P λx v I U1 H1 L _ f e1 S N W=>?_;cases x with
 |dT g ds=>
   obtain⟨a,kvs,rfl,J,s,h3⟩:=N;refine⟨a,kvs,rfl,J,λbs l C r A=>?_⟩
   have c:∀b∈bs,∃o,H1 b=some o/\eB o:=λb m=>by
    obtain⟨i,hi,e⟩:=Ae5 m;have G:bs[i]?=some b:=by rw[<-e];exact Y1 hi
    have F:kvs[i]?=some (kvs[i]'(by omega)):=Y1 (by omega);exact⟨_,r i _ _ b (by rw[F]) G,_,rfl⟩
   have R2:Rel Y M (Mi.frz I H1 bs) (Mi.frz U1 H1 bs) As Z H1 T:=f.grow (bx f.bh) (bx f.uh) (Same.refl _) (kR f.bu) (nz f.uh) λi a h=>by
    unfold Mi.frz;split
    ·rename_i z;obtain⟨o,e,t⟩:=c a z;exact(f.nt h e t).elim
    ·exact f.un i a h
   have K:Gw I U1 H1 (Mi.frz I H1 bs) (Mi.frz U1 H1 bs) H1:=by
    refine⟨⟨bx f.bh,bx f.uh,λa o q=>?_⟩,Same.refl _,λa o q=>?_⟩
    · unfold Mi.frz at q;split at q
      ·rename_i z;obtain⟨o',e,t⟩:=c a z;rw[e]at q;cases q;exact .inr (.inr t)
      ·exact .inl q
    · unfold Mi.frz at q;split at q
      ·rename_i z;obtain⟨o',e,t⟩:=c a z;rw[e]at q;cases q;exact .inr (.inr t)
      ·exact .inl q
   have O:Po Y (KO Y (.ct .fz)) E M (Mi.frz I H1 bs) (Mi.frz U1 H1 bs) As Z H1 T (.ok (.lst (g.map λk=>.tup (k.map kD)))) Q:=Po.at W K;refine dX R2 O (Dns.of_get (by rw[List.length_map,List.length_map,C,<-s,List.length_map]) λi d x w ex=>?_) A;rw[List.getElem?_map]at w ex;obtain⟨X,u,rfl⟩:=Option.map_eq_some_iff.mp w;obtain⟨b,y,rfl⟩:=Option.map_eq_some_iff.mp ex;rw[<-s,List.getElem?_map]at u;obtain⟨j,n,rfl⟩:=Option.map_eq_some_iff.mp u;have m:=r i j.1 j.2 b n y;rw[Dn];refine⟨b,_,rfl,?_,uc j.1⟩;unfold Mi.frz;rw[if_pos (List.mem_of_getElem? y)];exact m
 |_=>exact W.elim
def bX:List D->Option (List Int)
 |[]=>some []
 |.int i::r=>(bX r).map (i::·)
 |_::_=>none
def gT:∀{ds:List D} {ns:List Int} {xs:List V},bX ds=some ns->Dns Y G ds xs->xs=ns.map V.int
 |[],ns,xs,e,h=>by rw[Dns]at h;cases e;rw[h];rfl
 | d::ds,ns,xs,e,h=>by
   rw[Dns]at h;obtain⟨x,r,rfl,a,b⟩:=h;cases d with
   |int i=>
     rw[bX]at e;obtain⟨M,e1,rfl⟩:=Y3.mp e;rw[Dn]at a;rw[gT e1 b,a,YI]
   |_=>cases e
def da:List Int->Int->Int
 |[],m=>m
 |x::r,m=>da r (if x<m then x else m)
def gj:List Int->Int->Int
 |[],m=>m
 |x::r,m=>gj r (if m<x then x else m)
def iZ:∀(l:List Int) (m:Int),(da l m=m\/da l m∈l)/\da l m<=m/\∀x∈l,da l m<=x
 |[],m=>⟨.inl rfl,Int.le_refl _,λ_ h=>(nomatch h)⟩
 | x::r,m=>by
   unfold da;obtain⟨a,b,d⟩:=iZ r (if x<m then x else m);refine⟨?_,?_,λy c=>?_⟩
   · rcases a with a|a
     · by_cases z:x<m
       ·rw[YG z]at a ⊢;exact .inr (by rw[a];exact YK)
       ·rw[on z]at a ⊢;exact .inl a
     ·exact .inr (YM _ a)
   ·split at b<;>split<;>omega
   · rcases YS.mp c with z|z
     ·subst z;split at b<;>split<;>omega
     ·exact d y z
def jK:∀(l:List Int) (m:Int),(gj l m=m\/gj l m∈l)/\m<=gj l m/\∀x∈l,x<=gj l m
 |[],m=>⟨.inl rfl,Int.le_refl _,λ_ h=>(nomatch h)⟩
 | x::r,m=>by
   unfold gj;obtain⟨a,b,d⟩:=jK r (if m<x then x else m);refine⟨?_,?_,λy c=>?_⟩
   · rcases a with a|a
     · by_cases z:m<x
       ·rw[YG z]at a ⊢;exact .inr (by rw[a];exact YK)
       ·rw[on z]at a ⊢;exact .inl a
     ·exact .inr (YM _ a)
   ·split at b<;>split<;>omega
   · rcases YS.mp c with z|z
     ·subst z;split at b<;>split<;>omega
     ·exact d y z
def oM(f:List Int->Int->Int)(x d:D):Res D:=match x with
 |.lst ds=>(match bX ds with|some []=>(if aW d=true then .ok d else .bad)|some (n::ns)=>.ok (.int (f ns n))|none=>.bad)
 |_=>.bad
def M7{f:List Int->Int->Int}{ok:Int->Int->Prop}(sp:∀ns n m,m∈n::ns->(∀x∈n::ns,ok m x)->m=f ns n)(A:PJ Y (KR Y .X) E M ta r)(hd:PJ Y (KR Y .X) E M o q):
 PJ Y (KR Y .F) E M (Ce (λxs w H Q=>∃p ns d,xs=[.ref p]/\w=[d]/\SqL K H p (ns.map V.int)/\(ns=[]->Q d H)/\∀m∈ns,(∀x∈ns,ok m x)->Q (.int m) H) (aN ta bT) (aN o bT)) (bn (oM f) r q):=by
 intro B U As Z H T Q R P;refine A.bnd R P λx v I U1 H1 L _ J e1 O e W=>hd.bnd J W λy u j g i S _ R2 t N G b=>?_;have e:Dn Y H1 x v:=e;cases x with
 |lst ds=>
   rw[Dn]at e;obtain⟨a,xs,rfl,s,C⟩:=e;replace b:Po Y (KR Y .F) E M j g As Z i T (match bX ds with|some []=>(if aW y=true then .ok y else .bad)|some (n::ns)=>.ok (.int (f ns n))|none=>.bad) Q:=b;cases c:bX ds with
   |none=>rw[c]at b;exact b.elim
   |some ns=>
     have ex:=gT c C;subst ex;cases ns with
     |nil=>
       rw[c]at b;replace b:Po Y (KR Y .F) E M j g As Z i T (if aW y=true then .ok y else .bad) Q:=b;by_cases z:aW y=true
       ·rw[YG z]at b;exact⟨a,[],u,rfl,rfl,SqL.of (t.h _ _ s),λ_=>b u j g i [] R2 (Gw.refl _ _ _) New.nil (fN z G),λm k=>(nomatch k)⟩
       ·rw[on z]at b;exact b.elim
     |cons n ns=>
       rw[c]at b;refine⟨a,n::ns,u,rfl,rfl,SqL.of (t.h _ _ s),(λz=>by cases z),λm k l=>?_⟩;rw[sp ns n m k l];exact b _ j g i [] R2 (Gw.refl _ _ _) New.nil (show Dn Y _ (.int (f ns n)) _ by rw[Dn])
 |_=>exact b.elim
def PN(j:PJ Y (KR Y .X) E M ta e)(hd:PJ Y (KR Y .X) E M b c):
 PJ Y (KR Y .F) E M (Ce (λxs f H Q=>∃p ns d,xs=[.ref p]/\f=[d]/\SqL K H p (ns.map V.int)/\(ns=[]->Q d H)/\∀m∈ns,(∀x∈ns,m<=x)->Q (.int m) H) (aN ta bT) (aN b bT)) (bn (oM da) e c):=M7 (ok:=λm x=>m<=x) (λns n m i a=>by
 obtain⟨h,k,g⟩:=iZ ns n;have l2:=a _ (h.elim (λz=>by rw[z];exact YK) (YM _));rcases YS.mp i with z|z
 ·rw[z]at l2 ⊢;omega
 ·have:=g m z;omega) j hd
def PQ(j:PJ Y (KR Y .X) E M ta e)(hd:PJ Y (KR Y .X) E M b c):
 PJ Y (KR Y .F) E M (Ce (λxs f H Q=>∃p ns d,xs=[.ref p]/\f=[d]/\SqL K H p (ns.map V.int)/\(ns=[]->Q d H)/\∀m∈ns,(∀x∈ns,x<=m)->Q (.int m) H) (aN ta bT) (aN b bT)) (bn (oM gj) e c):=M7 (ok:=λm x=>x<=m) (λns n m i a=>by
 obtain⟨h,k,g⟩:=jK ns n;have l2:=a _ (h.elim (λz=>by rw[z];exact YK) (YM _));rcases YS.mp i with z|z
 ·rw[z]at l2 ⊢;omega
 ·have:=g m z;omega) j hd
def ot:D->Res D
 |.lst ds=>(match bX ds with|some ns=>(if ns.length<4000 then .ok (.int (dd ns).length) else .bad)|none=>.bad)
 |_=>.bad
def Fu(g:PJ Y (KR Y .X) E M ta d):PJ Y (KR Y .F) E M
 (xK (λxs H Q=>∃a S n,xs=[.ref a]/\H a=some (.set S n)/\Q (.int n) H) (aN (xK (λxs H Q=>∃p ns,xs=[.ref p]/\SqL K H p (ns.map V.int)/\ns.length<4000/\∀q,H q=none->Q (.ref q) (upd H q (.set (λk=>(dd ns).any (·==k)) (dd ns).length))) (aN ta bT)) bT)) (un ot d):=by
 intro B U As Z H T Q R P;refine g.bnd R P λx v I U1 H1 L _ f e1 j b W=>?_;have b:Dn Y H1 x v:=b;cases x with
 |lst ds=>
   rw[Dn]at b;obtain⟨a,xs,rfl,i,h⟩:=b;replace W:Po Y (KR Y .F) E M I U1 As Z H1 T (match bX ds with|some ns=>(if ns.length<4000 then .ok (.int (dd ns).length) else .bad)|none=>.bad) Q:=W;cases c:bX ds with
   |none=>rw[c]at W;exact W.elim
   |some ns=>
     have ex:=gT c h;subst ex;rw[c]at W;replace W:Po Y (KR Y .F) E M I U1 As Z H1 T (if ns.length<4000 then .ok (.int (dd ns).length) else .bad) Q:=W;by_cases z:ns.length<4000
     ·rw[YG z]at W;exact⟨a,ns,rfl,SqL.of i,z,λq e=>⟨q,_,_,rfl,ay,W _ I U1 _ [] (f.new e) (Gw.newO f e) New.nil (show Dn Y _ (.int _) _ by rw[Dn])⟩⟩
     ·rw[on z]at W;exact W.elim
 |_=>exact W.elim
def ni:D->Option (Int×Int×List Int)
 |.tup [.int a,.int b,.lst xs]=>(bX xs).map λns=>(a,b,ns)
 |_=>none
def TN(x y:D):Res D:=match ni x,ni y with
 |some (a,b,ns),some (c,d,M)=>.ok (.bl (HT.kK a b ns c d M))
 |_,_=>.bad
def C2(h:ni x=some (a,b,ns)):∃xs,x=.tup [.int a,.int b,.lst xs]/\bX xs=some ns:=by
 unfold ni at h;split at h
 ·obtain⟨M,e,c⟩:=Y3.mp h;cases c;exact⟨_,rfl,e⟩
 ·cases h
def dD{ns:List Int}(e:ni x=some (a,b,ns))(c:Dn Y H x v):∃p l,v=.ref p/\SqT K H p [.int a,.int b,.ref l]/\SqL K H l (ns.map V.int):=by
 obtain⟨xs,rfl,q⟩:=C2 e;rw[Dn]at c;obtain⟨p,s,rfl,o,i⟩:=c;rw[Dns]at i;obtain⟨w,A,rfl,m,h⟩:=i;rw[Dns]at h;obtain⟨u,z,rfl,k,g⟩:=h;rw[Dns]at g;obtain⟨t,y,rfl,j,f⟩:=g;rw[Dns]at f;rw[Dn]at m;rw[Dn]at k;rw[Dn]at j;obtain⟨l,r,rfl,d,n⟩:=j;subst m k f;rw[gT q n]at d;exact⟨p,l,rfl,SqT.of o,SqL.of d⟩
def Ui:S2 Y (OW K) TN:=by
 intro H x y v u i g;unfold TN;cases e1:ni x with
 |none=>trivial
 |some f=>
   cases r:ni y with
   |none=>trivial
   |some e=>
     obtain⟨a,b,ns⟩:=f;obtain⟨c,d,M⟩:=e;obtain⟨p,l,rfl,o,n⟩:=dD (K:=K) e1 i;obtain⟨q,m,rfl,k,j⟩:=dD (K:=K) r g;exact⟨.bl _,λ_=>by rw[Dn],λQ h=>⟨p,q,a,b,c,d,l,m,ns,M,rfl,rfl,o,k,n,j,h⟩⟩
def yx(x y:D):Res D:=match toPy x,toPy y with
 |some p,some (.list xs)=>if SeqAt.shaped p=true/\SeqAt.shaped (.list xs)=true/\(xs.all λz=>SeqAt.noMix z p)=true then .ok (.bl (!decide (countIn p xs≠0))) else .bad
 |_,_=>.bad
def E2(K:F0):R2:=λx y H Q=>∃d xs,L2.Den K H d x/\L2.Den K H (.list xs) y/\SeqAt.shaped d=true/\SeqAt.shaped (.list xs)=true/\(∀z∈xs,SeqAt.noMix z d=true)/\Q (.bl (!decide (countIn d xs≠0))) H
def OL:S2 Y (E2 Y.K) yx:=by
 intro H x y v u b a;unfold yx;cases e1:toPy x with
 |none=>trivial
 |some p=>
   cases c:toPy y with
   |none=>trivial
   |some q=>
     cases q with
     |list xs=>
       dsimp only;by_cases z:SeqAt.shaped p=true/\SeqAt.shaped (.list xs)=true/\(xs.all λz=>SeqAt.noMix z p)=true
       ·rw[YG z];exact⟨.bl _,λ_=>by rw[Dn],λQ h=>⟨p,xs,den_of e1 b,den_of c a,z.1,z.2.1,λy a=>ZT.mp z.2.2 y a,h⟩⟩
       ·rw[on z];trivial
     |_=>trivial
def CF{X:Cx}(j:X.A.units+65<cLine):jt X (compareOp .NotIn) (E2 X.K):=by
 intro G s Z H x y v u Q I e c h;obtain⟨d,xs,hd,k,b,a,i,q⟩:=h;obtain⟨as,g⟩:=den_reads I d hd e;obtain⟨bs,f⟩:=den_reads I _ k c;exact PyProof.Rows.notIn_list_dataH f g a b j i ⟨.bl _,H,I,rfl,q⟩
def Yq{A:Around}(a:Room k A):A.units+65<cLine:=by have:=a.un;omega
end
end Mi
namespace Mi
open PySem L2
def fj:List Ap->List Md->Bool
 |[],[]=>true
 |p::ps,m::r=>t6 [] true p m&&fj ps r
 |_,_=>false
def eQ:∀{ps:List Ap} {mc:List Md},fj ps mc=true->ps.length=mc.length
 |[],[],_=>rfl
 |[],_::_,h=>by cases h
 |_::_,[],h=>by cases h
 | p::ps,m::r,h=>by
   have h:(t6 [] true p m&&fj ps r)=true:=h;rw[Aa9]at h;rw[YO,YO,eQ h.2]
def eT:∀{ps:List Ap} {mc:List Md},fj ps mc=true->∀(j:Nat) p,ps[j]?=some p->t6 M true p (mc.getD j .F)=true
 |[],_,_,_,_,e=>by cases e
 |_::_,[],h,_,_,_=>by cases h
 | p::ps,m::r,h,j,q,e=>by
   have h:(t6 [] true p m&&fj ps r)=true:=h;rw[Aa9]at h;cases j with
   |zero=>
     cases e
     have:=h.1
     cases p <;> cases m <;> first | exact this | cases this
   |succ j=>rw[Z0];exact eT h.2 j q (by simpa using e)
def pc(b:List D->Out D)(a:P1->Res (List D)):P1->Res D:=λT=>(a T).bind (fG b)
def pm(c:Nat)(b:Str)(d:List D->Out D)(o:P1->Res D)(a:P1->Res (List D)):P1->Res D:=λT=>(o T).bind λo=>if bq c b o=true then (a T).bind λds=>fG d (o::ds) else .bad
def pk(c:Nat)(b:List D->Out D)(a:P1->Res (List D)):P1->Res D:=λT=>(a T).bind (gm c b)
def mc(ps:List Ap)(b:List D->Out D)(a:P1->Res (List D)):P1->Out D:=λT=>((a T).up T).bind (bV ps b)
def mm(c:Nat)(b:Str)(ps:List Ap)(d:List D->Out D)(o:P1->Res D)(a:P1->Res (List D)):P1->Out D:=λT=>((o T).up T).bind λo T=>if bq c b o=true then ((a T).up T).bind λds T=>bV ps d (o::ds) T else .bad
section
variable{Y:Cm}{Kr:KT D V}{pr:Nat->Bool}{M:List Md}{K:F0}
def UL(h:AJ Y E0 M ps t m)(b:fj ps a=true):PJ Y (KR Y .F) E0 M (iL (gc Y a (KR Y .F) c) [] E0 t) (pc c m):=
 FC h (eQ b) (eT b) λ_ _ _ _ _ _ _ h=>h
def Px(h:AJ Y E0 M ps t m)(b:fj ps a=true):PJ Y (KO Y s) E0 M (iL (gc Y a (KO Y s) c) [] E0 t) (pc c m):=
 FC h (eQ b) (eT b) λ_ _ _ _ _ _ _ h=>h
def UD(g:A1J Y E0 M p ta d)(h:AJ Y E0 M ps t m)(e:fj (p::ps) a=true):
 PJ Y (KR Y .F) E0 M (cY (Y c) b (gc Y a (KR Y .F) f) [] E0 ta t) (pm c b f d m):=Ft g h (eQ e) (eT e) λ_ _ _ _ _ _ _ h=>h
def Pd(g:A1J Y E0 M p ta d)(h:AJ Y E0 M ps t m)(e:fj (p::ps) a=true):
 PJ Y (KO Y s) E0 M (cY (Y c) b (gc Y a (KO Y s) f) [] E0 ta t) (pm c b f d m):=Ft g h (eQ e) (eT e) λ_ _ _ _ _ _ _ h=>h
def UE(h:AJ Y E0 M ps t m)(b:fj ps a=true):
 PJ Y (KO Y (.ob sh)) E0 M (rA (Y c) (gc Y (.O (.ob sh)::a) (KR Y .F) d) [] E0 t) (pk c d m):=
 PV h (by rw[YO,eQ b]) rfl λj p e=>by rw[Z0];exact eT b j p e
def Wd(h:AJ Y E0 M ps t m)(c:fitM M ps a)(hd:(cD ps).Nodup)(d:∀i∈iJ ps,i∉cD ps):
 MJ Y (KR Y .F) E0 M (iL (gc Y a (KR Y .F) b) [] E0 t) (mc ps b m):=RF h c hd d λ_ _ _ _ _ _ _ h=>h
def Wb(j:A1J Y E0 M p ta d)(h:AJ Y E0 M ps t m)(f:fitM M (p::ps) a)(hd:(cD (p::ps)).Nodup)
 (g:∀i∈iJ (p::ps),i∉cD (p::ps)):MJ Y (KR Y .F) E0 M (cY (Y c) b (gc Y a (KR Y .F) e) [] E0 ta t) (mm c b (p::ps) e d m):=Rx j h f hd g λ_ _ _ _ _ _ _ h=>h
def Uu:KR Y .F .non .non B U H N:=show Dn Y B .non .non by rw[Dn]
end
def sC:∀ns:List Int,Dns Y G (ns.map D.int) (ns.map V.int)
 |[]=>by rw[ZL,ZL,Dns]
 | n::r=>by
   rw[YI,YI,Dns];exact⟨_,_,rfl,by rw[Dn],sC r⟩
def RL{Y:Cm}{b:List D->Out D}(h:∀ns:List Int,ns.length<=63->∃T,b [.scr (ns.map D.int)]=.ok (.bl true) T){H:Hp}{Q:VK}{ns:List Int}(c:vs=[.ref a])(f:SqF Y.K H a (ns.map V.int))(j:ns.length<=63)(d:∀p∈Y.tb,∃l,H p.1=some (.tbl l)/\p.2∈l)(g:∀H',Q (.bl true) H'):
 xL Y [.R] (KR Y .F) b vs H Q E0:=by
 subst c;obtain⟨T,e⟩:=h ns j;refine⟨H,H,λ_=>[],[.scr (ns.map D.int)],⟨Same.refl _,Same.refl _,λ_=>ZD,λ_ _ _ _ z=>(nomatch z),λ_ _ z=>(nomatch z),λi=>?_,rfl,d⟩,rfl,?_⟩
 · rw[dJ,dJ];cases i with
   |zero=>exact⟨.ref a,rfl,by show Dn Y H (.scr _) _;rw[Dn];exact⟨a,_,rfl,f,sC ns⟩,rfl⟩
   |succ i=>exact rfl
 ·rw[e];intro v S J C H' N o n m k;have k:Dn Y S (.bl true) v:=k;rw[Dn]at k;rw[k];exact g H'
def OA{K:F0}(o:Jm T H)(h:SqL K H a xs):SqF K H a xs:=by
 rcases h with (h|h)|h
 · rcases o.2 a with z|⟨ob,b,z⟩|z
   ·rw[z]at h;cases h
   ·rw[z]at h;cases h
   ·rw[z]at h;cases h
 ·exact .inl h
 ·exact .inr h
def T2{H:Hp}(o:Jm T H):∀p∈T,∃l,H p.1=some (.tbl l)/\p.2∈l:=λp hp=>⟨_,o.1 p hp,Tbs.mem.mpr hp⟩
def lO(m:P1->Res D):P1->Res D:=λT=>(m T).bind λd=>if aW d=true then .ok d else .bad
def Cq(xs:List D)(x:D):Option (D×List D):=match toPy x,toPys xs with
 |some d,some ds=>if SeqAt.shaped d=true/\ds.all SeqAt.shaped=true then (ds.findIdx? λe=>PyData.eqv e d).map λj=>(.non,xs.eraseIdx j) else none
 |_,_=>none
def dt:List (List aH)->List D->List aH->List (List aH)×List D
 |k::a,d::ds,j=>if k=j then dt a ds j else (k::(dt a ds j).1,d::(dt a ds j).2)
 |_,_,_=>([],[])
def AZ:D->D->Option (D×D)
 |.dT a vs,.tup k=>(bH k).bind λk=>(bj a vs k).map λx=>(x,.dT (dt a vs k).1 (dt a vs k).2)
 |_,_=>none
def v4(set:P1->D->P1)(d:D)(T:P1):Res D->Out D
 |.ok k=>(match AZ d k with|some (x,d')=>.ok x (set T d')|none=>.bad)
 |.exc c=>.exc c T
 |.bad=>.bad
def mT(get:P1->Option D)(set:P1->D->P1)(mk:P1->Res D):P1->Out D:=λT=>match get T with
 |some (.dT a vs)=>v4 set (.dT a vs) T (mk T)
 |_=>.bad
section
variable{Y:Cm}{E:XK}{M:List Md}{B U H:Hp}{As:Nat->List Addr}{Z:St}{T:P1}{t:TE}{get:P1->Option D}{set:P1->D->P1}
def GG(p:Pth Y M t get set)(v:PJ Y (KR Y .X) E M te me):MJ Y (KR Y .F) E M (MP Y.K "list" (At Y.K) t (aN te bT)) (kG get set Cq me):=
 GS (f:=Cq) p v λB U H a ds xs x u d C Q bu uh A q g b k=>by
  have g:Dn Y H x u:=g;unfold Cq at b;cases e1:toPy x with
  |none=>rw[e1]at b;cases b
  |some c=>
    cases n:toPys ds with
    |none=>rw[e1,n]at b;cases b
    |some ps=>
      rw[e1,n]at b;replace b:(if SeqAt.shaped c=true/\ps.all SeqAt.shaped=true then (ps.findIdx? λe=>PyData.eqv e c).map λj=>(D.non,ds.eraseIdx j) else none)=some (d,C):=b;by_cases z:SeqAt.shaped c=true/\ps.all SeqAt.shaped=true
      · rw[YG z]at b;obtain⟨j,G,I⟩:=Y3.mp b;cases I;obtain⟨o,hp,h⟩:=List.findIdx?_eq_some_iff_getElem.mp G;refine⟨a,xs,u,c,ps,j,rfl,rfl,A,den_of e1 g,dens_of n (Dns.mono (bu.trans uh) q),z.1,λy r=>ZT.mp z.2 y r,o,λm e l J=>?_,k .non _ (by rw[Dn]) (q.erase _)⟩;by_cases w:m=j
        ·subst w;rw[Y1 o]at l;cases l;rw[hp];simp
        · have:=h m (by omega)
          obtain⟨s,i⟩:=Y2.mp l;rw[i]at this;rw[Zc w];simpa using this
      ·rw[on z]at b;cases b
def oQ:∀{kvs:List (List aH×V)} {ds:List D},Dns Y G ds (kvs.map (·.2))->(dZ kvs k).map (·.1)=(dt (kvs.map (·.1)) ds k).1/\Dns Y G (dt (kvs.map (·.1)) ds k).2 ((dZ kvs k).map (·.2))
 | [],ds,h=>by
   cases ds<;>exact⟨rfl,by show Dns Y G [] [];rw[Dns]⟩
 | p::kvs,ds,h=>by
   cases ds with
   |nil=>rw[Dns]at h;cases h
   |cons d ds=>
     rw[List.map_cons,Dns]at h;obtain⟨y,r,e,f,c⟩:=h;cases e;obtain⟨b,a⟩:=oQ (k:=k) c;unfold dZ at b a ⊢;rw[List.map_cons,List.filter_cons,dt];by_cases q:p.1=k
     ·rw[on (by simp[q]),YG q];exact⟨b,a⟩
     ·rw[YG (by simpa using q),on q];refine⟨by rw[YI,b],?_⟩;rw[YI,Dns];exact⟨_,_,rfl,f,a⟩
def RD(p:Pth Y M t get set)(S:PJ Y (KR Y .X) E M r mk):MJ Y (KR Y .F) E M (xX t r) (mT get set mk):=by
 intro B U As Z H T Q R P;unfold mT at P;cases e:get T with
 |none=>rw[e]at P;exact P.elim
 |some d=>
   obtain⟨v,A,O,C,hA,cl⟩:=p.rd R e;cases d with
   |dT i vs=>
     rw[e]at P;replace P:Mo Y (KR Y .F) E M B U Z (v4 set (.dT i vs) T (mk T)) Q:=P;obtain⟨a,kvs,rfl,z,h2,rfl,h3⟩:=C.dT rfl;refine O _ ⟨a,rfl,.inr ⟨kvs,.inl z⟩,S B U As Z H T _ R ?_⟩;cases o:mk T with
     |exc c=>rw[o]at P;exact λI U1 H1 q g=>P I U1 As H1 q g.toEx
     |bad=>rw[o]at P;exact P.elim
     |ok l=>
       rw[o]at P;intro u I U1 H1 N q g n1 m;have m:Dn Y H1 l u:=m;replace P:Mo Y (KR Y .F) E M B U Z (match AZ (.dT i vs) l with|some (x,d')=>.ok x (set T d')|none=>.bad) Q:=P;cases f:AZ (.dT i vs) l with
       |none=>rw[f]at P;exact P.elim
       |some xd=>
         obtain⟨x,d'⟩:=xd;rw[f]at P;cases l with
         |tup J=>
           replace f:((bH J).bind λk=>(bj i vs k).map λx=>(x,D.dT (dt i vs k).1 (dt i vs k).2))=some (x,d'):=f;obtain⟨n,ek,f⟩:=Ad3.mp f;obtain⟨y,ey,f⟩:=Y3.mp f;cases f;rw[Dn]at m;obtain⟨b,xs,rfl,W,V⟩:=m;have ex:=fh ek V;subst ex;subst h2;have j:Dns Y I vs (kvs.map (·.2)):=h3.mono g.b;have s:=gp (Y:=Y) (G:=I) n j;rw[ey]at s;obtain⟨w,ew,dw⟩:=s;obtain⟨L,K⟩:=oQ (Y:=Y) (G:=I) (k:=n) j;refine⟨kvs,n,b,w,g.h _ _ z,rfl,W,ew,?_⟩;refine P w I U1 As _ [] (cl I U1 H1 q g.b g.h a YK _ _ ?_) g.toEx NewM.nil dw;rw[<-L];exact Ow.dT' ay K
         |_=>cases f
   |_=>rw[e]at P;exact P.elim
end
section
variable{Y:Cm}{E:XK}{M:List Md}
def LR(d:PJ Y (KR Y .F) E M ta a):PJ Y (KI Y .F .U) E M (sf Y.K ta) (fJ a):=by
 intro B U As Z H T Q R P;refine AT d B U As Z H T Q R ?_;cases e:fJ a T with
 |ok ds=>
   rw[e]at P;intro J I U1 H1 N b g n ⟨vs,f,hd⟩;exact P J I U1 H1 N b g n ⟨vs,λh s=>f h (b.bu.trans s),hd⟩
 |exc c=>rw[e]at P;exact P
 |bad=>rw[e]at P;exact P
end
def Yp{A:Around}(r:Room k A):A.units+66<cLine:=by have:=r.un;omega
end Mi
namespace L2
open PySem PySem.Spec PyProof.Rows
section
variable{X:Cx}(K:F0)
def HC(h:X.K=K):TY X (Kn K):=by subst h;exact LQ
def LP(h:X.K=K):TY X (OX K):=by subst h;exact RS
def qZ(h:X.K=K):cQ X (.builtin "len") (λxs H Q=>∃p a,xs=[.ref p]/\(SqL K H p a\/SqT K H p a)/\Q (.int a.length) H):=by subst h;exact uU
def qY(h:X.K=K):cQ X (.type "list") (λxs H Q=>∃p a,xs=[.ref p]/\(SqL K H p a\/SqT K H p a)/\∀l,H l=none->Q (.ref l) (upd H l (.lst a))):=by subst h;exact uT
def qD(h:X.K=K):cQ X (.type "tuple") (λxs H Q=>∃p a,xs=[.ref p]/\((SqL K H p a/\∀l,H l=none->Q (.ref l) (upd H l (.tup a)))\/(SqT K H p a/\Q (.ref p) H))):=by subst h;exact qX
def zC(h:X.K=K)(a:X.calm=true):cQ X (.type "set") (λxs H Q=>∃p ns,xs=[.ref p]/\SqL K H p (ns.map V.int)/\ns.length<4000/\∀q,H q=none->Q (.ref q) (upd H q (.set (λk=>(dd ns).any (·==k)) (dd ns).length))):=by subst h;exact Ds a
def zF(h:X.K=K)(b:X.calm=true):gb X (.builtin "min") ["default"] (λxs a H Q=>∃p ns d,xs=[.ref p]/\a=[d]/\SqL K H p (ns.map V.int)/\(ns=[]->Q d H)/\∀m∈ns,(∀x∈ns,m<=x)->Q (.int m) H):=by subst h;exact DA b
def zG(h:X.K=K)(b:X.calm=true):gb X (.builtin "max") ["default"] (λxs a H Q=>∃p ns d,xs=[.ref p]/\a=[d]/\SqL K H p (ns.map V.int)/\(ns=[]->Q d H)/\∀m∈ns,(∀x∈ns,x<=m)->Q (.int m) H):=by subst h;exact DB b
def Lh(h:X.K=K)(a:X.A.units+64<cLine):jt X (compareOp .Eq) (E3 K false):=by subst h;exact Qj a
def Ld(h:X.K=K)(a:X.A.units+64<cLine):jt X (compareOp .NotEq) (E3 K true):=by subst h;exact Qc a
def Lf(h:X.K=K)(a:X.A.units+65<cLine):jt X (compareOp .In) (λx y H Q=>∃d xs,Den K H d x/\Den K H (.list xs) y/\SeqAt.shaped d=true/\SeqAt.shaped (.list xs)=true/\(∀z∈xs,SeqAt.noMix z d=true)/\Q (.bl (decide (countIn d xs≠0))) H):=by subst h;exact Qi a
def yr(h:X.K=K)(a:X.A.units+65<cLine):jt X (compareOp .NotIn) (Mi.E2 K):=by subst h;exact Mi.CF a
def Le(h:X.K=K)(a:X.A.units+100<cLine):jt X (compareOp .Lt) (OW K):=by subst h;exact Qg a
def Dx(h:X.K=K):cQ X (.builtin "isinstance") (λxs H Q=>∃x c t b,xs=[x,.ty c]/\TyOf K H x t/\PySem.W.kitOne K t (.type c)=some b/\Q (.bl b) H):=by subst h;exact Jb
def KW{e:Expr}{ta:TE}{f:Str}{pos:Pos}(h:X.K=K)(a:PE X e ta)(b:attributeBase e f X.env (eval e X.env)=eval e X.env):PE X (.Attribute e f pos) (nH K ta f):=by subst h;exact Pu a b
def Fd{b l:Expr}{a:TE}(h:X.K=K)(c:PE X l a):PI X b l (sf K a):=by subst h;exact KM c
end
end L2
namespace Mi
open PySem L2
def spT(K:F0)(T:Tbs):Sp:=λvs H Q _=>∃(a:Addr) (ns:List Int),vs=[.ref a]/\SqF K H a (ns.map V.int)/\ns.length<=63/\(∀p∈T,∃l,H p.1=some (.tbl l)/\p.2∈l)/\∀H',Q (.bl true) H'
def ir:List D->Option (List Bool)
 |[]=>some []
 |.bl b::r=>(ir r).map (b::·)
 |_::_=>none
def re:D->Res D
 |.lst ds=>(match ir ds with|some bs=>.ok (.bl (bs.any id))|none=>.bad)
 |_=>.bad
def gu:List D->Option (List (Int×Int×List Int))
 |[]=>some []
 |d::r=>match ni d,gu r with|some k,some a=>some (k::a)|_,_=>none
def vE(x d:D):Res D:=match x with
 |.lst []=>if aW d=true then .ok d else .bad
 | .lst (e::r)=>(match gu (e::r) with
   |some a=>(match (e::r)[PySem.argBest (λi j=>bg (a.getD i (0,0,[])) (a.getD j (0,0,[]))) r.length]? with|some y=>.ok y|none=>.bad)
   |none=>.bad)
 |_=>.bad
section
variable{Y:Cm}{E:XK}{M:List Md}{K:F0}
def m9:∀{ds:List D} {bs:List Bool} {xs:List V},ir ds=some bs->Dns Y G ds xs->xs=bs.map V.bl
 |[],ns,xs,e,h=>by rw[Dns]at h;cases e;rw[h];rfl
 | d::ds,ns,xs,e,h=>by
   rw[Dns]at h;obtain⟨x,r,rfl,a,b⟩:=h;cases d with
   |bl i=>
     rw[ir]at e;obtain⟨M,e1,rfl⟩:=Y3.mp e;rw[Dn]at a;rw[m9 e1 b,a,YI]
   |_=>cases e
def Ur:S1 Y (λv H Q=>∃p,∃bs:List Bool,[v]=[.ref p]/\SqL K H p (bs.map V.bl)/\Q (.bl (bs.any id)) H) re:=by
 intro H x v c;cases x with
 |lst ds=>
   rw[Dn]at c;obtain⟨a,xs,rfl,f,d⟩:=c;cases e:ir ds with
   |none=>
     have b:re (.lst ds)=.bad:=by simp only[re,e]
     rw[b];trivial
   |some bs=>
     have b:re (.lst ds)=.ok (.bl (bs.any id)):=by simp only[re,e]
     rw[b];have ex:=m9 e d;subst ex;exact⟨.bl _,λ_=>by rw[Dn],λQ q=>⟨a,bs,rfl,SqL.of f,q⟩⟩
 |_=>trivial
def rW:∀{ds:List D} {a:List (Int×Int×List Int)},gu ds=some a->ds.length=a.length
 |[],a,e=>by cases e;rfl
 | d::r,a,e=>by
   unfold gu at e;cases e1:ni d with
   |none=>rw[e1]at e;cases e
   |some k=>
     cases b:gu r with
     |none=>rw[e1,b]at e;cases e
     |some l=>rw[e1,b]at e;cases e;rw[YO,YO,rW b]
def vN:∀{ds:List D} {a:List (Int×Int×List Int)} {i:Nat} {d:D},gu ds=some a->ds[i]?=some d->ni d=some (a.getD i (0,0,[]))
 |[],a,i,d,e,h=>by cases h
 | x::r,a,i,d,e,h=>by
   unfold gu at e;cases e1:ni x with
   |none=>rw[e1]at e;cases e
   |some k=>
     cases b:gu r with
     |none=>rw[e1,b]at e;cases e
     |some l=>
       rw[e1,b]at e;cases e;cases i with
       |zero=>cases h;exact e1
       |succ i=>rw[Z0];exact vN b (by simpa using h)
def PM(ha:PJ Y (KC Y .F) E M ta O)(hd:PJ Y (KR Y .X) E M J N):
 PJ Y (KR Y .F) E M (Ce (λxs V H Q=>∃p vs d,∃f:List (Int×Int×List Int),xs=[.ref p]/\V=[d]/\SqL K H p vs/\vs.length=f.length/\(∀i v,vs[i]?=some v->TB K H v (f.getD i (0,0,[])))/\
  (vs=[]->Q d H)/\∀v,vs[PySem.argBest (λi j=>bg (f.getD i (0,0,[])) (f.getD j (0,0,[]))) (vs.length-1)]?=some v->Q v H) (aN ta bT) (aN J bT)) (bn vE O N):=by
 intro B U As Z H T Q R P;refine ha.bnd R P λx v I U1 H1 L _ R1 e1 n1 o W=>hd.bnd R1 W λy u t q s N2 _ R2 S n2 d2 c=>?_;have o:Cn Y I H1 x v:=o;cases x with
 |lst ds=>
   have o:∃a xs,v=.ref a/\H1 a=some (.lst xs)/\Dns Y I ds xs:=o;obtain⟨a,xs,rfl,h1,G⟩:=o;have n:=S.h _ _ h1;have m:=G.mono S.b;cases ds with
   |nil=>
     rw[Dns]at G;subst G;replace c:Po Y (KR Y .F) E M t q As Z s T (if aW y=true then .ok y else .bad) Q:=c;by_cases z:aW y=true
     ·rw[YG z]at c;exact⟨a,[],u,[],rfl,rfl,SqL.of n,rfl,λi v e=>(nomatch e),λ_=>c u t q s [] R2 (Gw.refl _ _ _) New.nil (fN z d2),λv e=>by cases e⟩
     ·rw[on z]at c;exact c.elim
   |cons e r=>
     replace c:Po Y (KR Y .F) E M t q As Z s T (match gu (e::r) with
      |some f=>(match (e::r)[PySem.argBest (λi j=>bg (f.getD i (0,0,[])) (f.getD j (0,0,[]))) r.length]? with|some y=>.ok y|none=>.bad)
      |none=>.bad) Q:=c
     cases A:gu (e::r) with
     |none=>rw[A]at c;exact c.elim
     |some f=>
       rw[A]at c;replace c:Po Y (KR Y .F) E M t q As Z s T (match (e::r)[PySem.argBest (λi j=>bg (f.getD i (0,0,[])) (f.getD j (0,0,[]))) r.length]? with|some y=>.ok y|none=>.bad) Q:=c;have C:=m.len;refine⟨a,xs,u,f,rfl,rfl,SqL.of n,by rw[<-C,rW A],λi v w=>?_,λz=>?_,λv w=>?_⟩
       ·obtain⟨d,k,g⟩:=m.geti w;obtain⟨p,l,rfl,q1,q2⟩:=dD (K:=K) (vN A k) (Dn.mono R2.bh g);exact⟨p,l,rfl,q1,q2⟩
       ·subst z;cases C
       ·rw[<-C,YO,Nat.add_sub_cancel]at w;obtain⟨d,k,g⟩:=m.geti w;rw[k]at c;exact c v t q s [] R2 (Gw.refl _ _ _) New.nil g
 |_=>exact c.elim
end
section
variable{Y:Cm}{E:XK}{M:List Md}
def fF(i:Nat)(a:M.getD i .F= .F:=by rfl):PJ Y (KR Y .F) E M (cK i) (vr i):=xF a
def fR(i:Nat)(a:M.getD i .F= .R:=by rfl):PJ Y (KR Y .U) E M (cK i) (vr i):=xR a
def fO(i:Nat)(a:M.getD i .F= .O sh:=by rfl):PJ Y (KR Y .X) E M (cK i) (vr i):=xO a
def fC(i:Nat)(a:M.getD i .F= .O (.ct .fz):=by rfl):PJ Y (KC Y .F) E M (cK i) (vr i):=xC a
end
def Wp{A:Around}(r:Room k A):A.units+101<cLine:=by have:=r.un;omega
end Mi
namespace L2
open PySem PySem.Spec PyProof.Rows
section
variable{X:Cx}(K:F0)
def Dy(h:X.K=K)(a:X.calm=true):cQ X (.builtin "any") (λxs H Q=>∃p,∃bs:List Bool,xs=[.ref p]/\SqL K H p (bs.map V.bl)/\Q (.bl (bs.any id)) H):=by subst h;exact Dz a
def xr(h:X.K=K)(e:X.calm=true)(c:X.A.units+101<cLine):gb X (.builtin "min") ["default"] (λxs b H Q=>∃p vs d,∃a:List (Int×Int×List Int),xs=[.ref p]/\b=[d]/\SqL K H p vs/\vs.length=a.length/\(∀i v,vs[i]?=some v->TB K H v (a.getD i (0,0,[])))/\
 (vs=[]->Q d H)/\∀v,vs[PySem.argBest (λi j=>bg (a.getD i (0,0,[])) (a.getD j (0,0,[]))) (vs.length-1)]?=some v->Q v H):=by subst h;exact zE e c
end
end L2
namespace Gd
open PySem L2
def Te:bootBuiltins "any" = some (.builtin "any"):=by decide +kernel
end Gd
namespace Mi
open PySem L2
def yk:D->D->Res D
 |.lst xs,.int k=>if (0<=k/\k<=1000000)/\xs.length*k.toNat<=af then .ok (.lst (List.replicate k.toNat xs).flatten) else .bad
 |_,_=>.bad
section
variable{Y:Cm}{E:XK}{M:List Md}
def Dns.rep(h:Dns Y B ds xs):∀k:Nat,Dns Y B (List.replicate k ds).flatten (List.replicate k xs).flatten
 |0=>by rw[List.replicate_zero,List.replicate_zero,List.flatten_nil,List.flatten_nil,Dns]
 |k+1=>by rw[Zs,Zs,ZK,ZK];exact Dns.append h (Dns.rep h k)
def UP(n:PJ Y (KC Y .F) E M ta g)(m:PJ Y (KR Y .X) E M tb f):PJ Y (KO Y (.ct .fz)) E M (DM Ux ta tb) (bn yk g f):=by
 intro B U As Z H T Q R P;refine n.bnd R P λx v I U1 H1 L _ r e1 w d W=>m.bnd r W λy u s q l A _ R2 j t e c=>?_;have d:Cn Y I H1 x v:=d;have e:Dn Y l y u:=e;cases x with
 |lst ds=>
   have d:∃a xs,v=.ref a/\H1 a=some (.lst xs)/\Dns Y I ds xs:=d;obtain⟨a,xs,rfl,o,i⟩:=d;cases y with
   |int k=>
     rw[Dn]at e;subst e;replace c:Po Y (KO Y (.ct .fz)) E M s q As Z l T (if (0<=k/\k<=1000000)/\ds.length*k.toNat<=af then .ok (.lst (List.replicate k.toNat ds).flatten) else .bad) Q:=c;by_cases z:(0<=k/\k<=1000000)/\ds.length*k.toNat<=af
     ·rw[YG z]at c;refine⟨a,k,xs,rfl,rfl,j.h _ _ o,by omega,by omega,?_,λp hp=>dX R2 c ((i.mono j.b).rep _) hp⟩;rw[<-i.len];exact Ze z.2 (by decide)
     ·rw[on z]at c;exact c.elim
   |_=>exact c.elim
 |_=>exact c.elim
end
end Mi
namespace L2
open PySem
def Wj{P:List Value->Prop}(h:P []):∀us:List Value,us.length=0->P us:=by
 intro us a;rw[Zi.mp a];exact h
def Ha{P:List Value->Prop}(h:∀c:Value,P [c]):∀us:List Value,us.length=1->P us:=by
 intro us b;cases us with
 |nil=>cases b
 |cons a us=>exact Wj (P:=λus=>P (a::us)) (h a) us (Ae8 b)
def G8{P:List Value->Prop}(h:∀d c:Value,P [d,c]):∀us:List Value,us.length=2->P us:=by
 intro us b;cases us with
 |nil=>cases b
 |cons a us=>exact Ha (P:=λus=>P (a::us)) (h a) us (Ae8 b)
def G7{P:List Value->Prop}(h:∀e d c:Value,P [e,d,c]):∀us:List Value,us.length=3->P us:=by
 intro us b;cases us with
 |nil=>cases b
 |cons a us=>exact G8 (P:=λus=>P (a::us)) (h a) us (Ae8 b)
def G6{P:List Value->Prop}(h:∀f e d c:Value,P [f,e,d,c]):∀us:List Value,us.length=4->P us:=by
 intro us b;cases us with
 |nil=>cases b
 |cons a us=>exact G7 (P:=λus=>P (a::us)) (h a) us (Ae8 b)
def NQ{P:List Value->Prop}(h:∀g f e d c:Value,P [g,f,e,d,c]):∀us:List Value,us.length=5->P us:=by
 intro us b;cases us with
 |nil=>cases b
 |cons a us=>exact G6 (P:=λus=>P (a::us)) (h a) us (Ae8 b)
end L2
namespace L2
open PySem PySem.Spec PyProof.Rows
def CX1(P:Program)(w:World):DL:=λouter H s E e a=>∃(c C:Addr) (f:Value) (B:Heap) (H':Hp),e=.ref c/\a.os=s.os/\AllBare a.gens/\Un (yN outer) (yN outer) H H' s.heap B/\HOk P w H' B/\
 Heap.FlyingW B outer c (.ref C) f a.heap/\(∀b∈yN outer,∀o,s.heap.get? b=some o->∃d,a.heap.get? b=some {o with slots:=d})/\(∀b∈yN outer,H' b=none)/\E (.ref C) none H'
structure Own (X:Cx) (E:XK):Prop where
 xe:X.xe=λe s'=>wpAny (model X.prog X.w) X.A («leaving» X.env e) (λ_ s''=>CX1 X.prog X.w X.outer X.H₀ X.s₀ E e s'') (λe' s''=>CX1 X.prog X.w X.outer X.H₀ X.s₀ E e' s'')  s'
 ex:X.ex=[]
 stk:X.stack=X.env::X.outer
 fr:X.env.frame=some X.env.locals
def Wa(K:F0)(C:Addr):List Value:=match K.lookup C with
 |some ⟨_,_,.cls a,_⟩=>a.mro
 |_=>[]
abbrev vBm:List Value:=[.type "ValueError",.type "Exception",.type "BaseException",.type "object"]
def Wt(K:F0)(C:Addr):Bool:=PySem.W.excIn K C vBm "ValueError.__new__"
end L2
namespace PySem.W
open PySem PySem.Spec PySem.Calls PyProof.Rows
open Builtin Builtin.ObjectAttr Builtin.Getset_descriptor in
open Builtin Builtin.ObjectAttr Builtin.Getset_descriptor in
def NU(K:Frag)(D:Addr):Bool:=findIn K (.ref D) "__getattribute__" == some (some (.builtin "BaseException.__getattribute__"))&&(findIn K (.ref D) "__getattr__" == some none&&(findIn K (.ref D) "__class__" == some (some (.builtin "object.__class__")) &&
 (specialIn K (.builtin "object.__class__") "__get__" == some (some (.builtin "getset_descriptor.__get__"))&&(takesIn K (.builtin "object.__class__")==some true&&(mroIn K D (.type "object")==some true&&(mroIn K D (.type "BaseException")==some true&&(clsIn K D).isSome))))))
end PySem.W
namespace Mi
open PySem L2
abbrev DI(X:Type):=List (List Int×X)
section
variable{X:Type}
def aP(f:X->D)(F:DI X):D:=.dT (F.map λp=>p.1.map Sum.inl) (F.map λp=>f p.2)
def DI.get(F:DI X)(k:List Int):Option X:=(F.find? λp=>decide (p.1=k)).map (·.2)
def DI.put(F:DI X)(k:List Int)(v:X):DI X:=if (F.get k).isSome=true then F.map λp=>if p.1=k then (p.1,v) else p else F++[(k,v)]
def DI.del(F:DI X)(k:List Int):DI X:=F.filter λp=>decide (p.1≠k)
def fW{j k:List Int}:j.map (Sum.inl:Int->aH)=k.map Sum.inl↔j=k:=by
 constructor
 · intro h
   induction j generalizing k with
   |nil=>cases k with|nil=>rfl|cons _ _=>cases h
   |cons x j b=>
     cases k with
     |nil=>cases h
     |cons y k=>
       rw[YI,YI]at h;injection h with a c
       injection a with a
       rw[a,b c]
 ·intro h;rw[h]
def fU:∀k:List Int,bH (k.map D.int)=some (k.map Sum.inl)
 |[]=>rfl
 |x::k=>by rw[YI,bH,fU k];rfl
def kJ{f:X->D}{k:List Int}:∀F:DI X,bj (F.map λp=>p.1.map (Sum.inl:Int->aH)) (F.map λp=>f p.2) (k.map Sum.inl)=(DI.get F k).map f
 |[]=>rfl
 | p::F=>by
   rw[List.map_cons,List.map_cons,bj,kJ F];unfold DI.get;rw[List.find?_cons];by_cases h:p.1=k
   ·rw[YG (fW.mpr h),Zj h];rfl
   ·rw[on (λz=>h (fW.mp z)),Zc h]
def gw{F:DI X}{k:List Int}:jz (aP f F) (.tup (k.map D.int))=some ((F.get k).map f):=by
 show(bH (k.map D.int)).map (λk=>bj (F.map λp=>p.1.map (Sum.inl:Int->aH)) (F.map λp=>f p.2) k)=_;rw[fU,Ab7,kJ]
def AU{k:List Int}:∀F:DI X,ci (F.map λp=>p.1.map (Sum.inl:Int->aH)) (k.map Sum.inl)=(DI.get F k).isSome
 |[]=>rfl
 | p::F=>by
   have a:=AU (k:=k) F;unfold ci DI.get at *;rw[List.map_cons,List.any_cons,List.find?_cons,a];by_cases h:p.1=k
   ·rw[Zj (fW.mpr h),Zj h];rfl
   ·rw[Zc (λz=>h (fW.mp z)),Zc h];rfl
def ve{f:X->D}{k:List Int}:∀F:DI X,iP (F.map λp=>p.1.map (Sum.inl:Int->aH)) (F.map λp=>f p.2) (k.map Sum.inl) (f v)=(F.map λp=>if p.1=k then (p.1,v) else p).map λp=>f p.2
 |[]=>rfl
 | p::F=>by
   rw[YI,YI,iP,ve F,YI,YI];by_cases h:p.1=k
   ·rw[YG (fW.mpr h),YG h]
   ·rw[on (λz=>h (fW.mp z)),on h]
def Ia{f:X->D}{F:DI X}{k:List Int}(h:F.length<af):sy (aP f F) (.tup (k.map D.int)) (f v)=some (aP f (F.put k v)):=by
 show((bH (k.map D.int)).bind λk=>if (F.map λp=>p.1.map (Sum.inl:Int->aH)).length<af then some (if ci (F.map λp=>p.1.map (Sum.inl:Int->aH)) k=true then D.dT (F.map λp=>p.1.map (Sum.inl:Int->aH)) (iP (F.map λp=>p.1.map (Sum.inl:Int->aH)) (F.map λp=>f p.2) k (f v)) else D.dT ((F.map λp=>p.1.map (Sum.inl:Int->aH))++[k]) ((F.map λp=>f p.2)++[f v])) else none)=some (D.dT ((F.put k v).map λp=>p.1.map Sum.inl) ((F.put k v).map λp=>f p.2));rw[fU,Option.bind_some,if_pos (by rw[List.length_map];exact h),AU];unfold DI.put;by_cases q:(DI.get F k).isSome=true
 ·rw[YG q,YG q,ve,Zt,Zt];refine congrArg (λz=>some (D.dT z _)) ?_;refine ZQ λp _=>?_;show _=((if p.1=k then (p.1,v) else p).1).map Sum.inl;split<;>rfl
 ·rw[on q,on q,Zr,Zr];rfl
def oP{f:X->D}{k:List Int}:∀F:DI X,dt (F.map λp=>p.1.map (Sum.inl:Int->aH)) (F.map λp=>f p.2) (k.map Sum.inl)=((F.del k).map (λp=>p.1.map Sum.inl),(F.del k).map λp=>f p.2)
 |[]=>rfl
 | p::F=>by
   rw[List.map_cons,List.map_cons,dt,oP F];unfold DI.del;rw[List.filter_cons];by_cases h:p.1=k
   ·rw[YG (fW.mpr h),on (by simpa using h)]
   ·rw[on (λz=>h (fW.mp z)),YG (by simpa using h)];rfl
def Ib{f:X->D}{F:DI X}{k:List Int}(h:F.get k=some v):AZ (aP f F) (.tup (k.map D.int))=some (f v,aP f (F.del k)):=by
 show((bH (k.map D.int)).bind λk=>(bj (F.map λp=>p.1.map (Sum.inl:Int->aH)) (F.map λp=>f p.2) k).map λx=>(x,D.dT (dt (F.map λp=>p.1.map (Sum.inl:Int->aH)) (F.map λp=>f p.2) k).1 (dt (F.map λp=>p.1.map (Sum.inl:Int->aH)) (F.map λp=>f p.2) k).2))=some (f v,D.dT ((F.del k).map λp=>p.1.map Sum.inl) ((F.del k).map λp=>f p.2));rw[fU,Option.bind_some,kJ,h,Ab7,Ab7,oP]
def db{F:DI X}{k:List Int}:(F.put k v).get j=if j=k then some v else F.get j:=by
 unfold DI.put;by_cases q:(DI.get F k).isSome=true
 · rw[YG q]
   have e:∀G:DI X,DI.get (G.map λp=>if p.1=k then (p.1,v) else p) j=if j=k then (DI.get G k).map λ_=>v else DI.get G j:=by
    intro G
    induction G with
    |nil=>unfold DI.get;split<;>rfl
    |cons p G f=>
      unfold DI.get at f ⊢;rw[List.map_cons,List.find?_cons,List.find?_cons,List.find?_cons];by_cases b:p.1=k
      · rw[YG b];by_cases a:j=k
        ·subst a;simp only[b,decide_true,YG,Ab7]
        ·have c:¬ p.1=j:=λz=>a (z.symm.trans b);simp only[c,Ai6];rw[f,on a,on a]
      · rw[on b];by_cases c:p.1=j
        ·have a:¬ j=k:=λz=>b (c.trans z);simp only[c,decide_true,on a]
        ·simp only[c,b,Ai6];exact f
   rw[e];by_cases h:j=k
   ·rw[YG h,YG h];obtain⟨x,i⟩:=Aa4.mp q;rw[i];rfl
   ·rw[on h,on h]
 · rw[on q]
   have d:DI.get F k=none:=by
    cases z:DI.get F k with
    |none=>rfl
    |some x=>rw[z]at q;exact absurd rfl q
   unfold DI.get at d ⊢;rw[List.find?_append];by_cases h:j=k
   · subst h
     have g:F.find? (λp=>decide (p.1=j))=none:=by
      cases z:F.find? (λp=>decide (p.1=j)) with
      |none=>rfl
      |some x=>rw[z]at d;cases d
     rw[g,YG rfl];simp
   · rw[on h]
     have:¬ k=j:=λz=>h z.symm
     simp[this]
def jm{F:DI X}{k:List Int}:(F.del k).get j=if j=k then none else F.get j:=by
 unfold DI.del DI.get
 induction F with
 |nil=>split<;>rfl
 |cons p F c=>
   rw[ZM];by_cases b:p.1=k
   · rw[on (by simpa using b),c,ZC];by_cases h:j=k
     ·rw[YG h,YG h]
     ·have a:¬ p.1=j:=λz=>h (z.symm.trans b);rw[on h,on h];simp only[a,Ai6]
   · rw[YG (by simpa using b),ZC,ZC];by_cases a:p.1=j
     ·have d:¬ j=k:=λz=>b (a.trans z);simp only[a,decide_true,on d]
     ·simp only[a,Ai6];exact c
end
open PySem.Spec (countIn same sameAll)
def lJ{W:Type}{f:W->D}{g:W->PyData}(h:∀a,toPy (f a)=some (g a)):∀l:List W,toPys (l.map f)=some (l.map g)
 |[]=>rfl
 |a::l=>by rw[YI,toPys,h a,lJ h l];rfl
def lK{W:Type}{f:W->D}{g:W->PyData}(h:∀a,toPy (f a)=some (g a))(l:List W):toPy (.lst (l.map f))=some (.list (l.map g)):=by
 rw[toPy,lJ h];rfl
def ye{W:Type}{g:W->PyData}(h:∀a,(g a).canLay0=true)(f:∀a,(g a).depth<=60)(l:List W):SeqAt.shaped (.list (l.map g))=true:=by
 have c:∀l:List W,PyData.canLayAll0 (l.map g)=true:=by
  intro l
  induction l with
  |nil=>simp[PyData.canLayAll0]
  |cons a l b=>simp[PyData.canLayAll0,h a,b]
 have d:∀l:List W,PyData.depthAll (l.map g)<=60:=by
  intro l
  induction l with
  |nil=>simp[PyData.depthAll]
  |cons a l b=>
    rw[YI,PyData.depthAll]
    have:=f a
    omega
 have e:PyData.depth (.list (l.map g))<=64:=by rw[PyData.depth];have:=d l;omega
 unfold SeqAt.shaped;rw[Bool.and_eq_true];exact⟨by rw[PyData.canLay0];exact c l,decide_eq_true e⟩
def mY{W:Type}[DecidableEq W]{g:W->PyData}(h:∀a b,same (g a) (g b)=decide (a=b))(a:W):∀l:List W,(0<=countIn (g a) (l.map g))/\(countIn (g a) (l.map g)≠0↔a∈l)
 |[]=>by simp[countIn]
 | b::l=>by
   obtain⟨d,c⟩:=mY h a l;rw[YI,countIn,h b a,YS];by_cases e:b=a
   ·rw[YG (by simpa using e)];exact⟨by omega,λ_=>.inl e.symm,λ_=>by omega⟩
   · rw[on (by simpa using e)];refine⟨by omega,λz=>.inr (c.mp (by omega)),λz=>?_⟩;rcases z with z|z
     ·exact absurd z.symm e
     ·have:=c.mpr z;omega
section
variable{W:Type}[DecidableEq W]{f:W->D}{g:W->PyData}
def AS(h0:∀a,toPy (f a)=some (g a))(j:∀a,(g a).canLay0=true)(i:∀a,(g a).depth<=60)(m:∀a b,same (g a) (g b)=decide (a=b))(k:∀a b,SeqAt.noMix (g a) (g b)=true)(a:W)(l:List W):
 DQ (f a) (.lst (l.map f))=.ok (.bl (decide (a∈l)))/\yx (f a) (.lst (l.map f))=.ok (.bl (!decide (a∈l))):=by
 have h:SeqAt.shaped (g a)=true:=by
  unfold SeqAt.shaped;rw[j a,Bool.true_and];exact decide_eq_true (by have:=i a;omega)
 have e:=ye j i l
 have d:((l.map g).all λz=>SeqAt.noMix z (g a))=true:=by
  rw[Ai7,ZT];exact λb _=>k b a
 have c:decide (countIn (g a) (l.map g)≠0)=decide (a∈l):=by
  have:=(mY m a l).2
  by_cases z:a∈l
  ·rw[Zj z,Zj (this.mpr z)]
  ·rw[Zc z,Zc (λw=>z (this.mp w))]
 constructor
 ·unfold DQ;rw[h0 a,lK h0 l];show(if _ then _ else _)=_;rw[if_pos ⟨h,e,d⟩,c]
 ·unfold yx;rw[h0 a,lK h0 l];show(if _ then _ else _)=_;rw[if_pos ⟨h,e,d⟩,c]
end
end Mi
namespace Cl
open PySem L2 Mi
inductive OutC (Z W:Type) where
 |ok (a:W) (s:Z)|exc (c:Nat) (s:Z)|bad
inductive FlC (Z X:Type) where
 |nx (s:Z)|rt (b:X) (s:Z)|bk (s:Z)|ct (s:Z)|exc (c:Nat) (s:Z)|bad
def SimR{W L:Type}(e:W->L)(r:Res L)(q:Res W):Prop:=match q with
 |.ok a=>r=.ok (e a)
 |.exc x=>r=.exc x
 |.bad=>True
section
variable{Z W X L J:Type}{rep:Z->P1}
def SimO(rep:Z->P1)(e:W->L)(r:Out L)(q:OutC Z W):Prop:=match q with
 |.ok a s=>r=.ok (e a) (rep s)
 |.exc x s=>r=.exc x (rep s)
 |.bad=>True
def SimS(rep:Z->P1)(e:X->D)(r:SO)(q:FlC Z X):Prop:=match q with
 |.nx s=>r=.nx (rep s)
 |.rt b s=>r=.rt (e b) (rep s)
 |.bk s=>r=.bk (rep s)
 |.ct s=>r=.ct (rep s)
 |.exc x s=>r=.exc x (rep s)
 |.bad=>True
def EJ(rep:Z->P1)(e:W->L)(m:P1->Res L)(c:Z->Res W):Prop:=∀s,SimR e (m (rep s)) (c s)
def NJ(rep:Z->P1)(e:W->L)(m:P1->Out L)(c:Z->OutC Z W):Prop:=∀s,SimO rep e (m (rep s)) (c s)
def TJ(rep:Z->P1)(e:X->D)(m:P1->SO)(c:Z->FlC Z X):Prop:=∀s,SimS rep e (m (rep s)) (c s)
def SimR.bnd{e:W->L}{r:Res L}{q:Res W}{k:L->Res J}{l:W->Res X}(h:SimR e r q)(c:∀a,SimR b (k (e a)) (l a)):SimR b (r.bind k) (q.bind l):=by
 cases q with
 |ok a=>rw[show r=_ from h];exact c a
 |exc x=>rw[show r=_ from h];exact rfl
 |bad=>trivial
@[elab_as_elim] def SimR.el{e:W->L}{r:Res L}{q:Res W}{P:Res L->Res W->Prop}(h:SimR e r q)(ok:∀a,P (.ok (e a)) (.ok a))(exc:∀x,P (.exc x) (.exc x))(bad:∀r,P r .bad):P r q:=by
 cases q with
 |ok a=>rw[show r=_ from h];exact ok a
 |exc x=>rw[show r=_ from h];exact exc x
 |bad=>exact bad r
def SimR.calm{r:Res L}{q:Res W}(h:SimR e r q):SimR e r.calm q.calm:=by
 cases q with
 |ok a=>rw[show r=_ from h];exact rfl
 |exc x=>trivial
 |bad=>trivial
@[simp] def vC(g:Z->Option W):Z->Res W:=λs=>match g s with|some a=>.ok a|none=>.bad
@[simp] def pC(g:Z->W):Z->Res W:=λs=>.ok (g s)
@[simp] def kC(a:W):Z->Res W:=λ_=>.ok a
@[simp] def aI(f:W->Res X)(c:Z->Res W):Z->Res X:=λs=>(c s).bind f
@[simp] def aG(f:W->X->Res L)(a:Z->Res W)(b:Z->Res X):Z->Res L:=λs=>(a s).bind λx=>(b s).bind λy=>f x y
def R6{g:Z->Option W}(h:∀s,rg (rep s) i=(g s).map e):EJ rep e (vr i) (vC g):=λs=>by
 unfold vC vr;rw[h s];cases g s with
 |none=>trivial
 |some a=>exact rfl
def R8{e:W->D}{g:Z->W}(h:∀s,rg (rep s) i=some (e (g s))):EJ rep e (vr i) (pC g):=λs=>by
 unfold vr pC;rw[h s];exact rfl
def t9{e:W->D}(h:e a=d):EJ rep e (ax d) (kC a):=λs=>by subst h;exact rfl
def aD{e:W->D}{F:D->Res D}{f:W->Res X}(h:∀a,SimR b (F (e a)) (f a))(d:EJ rep e m c):EJ rep b (un F m) (aI f c):=λs=>(d s).bnd h
def ae{e:W->D}{e1:X->D}{F:D->D->Res D}{f:W->X->Res L}(h:∀a b,SimR d (F (e a) (e1 b)) (f a b))(j:EJ rep e m c)(i:EJ rep e1 n g):EJ rep d (bn F m n) (aG f c g):=λs=>(j s).bnd λa=>(i s).bnd λb=>h a b
def a9{e:W->D}{f:W->Res X}(h:∀a,SimR d (.ok (e a)) (f a))(b:EJ rep e m c):EJ rep d m (aI f c):=λs=>by
 have b:=b s;unfold aI;cases q:c s with
 |ok a=>rw[q]at b;rw[show m (rep s)=_ from b];exact h a
 |exc x=>rw[q]at b;exact b
 |bad=>trivial
def eN:Unit->D:=λ_=>.non
def eL(e:W->D):List W->D:=λxs=>.lst (xs.map e)
def eS:List Int->D:=λxs=>.scr (xs.map D.int)
def kY(e:W->D):List W->D:=λxs=>.tup (xs.map e)
def js(e:W->D)(a:X->D):W×X->D:=λp=>.tup [e p.1,a p.2]
def u3(e:W->D)(b:X->D)(a:L->D):W×X×L->D:=λp=>.tup [e p.1,b p.2.1,a p.2.2]
def eO(e:W->D):Option W->D:=λo=>match o with|none=>.non|some a=>e a
abbrev eK:Int×Int×List Int->D:=u3 D.int D.int (eL D.int)
@[simp] def fK(o:Option W):Res W:=match o with|some a=>.ok a|none=>.bad
@[simp] def jx(a:W):Res (Option W):=.ok (some a)
@[simp] def Jz(a:W):Res W:=.ok a
def bN(o:Option W):SimR e (.ok (eO e o)) (fK o):=by cases o<;>trivial
def iu{e:W->D}(a:W):SimR (eO e) (.ok (e a)) (jx a):=rfl
def NV{e:W->D}{F:(P1->Res D)->P1->Res D}{m:P1->Res D}(hF:∀T a,m T=.ok (e a)->F m T=.ok (e a))(b:∀T x,m T=.exc x->F m T=.exc x)(h:EJ rep e m c):EJ rep e (F m) c:=λs=>by
 have h:=h s;cases q:c s with
 |ok a=>rw[q]at h;exact hF _ _ h
 |exc x=>rw[q]at h;exact b _ _ h
 |bad=>trivial
def bR{e:W->D}(b:∀a,aW (e a)=true)(h:EJ rep e m c):EJ rep e (lO m) c:=
 NV (F:=lO) (λT a q=>by unfold lO;rw[q];show(if _ then _ else _)=_;rw[if_pos (b a)]) (λT x q=>by unfold lO;rw[q];rfl) h
def l9{e:W->D}(b:∀a,mD (e a)=true)(h:EJ rep e m c):EJ rep e (nk m) c:=
 NV (F:=nk) (λT a q=>by unfold nk;rw[q];show(if _ then _ else _)=_;rw[if_pos (b a)]) (λT x q=>by unfold nk;rw[q];rfl) h
def qJ{e:W->D}(h:∀a,aW (e a)=true)(xs:List W):(xs.map e).all aW=true:=by
 rw[Ai7,ZT];exact λa _=>h a
def tq{e:W->D}(h:∀a,aW (e a)=true)(xs:List W):mD (eL e xs)=true:=qJ h xs
def Kf{e:W->D}(h:∀a,aW (e a)=true)(xs:List W):mD (kY e xs)=true:=qJ h xs
def OE(xs:List Int):mD (eS xs)=true:=qJ (λ_=>rfl) xs
def Ep{e:W->D}(h:∀a,mD (e a)=true)(o:Option W):mD (eO e o)=true:=by
 cases o with
 |none=>rfl
 |some a=>exact h a
def HF{e:W->D}(h:∀a,aW (e a)=true)(o:Option W):aW (eO e o)=true:=by
 cases o with
 |none=>rfl
 |some a=>exact h a
@[simp] def mw(a b:Int):Res Int:=.ok (a+b)
@[simp] def ya(a b:Int):Res Int:=.ok (a-b)
@[simp] def CM(a b:Int):Res Int:=if (-(2 ^ 64)<a/\a<2 ^ 64)\/(-(2 ^ 64)<b/\b<2 ^ 64) then .ok (a*b) else .bad
@[simp] def gy(a b:Int):Res Int:=if 0<b/\b<1073741824 then .ok (a / b) else .bad
@[simp] def dC(a b:Int):Res Int:=if 0<b then .ok (a%b) else .bad
@[simp] def T5(a b:Int):Res Int:=if 0<=b then .ok (a / 2 ^ b.toNat) else .bad
@[simp] def yz(a b:Int):Res Int:=.ok (if b<a then b else a)
@[simp] def yA(a b:Int):Res Int:=.ok (if b>a then b else a)
@[simp] def LM(a b:Int):Res Bool:=.ok (decide (a<b))
@[simp] def Db(a b:Int):Res Bool:=.ok (decide (b<a))
@[simp] def geC(a b:Int):Res Bool:=.ok (decide (b<=a))
@[simp] def CK(a:Int):Res Int:=.ok (-a)
@[simp] def nY(a:Bool):Res Bool:=.ok (!a)
@[simp] def nB[DecidableEq W](neg:Bool)(a b:W):Res Bool:=.ok (neg.xor (decide (a=b)))
def iT(a b:Int):SimR D.int (lF (.int a) (.int b)) (mw a b):=rfl
def rJ(a b:Int):SimR D.int (sX (.int a) (.int b)) (ya a b):=rfl
def SimR.ite{e:W->L}{p:Prop}[Decidable p]{r a:Res L}{q b:Res W}(h:SimR e r q)(h':SimR e a b):SimR e (if p then r else a) (if p then q else b):=by
 by_cases z:p
 ·rw[YG z,YG z];exact h
 ·rw[on z,on z];exact h'
def vm(a b:Int):SimR D.int (tP (.int a) (.int b)) (CM a b):=by rw[FV];exact SimR.ite rfl trivial
def d7(a b:Int):SimR D.int (eC (.int a) (.int b)) (gy a b):=by rw[Dc];exact SimR.ite rfl trivial
def bU(a b:Int):SimR D.int (cX (.int a) (.int b)) (dC a b):=by rw[FY];exact SimR.ite rfl trivial
def Vy(a b:Int):SimR D.int (En (.int a) (.int b)) (T5 a b):=by rw[Em];exact SimR.ite rfl trivial
def vn(a b:Int):SimR D.int (tQ (.int a) (.int b)) (yz a b):=rfl
def vp(a b:Int):SimR D.int (tR (.int a) (.int b)) (yA a b):=rfl
def CH(a b:Int):SimR D.bl (G4 (.int a) (.int b)) (LM a b):=rfl
def yw(a b:Int):SimR D.bl (DS (.int a) (.int b)) (Db a b):=rfl
def Yj(a b:Int):SimR D.bl (XC (.int a) (.int b)) (geC a b):=rfl
def Av(a:Int):SimR D.int (CJ (.int a)) (CK a):=rfl
def Nh(a:Bool):SimR D.bl (Ln (.bl a)) (nY a):=rfl
def gi(neg:Bool)(a b:Int):SimR D.bl (sn neg (.int a) (.int b)) (nB neg a b):=rfl
def Ni(neg:Bool)(a b:Str):SimR D.bl (sn neg (.str a) (.str b)) (nB neg a b):=rfl
@[simp] def kM(neg:Bool)(f:W->Bool)(a:W):Res Bool:=.ok (neg.xor (f a))
def dF{e:W->D}{f:W->Bool}(h:∀a,mN (e a)=f a)(b:EJ rep e m c):EJ rep D.bl (bn (gS neg) m (ax .non)) (aI (kM neg f) c):=λs=>(b s).bnd λa=>by
 show gS neg (e a) .non=.ok (.bl (neg.xor (f a)));rw[<-h a];rfl
@[simp] def kA(o:Option W):Bool:=o.isNone
def gv{e:W->D}(h:∀a,mN (e a)=false)(o:Option W):mN (eO e o)=kA o:=by
 cases o with
 |none=>rfl
 |some a=>exact h a
def am(h:EJ rep D.bl m c):EJ rep (id:Bool->Bool) (b6 m) c:=λs=>by
 have h:=h s;cases q:c s with
 |ok a=>rw[q]at h;have h:m (rep s)=.ok (.bl a):=h;show b6 m (rep s)=.ok a;unfold b6;rw[h];rfl
 |exc x=>rw[q]at h;have h:m (rep s)=.exc x:=h;show b6 m (rep s)=.exc x;unfold b6;rw[h];rfl
 |bad=>trivial
@[simp] def nq(a b:Z->Res Bool):Z->Res Bool:=λs=>(a s).bind λc=>if c=true then b s else .ok false
@[simp] def DN(a b:Z->Res Bool):Z->Res Bool:=λs=>(a s).bind λc=>if c=true then .ok true else b s
def jn(f:EJ rep (id:Bool->Bool) a c)(e:EJ rep (id:Bool->Bool) b d):EJ rep (id:Bool->Bool) (uX a b) (nq c d):=λs=>(f s).bnd λt=>SimR.ite (e s) rfl
def g6(f:EJ rep (id:Bool->Bool) a c)(e:EJ rep (id:Bool->Bool) b d):EJ rep (id:Bool->Bool) (yq a b) (DN c d):=λs=>(f s).bnd λt=>SimR.ite rfl (e s)
def g7(b:EJ rep (id:Bool->Bool) a c):EJ rep (id:Bool->Bool) (qU a) (aI nY c):=λs=>(b s).bnd λt=>rfl
def R9(g:EJ rep D.bl a c)(f:EJ rep D.bl b d):EJ rep D.bl (Jd a b) (nq c d):=λs=>by
 have:=am g s
 exact SimR.bnd (e:=(id:Bool->Bool)) this λt=>SimR.ite (f s) rfl
def Wu(g:EJ rep D.bl a c)(f:EJ rep D.bl b d):EJ rep D.bl (U9 a b) (DN c d):=λs=>by
 have:=am g s
 exact SimR.bnd (e:=(id:Bool->Bool)) this λt=>SimR.ite rfl (f s)
structure Dat (e:W->D) [DecidableEq W] where
 py:W->PyData
 dep:Nat
 h0:∀a,toPy (e a)=some (py a)
 lay:∀a,(py a).canLay0=true
 depth:∀a,(py a).depth<=dep
 eqv:∀a b,PyData.eqv (py a) (py b)=decide (a=b)
 nomix:∀a b,SeqAt.noMix (py a) (py b)=true
def Dat.same[DecidableEq W](A:Dat e)(a b:W):PySem.Spec.same (A.py a) (A.py b)=decide (a=b):=by rw[<-A.eqv,SeqAt.same_eq_eqv _ _ (A.nomix a b)]
def Dat.shp[DecidableEq W](A:Dat e)(hd:A.dep<=64)(a:W):SeqAt.shaped (A.py a)=true:=by
 unfold SeqAt.shaped;rw[A.lay a,Bool.true_and];exact decide_eq_true (Nat.le_trans (A.depth a) hd)
def Aw{e:W->D}[DecidableEq W](A:Dat e)(hd:A.dep<=64)(neg:Bool)(a b:W):SimR D.bl (L4 neg (e a) (e b)) (nB neg a b):=by
 show L4 neg (e a) (e b)=.ok (.bl (neg.xor (decide (a=b))));unfold L4;rw[A.h0,A.h0];show(if _ then _ else _)=_;rw[if_pos ⟨A.shp hd a,A.shp hd b⟩,A.eqv]
@[simp] def HI[DecidableEq W](neg:Bool)(a:W)(l:List W):Res Bool:=.ok (neg.xor (decide (a∈l)))
def rK{e:W->D}[DecidableEq W](A:Dat e)(hd:A.dep<=60)(a:W)(l:List W):SimR D.bl (DQ (e a) (eL e l)) (HI false a l):=by
 have:=(AS A.h0 A.lay (λa=>Ze (A.depth a) hd) A.same A.nomix a l).1
 show DQ (e a) (.lst (l.map e))=.ok (.bl (false.xor (decide (a∈l))));rw[this,Bool.false_xor]
def QI{e:W->D}[DecidableEq W](A:Dat e)(hd:A.dep<=60)(a:W)(l:List W):SimR D.bl (yx (e a) (eL e l)) (HI true a l):=by
 have:=(AS A.h0 A.lay (λa=>Ze (A.depth a) hd) A.same A.nomix a l).2
 show yx (e a) (.lst (l.map e))=.ok (.bl (true.xor (decide (a∈l))));rw[this,Bool.true_xor]
def d4:Dat D.int:=⟨PyData.int,1,λ_=>rfl,λa=>by simp[PyData.canLay0],λa=>by simp[PyData.depth],λa b=>by simp only[PyData.eqv];exact Ad9 _ _,λa b=>by simp[SeqAt.noMix]⟩
def oN{g:W->PyData}[DecidableEq W](h:∀a b,PyData.eqv (g a) (g b)=decide (a=b)):∀t u:List W,PyData.eqvAll (t.map g) (u.map g)=decide (t=u)
 |[],[]=>by simp[PyData.eqvAll]
 |[],_::_=>by simp[PyData.eqvAll]
 |_::_,[]=>by simp[PyData.eqvAll]
 | r::t,q::u=>by
   rw[YI,YI,PyData.eqvAll,h,oN h t u];by_cases d:r=q<;>by_cases c:t=u<;>simp[d,c]
end
section
variable{Z W X L J:Type}{rep:Z->P1}
def kB{g:W->PyData}(h:∀a b,SeqAt.noMix (g a) (g b)=true):∀t u:List W,SeqAt.noMixAll (t.map g) (u.map g)=true
 |[],[]=>by simp[SeqAt.noMixAll]
 |[],_::_=>by simp[SeqAt.noMixAll]
 |_::_,[]=>by simp[SeqAt.noMixAll]
 |r::t,q::u=>by rw[YI,YI,SeqAt.noMixAll,h,kB h t u];rfl
def ou{g:W->PyData}(h:∀a,(g a).canLay0=true):∀l:List W,PyData.canLayAll0 (l.map g)=true
 |[]=>by simp[PyData.canLayAll0]
 |a::l=>by simp[PyData.canLayAll0,h a,ou h l]
def k7{g:W->PyData}(h:∀a,(g a).depth<=n):∀l:List W,PyData.depthAll (l.map g)<=n
 |[]=>by simp[PyData.depthAll]
 |a::l=>by rw[YI,PyData.depthAll];have:=h a;have:=k7 h l;omega
def wc{e:W->D}[DecidableEq W](A:Dat e):Dat (eL e):=⟨λl=>.list (l.map A.py),A.dep+1,λl=>lK A.h0 l,λl=>by rw[PyData.canLay0];exact ou A.lay l,λl=>by rw[PyData.depth];have:=k7 A.depth l;omega,λa b=>by rw[PyData.eqv];exact oN A.eqv a b,λa b=>by rw[SeqAt.noMix];exact kB A.nomix a b⟩
def oU{e:W->D}{c:X->D}[DecidableEq W][DecidableEq X](A:Dat e)(B:Dat c):Dat (js e c):=⟨λp=>.tuple [A.py p.1,B.py p.2],A.dep+B.dep+1,λp=>by
 show(toPys [e p.1,c p.2]).map PyData.tuple=_;rw[toPys,toPys,toPys,A.h0,B.h0];rfl,λp=>by rw[PyData.canLay0];simp[PyData.canLayAll0,A.lay,B.lay],λp=>by
 rw[PyData.depth];simp only[PyData.depthAll];have:=A.depth p.1;have:=B.depth p.2;omega,λa b=>by
 rw[PyData.eqv];simp only[PyData.eqvAll,A.eqv,B.eqv];obtain⟨j,i⟩:=a;obtain⟨h,g⟩:=b
 by_cases f:j=h<;>by_cases d:i=g<;>simp[f,d],λa b=>by rw[SeqAt.noMix];simp[SeqAt.noMixAll,A.nomix,B.nomix]⟩
def kX(h:d≠ .none):PyData.eqv .none d=false/\PyData.eqv d .none=false/\SeqAt.noMix .none d=true/\SeqAt.noMix d .none=true:=by
 cases d with
 |none=>exact absurd rfl h
 |_=>simp[PyData.eqv,SeqAt.noMix]
def A7{e:W->D}[DecidableEq W](A:Dat e)(F:∀a,A.py a≠ .none):Dat (eO e):=⟨λo=>match o with|none=>.none|some a=>A.py a,A.dep+1,λo=>by
 cases o with
 |none=>rfl
 |some a=>exact A.h0 a,λo=>by
 cases o with
 |none=>simp[PyData.canLay0]
 |some a=>exact A.lay a,λo=>by
 cases o with
 |none=>simp[PyData.depth]
 |some a=>exact Ag6 (A.depth a),λa b=>by
 cases a with
 |none=>
   cases b with
   |none=>simp[PyData.eqv]
   |some b=>exact(kX (F b)).1.trans (by simp)
 |some a=>
   cases b with
   |none=>exact(kX (F a)).2.1.trans (by simp)
   |some b=>exact(A.eqv a b).trans (by simp),λa b=>by
 cases a with
 |none=>
   cases b with
   |none=>simp[SeqAt.noMix]
   |some b=>exact(kX (F b)).2.2.1
 |some a=>
   cases b with
   |none=>exact(kX (F a)).2.2.2
   |some b=>exact A.nomix a b⟩
def k8[DecidableEq W](A:Dat e)(a:List W):(wc A).py a≠ .none:=λh=>PyData.noConfusion (show PyData.list (a.map A.py)=.none from h)
@[simp] def vq(_:Unit):Res (Option W):=.ok none
def nC(u:Unit):SimR (eO e) (.ok (eN u)) (vq u):=rfl
@[simp] def Yw(b:Bool)(_:W):Res Bool:=.ok b
def HX{e:W->D}(h:∀a,HE (e a) (.ty n)=.ok (.bl b))(d:EJ rep e m c):EJ rep D.bl (bn HE m (ax (.ty n))) (aI (Yw b) c):=λs=>(d s).bnd λa=>h a
@[simp] def Vx(b a:Bool)(o:Option W):Res Bool:=.ok (match o with|none=>b|some _=>a)
def QG{e:W->D}(h0:HE .non n=.ok (.bl c))(d:∀a,HE (e a) n=.ok (.bl b))(o:Option W):SimR D.bl (HE (eO e o) n) (Vx c b o):=by
 cases o with
 |none=>exact h0
 |some a=>exact d a
@[simp] def fL:Z->Res (List W):=λ_=>.ok []
@[simp] def cw(a:Z->Res W)(r:Z->Res (List W)):Z->Res (List W):=λs=>(a s).bind λx=>(r s).bind λxs=>.ok (x::xs)
def cq:EJ rep (List.map e) aB (fL:Z->Res (List W)):=λs=>rfl
def bB(g:EJ rep e m c)(f:EJ rep (List.map e) n d):EJ rep (List.map e) (aj m n) (cw c d):=λs=>(g s).bnd λa=>(f s).bnd λb=>rfl
@[simp] def qR(c:Z->Res (List W)):Z->Res (List W):=λs=>(c s).bind λxs=>if xs.length<=af then .ok xs else .bad
def cu(h:EJ rep (List.map e) m c):EJ rep (eL e) (jL m) (qR c):=λs=>(h s).bnd λxs=>by rw[YJ];exact SimR.ite rfl trivial
@[simp] def fe(a:Z->Res W)(b:Z->Res X):Z->Res (W×X):=λs=>(a s).bind λx=>(b s).bind λy=>.ok (x,y)
@[simp] def gr(xs:List W):Res Int:=.ok xs.length
def cT(xs:List W):SimR D.int (gq (eL e xs)) (gr xs):=by show Res.ok (D.int _)=Res.ok (D.int _);rw[YJ]
def QN(xs:List Int):SimR D.int (gq (eS xs)) (gr xs):=by show Res.ok (D.int _)=Res.ok (D.int _);rw[YJ]
def Mp(xs:List W)(i:Int):ke (xs.map e) i=(ke xs i).map e:=by
 unfold ke;rw[List.length_map];cases oB xs.length i with
 |none=>rfl
 |some j=>simp only[Option.bind_some,Y5]
@[simp] def jr(xs:List W)(i:Int):Res W:=match ke xs i with|some a=>.ok a|none=>.bad
def zH(xs:List W)(i:Int):SimR e (Mq (xs.map e) i) (jr xs i):=by
 unfold Mq jr;rw[Mp];cases ke xs i<;>trivial
def dW(xs:List W)(i:Int):SimR e (ki (eL e xs) (.int i)) (jr xs i):=zH xs i
def VD(xs:List Int)(i:Int):SimR D.int (ki (eS xs) (.int i)) (jr xs i):=zH xs i
def lP(xs:List W)(i:Int):SimR e (r6 (kY e xs) (.int i)) (jr xs i):=zH xs i
@[simp] def vX(p:W×X):Res W:=.ok p.1
@[simp] def OD(p:W×X):Res X:=.ok p.2
@[simp] def vF(p:W×X×L):Res X:=.ok p.2.1
@[simp] def D1(p:W×X×L):Res L:=.ok p.2.2
def fk{e:W->D}{F:D->D->Res D}{f:W->Res X}(h:∀a,SimR b (F (e a) k) (f a))(d:EJ rep e m c):EJ rep b (bn F m (ax k)) (aI f c):=λs=>(d s).bnd λa=>h a
def VB(p:W×X):SimR e (r6 (js e a p) (.int 0)) (vX p):=rfl
def VA(p:W×X):SimR a (r6 (js e a p) (.int 1)) (OD p):=rfl
def Yi(p:W×X×L):SimR e (r6 (u3 e b a p) (.int 0)) (vX p):=rfl
def Yh(p:W×X×L):SimR b (r6 (u3 e b a p) (.int 1)) (vF p):=rfl
def Yg(p:W×X×L):SimR a (r6 (u3 e b a p) (.int 2)) (D1 p):=rfl
@[simp] def qW(xs a:List W):Res (List W):=if xs.length+a.length<=af then .ok (xs++a) else .bad
def Ax(xs a:List W):SimR (eL e) (zB (eL e xs) (eL e a)) (qW xs a):=by
 show SimR (eL e) (if (xs.map e).length+(a.map e).length<=af then .ok (.lst (xs.map e++a.map e)) else .bad) (qW xs a);rw[YJ,YJ];exact SimR.ite (by show Res.ok (D.lst _)=Res.ok (D.lst _);rw[Zr]) trivial
def QL(xs:List W):SimR (eL e) (lU (eL e xs)) (Jz xs):=rfl
def Lj(xs:List W):SimR (eL e) (lU (kY e xs)) (Jz xs):=rfl
def vk(xs:List W):SimR (kY e) (xT (eL e xs)) (Jz xs):=rfl
noncomputable def Kl(xs:List W)(k:Int):Res (List W):=@ite _ ((0<=k/\k<=1000000)/\xs.length*k.toNat<=af) (Classical.propDecidable _) (.ok (List.replicate k.toNat xs).flatten) .bad
def EK{xs:List W}{k:Int}(h0:0<=k)(b:k<=1000000)(a:xs.length*k.toNat<=af):Kl xs k=.ok (List.replicate k.toNat xs).flatten:=by unfold Kl;rw[if_pos ⟨⟨h0,b⟩,a⟩]
def AC{e:W->L}(xs:List W):∀k:Nat,(List.replicate k (xs.map e)).flatten=((List.replicate k xs).flatten).map e
 |0=>rfl
 |k+1=>by rw[Zs,Zs,ZK,ZK,Zr,AC xs k]
def Vz(xs:List W)(k:Int):SimR (eL e) (yk (eL e xs) (.int k)) (Kl xs k):=by
 show SimR _ (if (0<=k/\k<=1000000)/\(xs.map e).length*k.toNat<=af then Res.ok (D.lst (List.replicate k.toNat (xs.map e)).flatten) else Res.bad) _;rw[YJ,AC];by_cases h:(0<=k/\k<=1000000)/\xs.length*k.toNat<=af
 ·rw[YG h,EK h.1.1 h.1.2 h.2];rfl
 ·unfold Kl;rw[if_neg h,if_neg h];trivial
@[simp] def ce(p:W×W):Res (List W):=.ok [p.1,p.2]
def bv(p:W×W):SimR (kY e) (.ok (js e e p)) (ce p):=rfl
@[simp] def ud(neg:Bool)(k:List Int)(F:DI X):Res Bool:=.ok (neg.xor (F.get k).isSome)
@[simp] def Sa(F:DI X)(k:List Int):Res X:=match F.get k with|some b=>.ok b|none=>.bad
@[simp] def Yu(F:DI X)(k:List Int)(x:X):Res X:=.ok ((F.get k).getD x)
@[simp] def Wv(F:DI X)(k:List Int):Res (Option X):=.ok (F.get k)
def rL(neg:Bool)(k:List Int)(F:DI X):SimR D.bl (mh neg (kY D.int k) (aP e F)) (ud neg k F):=by
 show mh neg (.tup (k.map D.int)) (aP e F)=.ok (.bl (neg.xor (F.get k).isSome));unfold mh;rw[gw];simp
def tM(F:DI X)(k:List Int):SimR e (k6 (aP e F) (kY D.int k)) (Sa F k):=by
 show SimR e (k6 (aP e F) (.tup (k.map D.int))) _;unfold k6 Sa;rw[gw];cases F.get k<;>trivial
@[simp] def HN(b:Z->Res (DI X))(ck:Z->Res (List Int))(a:Z->Res X):Z->Res X:=λs=>(b s).bind λF=>(ck s).bind λk=>(a s).bind λx=>Yu F k x
def AY(h:EJ rep (aP e) b d)(g:EJ rep (kY D.int) mk ck)(f:EJ rep e a c):
 EJ rep e (vW b mk a) (HN d ck c):=λs=>(h s).bnd λF=>by
 show SimR e (if true=true then _ else _) _;rw[if_pos rfl];refine(g s).bnd λk=>(f s).bnd λx=>?_;show ga (aP e F) (.tup (k.map D.int)) (e x)=.ok (e ((F.get k).getD x));unfold ga;rw[gw];cases F.get k<;>rfl
def L7(d:EJ rep (aP e) a b)(c:EJ rep (kY D.int) mk ck):EJ rep (eO e) (sj a mk) (aG Wv b ck):=λs=>(d s).bnd λF=>by
 show SimR (eO e) (if true=true then _ else _) _;rw[if_pos rfl];refine(c s).bnd λk=>?_;show ga (aP e F) (.tup (k.map D.int)) .non=.ok (eO e (F.get k));unfold ga;rw[gw];cases F.get k<;>rfl
@[simp] def rY(F:DI X):Res (List (List Int)):=.ok (F.map (·.1))
def FO(F:DI X):SimR (eL (kY D.int)) (AO (aP e F)) (rY F):=by
 show Res.ok (D.lst ((F.map λp=>p.1.map (Sum.inl:Int->aH)).map λk=>.tup (k.map kD)))=Res.ok (D.lst ((F.map (·.1)).map (kY D.int)));rw[Zt,Zt];refine congrArg (λz=>Res.ok (D.lst z)) (ZQ λp _=>?_);show D.tup ((p.1.map (Sum.inl:Int->aH)).map kD)=D.tup (p.1.map D.int);rw[Zt];rfl
@[simp] def Hc(xs:List Int)(d:Int):Res Int:=.ok (match xs with | []=>d|x::r=>da r x)
@[simp] def Nk(xs:List Int)(d:Int):Res Int:=.ok (match xs with | []=>d|x::r=>gj r x)
def dE:∀l:List Int,bX (l.map D.int)=some l
 |[]=>rfl
 |x::l=>by rw[YI,bX,dE l];rfl
def Lk(xs:List Int)(d:Int):SimR D.int (oM da (eL D.int xs) (.int d)) (Hc xs d):=by
 show oM da (.lst (xs.map D.int)) (.int d)=_;unfold oM;dsimp only;rw[dE];cases xs<;>rfl
def QJ(xs:List Int)(d:Int):SimR D.int (oM gj (eL D.int xs) (.int d)) (Nk xs d):=by
 show oM gj (.lst (xs.map D.int)) (.int d)=_;unfold oM;dsimp only;rw[dE];cases xs<;>rfl
@[simp] def tV(xs:List Int):Res Int:=if xs.length<4000 then .ok (dd xs).length else .bad
def FN(xs:List Int):SimR D.int (ot (eL D.int xs)) (tV xs):=by
 show SimR D.int (ot (.lst (xs.map D.int))) _;unfold ot tV;dsimp only;rw[dE];exact SimR.ite rfl trivial
def m8:∀l:List Bool,ir (l.map D.bl)=some l
 |[]=>rfl
 |x::l=>by rw[YI,ir,m8 l];rfl
@[simp] def Xa(xs:List Bool):Res Bool:=.ok (xs.any id)
def VH(xs:List Bool):SimR D.bl (re (eL D.bl xs)) (Xa xs):=by
 show re (.lst (xs.map D.bl))=_;unfold re;dsimp only;rw[m8]
def oy(k:Int×Int×List Int):ni (eK k)=some k:=by
 show(bX (k.2.2.map D.int)).map (λns=>(k.1,k.2.1,ns))=some k;rw[dE];rfl
@[simp] def Wh(a b:Int×Int×List Int):Res Bool:=.ok (bg a b)
def VC(a b:Int×Int×List Int):SimR D.bl (TN (eK a) (eK b)) (Wh a b):=by
 show TN (eK a) (eK b)=.ok (.bl (bg a b));unfold TN;rw[oy,oy];rfl
def rX:∀l:List (Int×Int×List Int),gu (l.map eK)=some l
 |[]=>rfl
 |k::l=>by rw[YI,gu,oy,rX l]
def ff:List (Int×Int×List Int)->Option (Int×Int×List Int)
 |[]=>none
 |k::r=>some (r.foldl (λb x=>if bg x b=true then x else b) k)
def mo(a:Nat->Nat->Bool)(n:Nat):PySem.argBest a (n+1)=if a (n+1) (PySem.argBest a n)=true then n+1 else PySem.argBest a n:=rfl
def uW:∀(n:Nat) (k:Int×Int×List Int) (r:List (Int×Int×List Int)),r.length=n->
 (k::r)[PySem.argBest (λi j=>bg ((k::r).getD i (0,0,[])) ((k::r).getD j (0,0,[]))) n]?=ff (k::r):=by
 intro n
 induction n with
 |zero=>
   intro k r h
   have:r=[]:=Zi.mp h
   subst this;rfl
 |succ n l=>
   intro k r h
   obtain⟨q,x,rfl⟩:∃q x,r=q++[x]:=by
    rcases List.eq_nil_or_concat r with z|⟨q,x,z⟩
    ·subst z;cases h
    ·exact⟨q,x,by rw[z,List.concat_eq_append]⟩
   have e:q.length=n:=by simpa using h
   have a:=l k q e
   have g:∀i,i<=n->(k::(q++[x])).getD i (0,0,[])=(k::q).getD i (0,0,[]):=λi hi=>by
    rw[<-Ab0,Y0,Y0,Zy (by simp;omega)]
   have p:∀m,m<=n->PySem.argBest (λi j=>bg ((k::(q++[x])).getD i (0,0,[])) ((k::(q++[x])).getD j (0,0,[]))) m=PySem.argBest (λi j=>bg ((k::q).getD i (0,0,[])) ((k::q).getD j (0,0,[]))) m:=by
    intro m
    induction m with
    |zero=>intro _;rfl
    |succ m d=>
      intro o;rw[mo,mo,d (by omega)];have f:=kg (λi j=>bg ((k::q).getD i (0,0,[])) ((k::q).getD j (0,0,[]))) m;rw[g (m+1) o,g _ (by omega)]
   rw[mo,p n (YY _)];have f:=kg (λi j=>bg ((k::q).getD i (0,0,[])) ((k::q).getD j (0,0,[]))) n;generalize PySem.argBest (λi j=>bg ((k::q).getD i (0,0,[])) ((k::q).getD j (0,0,[]))) n=b at a f
   have e1:(k::(q++[x])).getD (n+1) (0,0,[])=x:=by
    rw[Z0,Y0,Zu (by omega),e,Ae9];rfl
   rw[e1,g b f]
   have c:ff (k::q)=some ((k::q).getD b (0,0,[])):=by
    rw[<-a,Y0,Y1 (by simp;omega)];rfl
   unfold ff at c ⊢;dsimp only at c ⊢;injection c with c
   rw[List.foldl_append,Ab6,List.foldl_nil,c];by_cases z:bg x ((k::q).getD b (0,0,[]))=true
   ·rw[YG z,YG z,Ab1,Zu (by omega),e,Ae9];rfl
   ·rw[on z,on z,<-Ab0,Zy (by simp;omega),Y1 (by simp;omega),Y0,Y1 (by simp;omega)];rfl
@[simp] def Nm(xs:List (Int×Int×List Int)):Res (Option (Int×Int×List Int)):=.ok (ff xs)
def QK(xs:List (Int×Int×List Int)):SimR (eO eK) (vE (eL eK xs) .non) (Nm xs):=by
 cases xs with
 |nil=>rfl
 |cons k r=>
   have a:gu (eK k::r.map eK)=some (k::r):=rX (k::r);show vE (.lst (eK k::r.map eK)) .non=.ok (eO eK (ff (k::r)));simp only[vE,a];rw[YJ,show eK k::r.map eK=(k::r).map eK from rfl,Y5,uW _ k r rfl];rfl
end
section
variable{Z σ' W X L J:Type}{rep:Z->P1}{Y:σ'->P1}
def Uv(rep:Z->P1)(e:W->D)(a:List Nat):W×Z->P1:=λp=>some (e p.1)::dH (rep p.2) a
def il(b:W->Res Bool)(te:W->Res X):List W->Res (List X)
 |[]=>.ok []
 |a::r=>(b a).calm.bind λc=>if c=true then (te a).calm.bind λx=>(il b te r).bind λxs=>.ok (x::xs) else il b te r
def cP(src:Z->Res (List W))(b:W×Z->Res Bool)(te:W×Z->Res X):Z->Res (List X):=λs=>(src s).bind λxs=>if xs.length<af then il (λa=>b (a,s)) (λa=>te (a,s)) xs else .bad
def dO{e:W->D}{i:X->D}{f:List Nat}{src:P1->Res (List D)}{g:P1->Res Bool}{te:P1->Res D}{b:Z->Res (List W)}{c:W×Z->Res Bool}{d:W×Z->Res X}
 (m:EJ rep (List.map e) src b) (k:EJ (Uv rep e f) (id:Bool->Bool) g c) (n:EJ (Uv rep e f) i te d):EJ rep (eL i) (eJ src f g te) (cP b c d):=λs=>(m s).bnd λxs=>by
 rw[YJ];refine SimR.ite ?_ trivial
 have h:∀l:List W,SimR (List.map i) (bo g te (dH (rep s) f) (l.map e)) (il (λa=>c (a,s)) (λa=>d (a,s)) l):=by
  intro l
  induction l with
  |nil=>rfl
  |cons a l j=>
    rw[List.map_cons];unfold bo il;refine SimR.bnd (k (a,s)).calm λt=>SimR.ite (SimR.bnd (n (a,s)).calm λx=>SimR.bnd j λxs=>?_) j;rfl
 have:=h xs
 exact SimR.el this (λ_=>rfl) (λ_=>rfl) λ_=>trivial
def oO:EJ rep (id:Bool->Bool) (λ_=>.ok true) (λ_=>.ok true):=λs=>rfl
def bZ(h:EJ rep (eL e) m c):EJ rep (List.map e) (fJ m) c:=λs=>by
 have h:=h s;unfold fJ;exact SimR.el h (λ_=>rfl) (λ_=>rfl) λ_=>trivial
def cc(lo hi:Int):List Int:=(List.range (hi-lo).toNat).map λi:Nat=>lo+i
noncomputable def gM(lo hi:Int):Res (List Int):=@ite _ (-(2 ^ 62)<=lo/\lo<2 ^ 62/\-(2 ^ 62)<=hi/\hi<2 ^ 62) (Classical.propDecidable _) (.ok (cc lo hi)) .bad
def Kj(lo hi:Int):(cc lo hi).map D.int=rng lo hi:=by unfold cc rng;rw[List.map_map];rfl
def c6{lo:Int}(d:-(2 ^ 62)<=lo)(c:lo<2 ^ 62)(b:-(2 ^ 62)<=hi)(a:hi<2 ^ 62):gM lo hi=.ok (cc lo hi):=by unfold gM;rw[if_pos ⟨d,c,b,a⟩]
def yR(f:EJ rep D.int a d)(e:EJ rep D.int b c):EJ rep (List.map D.int) (yb a b) (aG gM d c):=λs=>(f s).bnd λi=>(e s).bnd λj=>by
 show SimR _ (if -(2 ^ 62)<=i/\i<2 ^ 62/\-(2 ^ 62)<=j/\j<2 ^ 62 then _ else _) _;by_cases h:-(2 ^ 62)<=i/\i<2 ^ 62/\-(2 ^ 62)<=j/\j<2 ^ 62
 ·rw[YG h,c6 h.1 h.2.1 h.2.2.1 h.2.2.2];exact congrArg Res.ok (Kj i j).symm
 ·unfold gM;rw[if_neg h,if_neg h];trivial
def fY(d:EJ rep D.int b c):EJ rep (List.map D.int) (dR b) (aI (gM 0) c):=λs=>yR (t9 (a:=(0:Int)) rfl) d s
def OutC.res:OutC Z W->Res W
 |.ok a _=>.ok a
 |.exc x _=>.exc x
 |.bad=>.bad
@[simp] def yi(a:W)(s:Z):(OutC.ok a s).res=.ok a:=rfl
@[simp] def Xq(x:Nat)(s:Z):(OutC.exc x s:OutC Z W).res=.exc x:=rfl
@[simp] def Xr:(OutC.bad:OutC Z W).res=.bad:=rfl
@[simp] def bndO(r:Res W)(s:Z)(k:W->OutC Z X):OutC Z X:=match r with
 |.ok a=>k a
 |.exc x=>.exc x s
 |.bad=>.bad
def SimO.res{b:List D->Out D}{q:OutC Z W}(h:SimO rep e (b ds) q):SimR e (fG b ds) q.res:=by
 unfold fG;cases q with
 |ok a s=>rw[show b ds=_ from h];rfl
 |exc x s=>rw[show b ds=_ from h];rfl
 |bad=>trivial
def SimO.bndO{e:W->L}{r:Res L}{k:L->P1->Out J}{l:W->OutC Z X}(h:SimR e r q)(c:∀a,SimO rep b (k (e a) (rep s)) (l a)):SimO rep b ((r.up (rep s)).bind k) (Cl.bndO q s l):=by
 cases q with
 |ok a=>rw[show r=_ from h];exact c a
 |exc x=>rw[show r=_ from h];exact rfl
 |bad=>trivial
@[simp] def TZ(w:σ'->Z->Z)(s:Z):OutC σ' W->OutC Z W
 |.ok a b=>.ok a (w b s)
 |.exc x b=>.exc x (w b s)
 |.bad=>.bad
def SimO.wb{d:List D->Out D}{w:σ'->Z->Z}(f:∀c s,cy b 0 (Y c) (rep s)=rep (w c s))(h:SimO Y e (d ds) q)(s:Z):SimO rep e (bV b d ds (rep s)) (TZ w s q):=by
 unfold bV;cases q with
 |ok a c=>rw[show d ds=_ from h];show Out.ok _ _=Out.ok _ _;rw[f]
 |exc x c=>rw[show d ds=_ from h];show Out.exc _ _=Out.exc _ _;rw[f]
 |bad=>trivial
def kq{e:W->D}{r:P1->Res (List D)}{k:List D->Res J}{c:Z->Res W}{l:W->Res L}(h:EJ rep e m c)(g:∀x,SimR eR ((r (rep s)).bind λds=>k (e x::ds)) (l x)):SimR eR ((aj m r (rep s)).bind k) ((c s).bind l):=by
 have h:=h s;unfold aj;refine SimR.el h (λx=>?_) (λ_=>rfl) λ_=>trivial;have g:=g x;simp only[Res.bind];cases z:r (rep s)<;>rw[z]at g<;>exact g
def Jy{e:W->D}{r:P1->Res (List D)}{k:List D->P1->Out J}{c:Z->Res W}{l:W->OutC Z L}(h:EJ rep e m c)(g:∀x,SimO rep eR (((r (rep s)).up (rep s)).bind λds T=>k (e x::ds) T) (l x)):SimO rep eR (((aj m r (rep s)).up (rep s)).bind k) (bndO (c s) s l):=by
 have h:=h s;unfold aj;refine SimR.el h (λx=>?_) (λ_=>rfl) λ_=>trivial;have g:=g x;simp only[Res.bind];cases z:r (rep s)<;>rw[z]at g<;>exact g
def Ml{r:Res W}{f:W->Res X}:(r.bind f).bind g=r.bind λx=>(f x).bind g:=by cases r<;>rfl
def aQ(h:EJ rep e m c)(g:EJ rep f n d):EJ rep (js e f) (iW (aj m (aj n aB))) (fe c d):=λs=>kq h λa=>kq g λb=>by simp only[aB,Res.bind];rw[YG (by show 2<=af;decide)];rfl
def t8(k:EJ rep e m c)(j:EJ rep h n d)(i:EJ rep g o f):EJ rep (u3 e h g) (iW (aj m (aj n (aj o aB)))) (fe c (fe d f)):=λs=>kq k λa=>by
 show SimR _ _ (((d s).bind λy=>(f s).bind λz=>.ok (y,z)).bind λy=>.ok (a,y));rw[Ml];exact kq j λb=>by rw[Ml];exact kq i λz=>by simp only[aB,Res.bind];rw[YG (by show 3<=af;decide)];rfl
def Fc{e:W->D}{r:P1->Res (List D)}{q:Z->Res W}{l:W->Res L}(f:∀a,bq c b (e a)=true)(h:EJ rep e m q)(g:∀x,SimR eR ((r (rep s)).bind λds=>fG d (e x::ds)) (l x)):SimR eR (pm c b d m r (rep s)) ((q s).bind l):=(h s).bnd λx=>by rw[YG (f x)];exact g x
def AA{e:W->D}{r:P1->Res (List D)}{q:Z->Res W}{l:W->OutC Z L}(i:∀a,bq c d (e a)=true)(h:EJ rep e m q)(g:∀x,SimO rep eR (((r (rep s)).up (rep s)).bind λds T=>bV b f (e x::ds) T) (l x)):SimO rep eR (mm c d b f m r (rep s)) (bndO (q s) s l):=SimO.bndO (h s) λx=>by rw[YG (i x)];exact g x
variable{α0 α1 α2 α3 α4 α5:Type}{e0:α0->D}{e1:α1->D}{e2:α2->D}{e3:α3->D}{e4:α4->D}{e5:α5->D}{m0 m1 m2 m3 m4 m5:P1->Res D}{c0:Z->Res α0}{c1:Z->Res α1}{c2:Z->Res α2}{c3:Z->Res α3}{c4:Z->Res α4}{c5:Z->Res α5}{eR:L->D}{fm:List D->Out D}{w:σ'->Z->Z}{plan:List Ap}{c:Nat}{mn:Str}
@[simp] def jI(f:α0->OutC σ' L)(c0:Z->Res α0):Z->Res L:=λs=>(c0 s).bind λa=>(f a).res
@[simp] def We(f:α0->OutC σ' L)(w:σ'->Z->Z)(c0:Z->Res α0):Z->OutC Z L:=λs=>bndO (c0 s) s λa=>TZ w s (f a)
@[simp] def KJ(f:α0->Res L)(c0:Z->Res α0):Z->Res L:=λs=>(c0 s).bind λa=>f a
def t7{f:α0->OutC σ' L}(b:∀a,SimO Y eR (fm [e0 a]) (f a))(h0:EJ rep e0 m0 c0):EJ rep eR (pc fm (aj m0 aB)) (jI f c0):=λs=>kq h0 λa=>(b a).res
def yS{f:α0->Res L}(b:∀a,SimR eR (gm c fm [e0 a]) (f a))(h0:EJ rep e0 m0 c0):EJ rep eR (pk c fm (aj m0 aB)) (KJ f c0):=λs=>kq h0 λa=>b a
def jQ{f:α0->OutC σ' L}(d:∀a,bq c mn (e0 a)=true)(e:∀b,SimO Y eR (fm [e0 b]) (f b))(h0:EJ rep e0 m0 c0):EJ rep eR (pm c mn fm m0 aB) (jI f c0):=λs=>Fc d h0 λb=>(e b).res
def QP{f:α0->OutC σ' L}(g:∀a,bq c mn (e0 a)=true)(e:∀d s,cy plan 0 (Y d) (rep s)=rep (w d s))(h:∀b,SimO Y eR (fm [e0 b]) (f b))(h0:EJ rep e0 m0 c0):NJ rep eR (mm c mn plan fm m0 aB) (We f w c0):=λs=>AA g h0 λb=>SimO.wb e (h b) s
@[simp] def bK(f:α0->α1->OutC σ' L)(c0:Z->Res α0)(c1:Z->Res α1):Z->Res L:=λs=>(c0 s).bind λb=>(c1 s).bind λa=>(f b a).res
@[simp] def CT(f:α0->α1->OutC σ' L)(w:σ'->Z->Z)(c0:Z->Res α0)(c1:Z->Res α1):Z->OutC Z L:=λs=>bndO (c0 s) s λb=>bndO (c1 s) s λa=>TZ w s (f b a)
@[simp] def Ph(f:α0->α1->Res L)(c0:Z->Res α0)(c1:Z->Res α1):Z->Res L:=λs=>(c0 s).bind λb=>(c1 s).bind λa=>f b a
def Ut{eR:L->J}{k:List D->Res J}{f:α0->α1->Res L}(c:∀b a,SimR eR (k [e0 b,e1 a]) (f b a))(h0:EJ rep e0 m0 c0)(d:EJ rep e1 m1 c1):EJ rep eR (λT=>(((aj m0 (aj m1 aB))) T).bind k) (Ph f c0 c1):=λs=>kq h0 λb=>kq d λa=>c b a
def bF{f:α0->α1->OutC σ' L}(c:∀b a,SimO Y eR (fm [e0 b,e1 a]) (f b a))(h0:EJ rep e0 m0 c0)(d:EJ rep e1 m1 c1):EJ rep eR (pc fm (aj m0 (aj m1 aB))) (bK f c0 c1):=λs=>kq h0 λb=>kq d λa=>(c b a).res
def dh{f:α0->α1->OutC σ' L}(e:∀a,bq c mn (e0 a)=true)(g:∀d b,SimO Y eR (fm [e0 d,e1 b]) (f d b))(h0:EJ rep e0 m0 c0)(h:EJ rep e1 m1 c1):EJ rep eR (pm c mn fm m0 (aj m1 aB)) (bK f c0 c1):=λs=>Fc e h0 λd=>kq h λb=>(g d b).res
def n6{f:α0->α1->OutC σ' L}(h:∀a,bq c mn (e0 a)=true)(g:∀e s,cy plan 0 (Y e) (rep s)=rep (w e s))(i:∀d b,SimO Y eR (fm [e0 d,e1 b]) (f d b))(h0:EJ rep e0 m0 c0)(j:EJ rep e1 m1 c1):NJ rep eR (mm c mn plan fm m0 (aj m1 aB)) (CT f w c0 c1):=λs=>AA h h0 λd=>Jy j λb=>SimO.wb g (i d b) s
@[simp] def iF(f:α0->α1->α2->OutC σ' L)(c0:Z->Res α0)(c1:Z->Res α1)(c2:Z->Res α2):Z->Res L:=λs=>(c0 s).bind λc=>(c1 s).bind λb=>(c2 s).bind λa=>(f c b a).res
@[simp] def lR(f:α0->α1->α2->OutC σ' L)(w:σ'->Z->Z)(c0:Z->Res α0)(c1:Z->Res α1)(c2:Z->Res α2):Z->OutC Z L:=λs=>bndO (c0 s) s λc=>bndO (c1 s) s λb=>bndO (c2 s) s λa=>TZ w s (f c b a)
def jR{f:α0->α1->α2->OutC σ' L}(d:∀c b a,SimO Y eR (fm [e0 c,e1 b,e2 a]) (f c b a))(h0:EJ rep e0 m0 c0)(g:EJ rep e1 m1 c1)(e:EJ rep e2 m2 c2):EJ rep eR (pc fm (aj m0 (aj m1 (aj m2 aB)))) (iF f c0 c1 c2):=λs=>kq h0 λc=>kq g λb=>kq e λa=>(d c b a).res
def l8{f:α0->α1->α2->OutC σ' L}(g:∀a,bq c mn (e0 a)=true)(h:∀e d b,SimO Y eR (fm [e0 e,e1 d,e2 b]) (f e d b))(h0:EJ rep e0 m0 c0)(j:EJ rep e1 m1 c1)(i:EJ rep e2 m2 c2):EJ rep eR (pm c mn fm m0 (aj m1 (aj m2 aB))) (iF f c0 c1 c2):=λs=>Fc g h0 λe=>kq j λd=>kq i λb=>(h e d b).res
def d8{f:α0->α1->α2->OutC σ' L}(i:∀a,bq c mn (e0 a)=true)(h:∀g s,cy plan 0 (Y g) (rep s)=rep (w g s))(j:∀e d b,SimO Y eR (fm [e0 e,e1 d,e2 b]) (f e d b))(h0:EJ rep e0 m0 c0)(l:EJ rep e1 m1 c1)(k:EJ rep e2 m2 c2):NJ rep eR (mm c mn plan fm m0 (aj m1 (aj m2 aB))) (lR f w c0 c1 c2):=λs=>AA i h0 λe=>Jy l λd=>Jy k λb=>SimO.wb h (j e d b) s
@[simp] def PB(f:α0->α1->α2->α3->OutC σ' L)(c0:Z->Res α0)(c1:Z->Res α1)(c2:Z->Res α2)(c3:Z->Res α3):Z->Res L:=λs=>(c0 s).bind λd=>(c1 s).bind λc=>(c2 s).bind λb=>(c3 s).bind λa=>(f d c b a).res
@[simp] def Lz(f:α0->α1->α2->α3->OutC σ' L)(w:σ'->Z->Z)(c0:Z->Res α0)(c1:Z->Res α1)(c2:Z->Res α2)(c3:Z->Res α3):Z->OutC Z L:=λs=>bndO (c0 s) s λd=>bndO (c1 s) s λc=>bndO (c2 s) s λb=>bndO (c3 s) s λa=>TZ w s (f d c b a)
def HW{f:α0->α1->α2->α3->OutC σ' L}(e:∀d c b a,SimO Y eR (fm [e0 d,e1 c,e2 b,e3 a]) (f d c b a))(h0:EJ rep e0 m0 c0)(i:EJ rep e1 m1 c1)(h:EJ rep e2 m2 c2)(g:EJ rep e3 m3 c3):EJ rep eR (pc fm (aj m0 (aj m1 (aj m2 (aj m3 aB))))) (PB f c0 c1 c2 c3):=λs=>kq h0 λd=>kq i λc=>kq h λb=>kq g λa=>(e d c b a).res
def QQ{f:α0->α1->α2->α3->OutC σ' L}(g:∀e s,cy plan 0 (Y e) (rep s)=rep (w e s))(h:∀d c b a,SimO Y eR (fm [e0 d,e1 c,e2 b,e3 a]) (f d c b a))(h0:EJ rep e0 m0 c0)(k:EJ rep e1 m1 c1)(j:EJ rep e2 m2 c2)(i:EJ rep e3 m3 c3):NJ rep eR (mc plan fm (aj m0 (aj m1 (aj m2 (aj m3 aB))))) (Lz f w c0 c1 c2 c3):=λs=>Jy h0 λd=>Jy k λc=>Jy j λb=>Jy i λa=>SimO.wb g (h d c b a) s
def QO{f:α0->α1->α2->α3->OutC σ' L}(j:∀a,bq c mn (e0 a)=true)(i:∀h s,cy plan 0 (Y h) (rep s)=rep (w h s))(k:∀g e d b,SimO Y eR (fm [e0 g,e1 e,e2 d,e3 b]) (f g e d b))(h0:EJ rep e0 m0 c0)(n:EJ rep e1 m1 c1)(m:EJ rep e2 m2 c2)(l:EJ rep e3 m3 c3):NJ rep eR (mm c mn plan fm m0 (aj m1 (aj m2 (aj m3 aB)))) (Lz f w c0 c1 c2 c3):=λs=>AA j h0 λg=>Jy n λe=>Jy m λd=>Jy l λb=>SimO.wb i (k g e d b) s
@[simp] def K4(f:α0->α1->α2->α3->α4->OutC σ' L)(c0:Z->Res α0)(c1:Z->Res α1)(c2:Z->Res α2)(c3:Z->Res α3)(c4:Z->Res α4):Z->Res L:=λs=>(c0 s).bind λe=>(c1 s).bind λd=>(c2 s).bind λc=>(c3 s).bind λb=>(c4 s).bind λa=>(f e d c b a).res
def yT{f:α0->α1->α2->α3->α4->OutC σ' L}(g:∀e d c b a,SimO Y eR (fm [e0 e,e1 d,e2 c,e3 b,e4 a]) (f e d c b a))(h0:EJ rep e0 m0 c0)(k:EJ rep e1 m1 c1)(j:EJ rep e2 m2 c2)(i:EJ rep e3 m3 c3)(h:EJ rep e4 m4 c4):EJ rep eR (pc fm (aj m0 (aj m1 (aj m2 (aj m3 (aj m4 aB)))))) (K4 f c0 c1 c2 c3 c4):=λs=>kq h0 λe=>kq k λd=>kq j λc=>kq i λb=>kq h λa=>(g e d c b a).res
end
section
variable{Z σ' W X L J:Type}{rep:Z->P1}{eR:X->D}
@[simp] def aA(c:Z->Res W):Z->OutC Z W:=λs=>match c s with
 |.ok a=>.ok a s
 |.exc x=>.exc x s
 |.bad=>.bad
def ac(h:EJ rep e m c):NJ rep e (ar m) (aA c):=λs=>by
 have h:=h s;unfold aA ar;refine SimR.el h (λa=>?_) (λ_=>rfl) λ_=>trivial;rfl
@[simp] def uV(o:OutC Z W)(k:W->Z->OutC Z X):OutC Z X:=match o with
 |.ok a s=>k a s
 |.exc x s=>.exc x s
 |.bad=>.bad
def SimO.bd{e:W->L}{r:Out L}{k:L->P1->Out J}{l:W->Z->OutC Z X}(h:SimO rep e r q)(c:∀a s,SimO rep b (k (e a) (rep s)) (l a s)):SimO rep b (r.bind k) (uV q l):=by
 cases q with
 |ok a s=>rw[show r=_ from h];exact c a s
 |exc x s=>rw[show r=_ from h];exact rfl
 |bad=>trivial
def iV{e:W->D}{c:Z->OutC Z W}{f:W->Res X}(h:∀a,SimR i (.ok (e a)) (f a))(d:NJ rep e m c):NJ rep i m (λs=>uV (c s) λa s=>bndO (f a) s λb=>.ok b s):=λs=>by
 have d:=d s;dsimp only;cases q:c s with
 |ok a g=>
   rw[q]at d;rw[show m (rep s)=_ from d]
   have:=h a
   show SimO rep i (.ok (e a) (rep g)) (bndO (f a) g λb=>.ok b g);cases j:f a with
   |ok b=>rw[j]at this;have this:Res.ok (e a)=.ok (i b):=this;injection this with this;rw[this];rfl
   |exc x=>rw[j]at this;cases this
   |bad=>trivial
 |exc x g=>rw[q]at d;exact d
 |bad=>trivial
@[simp] def CL(g:Z->Option W)(b:Z->Z):Z->OutC Z W:=λs=>match g s with|some a=>.ok a (b s)|none=>.bad
def iU{g:Z->Option W}{b:Z->Z}(h:∀s,rg (rep s) i=(g s).map e)(c:∀s,(rep s).set i none=rep (b s)):NJ rep e (xM i) (CL g b):=λs=>by
 unfold xM CL;rw[h s];cases g s with
 |none=>trivial
 |some a=>show Out.ok _ _=Out.ok _ _;rw[c]
@[simp] def NR(g:Z->Option (List W))(p:Z->List W->Z)(f:List W->J->Option (L×List W))(c:Z->Res J):Z->OutC Z L:=λs=>match g s with
 |none=>.bad
 | some xs=>bndO (c s) s λx=>match f xs x with
   |some (r,a)=>.ok r (p s a)
   |none=>.bad
def nl(xs:List W)(x:W):Option (Unit×List W):=if xs.length<af then some ((),xs++[x]) else none
def Fb(xs:List W)(i:Int):Option (W×List W):=if 0<=i/\i<xs.length/\xs.length<=af then xs[i.toNat]?.map λd=>(d,xs.eraseIdx i.toNat) else none
def yl[DecidableEq W](xs:List W)(x:W):Option (Unit×List W):=(xs.findIdx? λy=>decide (y=x)).map λj=>((),xs.eraseIdx j)
def Mv{δ':Type}(e:W->D)(e1:J->D)(b:L->D)(F:List D->D->Option (D×List D))(f:List W->J->Option (L×List W)):Prop:=∀xs x,match f xs x with
 |some (r,a)=>F (xs.map e) (e1 x)=some (b r,a.map e)
 |none=>True
def l5{e:W->L}:∀(xs:List W) (i:Nat),(xs.map e).eraseIdx i=(xs.eraseIdx i).map e
 |[],i=>by simp
 |x::xs,0=>by simp
 |x::xs,i+1=>by rw[YI,Zv,Zv,YI,l5 xs i]
def vZ:Mv (δ':=Unit) e e eN lE nl:=λxs x=>by
 unfold nl lE;rw[List.length_map];by_cases h:xs.length<af
 ·rw[YG h,YG h];show some (D.non,xs.map e++[e x])=some (eN (),(xs++[x]).map e);rw[Zr];rfl
 ·rw[on h];trivial
def Ws:Mv (δ':=Unit) e D.int e Fa Fb:=λxs i=>by
 unfold Fb Fa;dsimp only;rw[List.length_map];by_cases h:0<=i/\i<xs.length/\xs.length<=af
 · rw[YG h,YG h,Y5];cases xs[i.toNat]? with
   |none=>trivial
   |some a=>
     show some (e a,(xs.map e).eraseIdx i.toNat)=some (e a,(xs.eraseIdx i.toNat).map e);rw[l5]
 ·rw[on h];trivial
def mP{e:W->PyData}{p:PyData->Bool}:∀xs:List W,(xs.map e).findIdx? p=xs.findIdx? λx=>p (e x)
 |[]=>rfl
 |x::xs=>by rw[YI,List.findIdx?_cons,List.findIdx?_cons,mP xs]
def Wr{e:W->D}[DecidableEq W](A:Dat e)(hd:A.dep<=64):Mv (δ':=Unit) e e eN Cq yl:=λxs x=>by
 have b:((xs.map A.py).all SeqAt.shaped)=true:=by
  rw[Ai7,ZT];exact λa _=>A.shp hd a
 unfold yl Cq;rw[A.h0,lJ A.h0];dsimp only;rw[if_pos ⟨A.shp hd x,b⟩,mP];have c:(λy=>PyData.eqv (A.py y) (A.py x))=λy=>decide (y=x):=funext λy=>A.eqv y x;rw[c];cases xs.findIdx? λy=>decide (y=x) with
 |none=>trivial
 |some j=>
   show some (D.non,(xs.map e).eraseIdx j)=some (eN (),(xs.eraseIdx j).map e);rw[l5];rfl
def rM{get:P1->Option D}{set:P1->D->P1}{g:Z->Option (List W)}{p:Z->List W->Z}
 (j:∀s,get (rep s)=(g s).map (eL e)) (i:∀s xs,set (rep s) (eL e xs)=rep (p s xs)) (hF:Mv (δ':=Unit) e e1 a F f) (d:EJ rep e1 m c):NJ rep a (kG get set F m) (NR g p f c):=λs=>by
 have d:=d s;unfold kG NR;rw[j];cases g s with
 |none=>trivial
 |some xs=>
   show SimO rep a (RH set F (rep s) (xs.map e) (m (rep s))) (bndO (c s) s _);refine SimR.el d (λx=>?_) (λ_=>rfl) λ_=>trivial
   have:=hF xs x
   show SimO rep a (CW set (rep s) (F (xs.map e) (e1 x))) (match f xs x with|some (r,b)=>OutC.ok r (p s b)|none=>.bad);cases h:f xs x with
   |none=>trivial
   |some r=>
     rw[h]at this;obtain⟨r,b⟩:=r;have this:F (xs.map e) (e1 x)=some (a r,b.map e):=this;rw[this];show Out.ok _ _=Out.ok _ _;rw[<-i];rfl
@[simp] def Tg(g:Z->Option (List W))(p:Z->List W->Z)(c:Z->OutC Z W):Z->OutC Z Unit:=λs=>match g s with
 |none=>.bad
 | some _=>uV (c s) λx s=>match g s with
   |none=>.bad
   |some xs=>(match nl xs x with|some (r,a)=>.ok r (p s a)|none=>.bad)
def QR{g:Z->Option (List W)}{p:Z->List W->Z}(d:∀s,rg (rep s) i=(g s).map (eL e))(j:∀s xs,(rep s).set i (some (eL e xs))=rep (p s xs))(b:NJ rep e m c):NJ rep eN (DD i m) (Tg g p c):=λs=>by
 have b:=b s;unfold DD Tg;rw[d];cases g s with
 |none=>trivial
 |some f=>
   show SimO rep eN ((m (rep s)).bind (xw i)) (uV (c s) _);refine b.bd λx s=>?_;unfold xw;rw[d];cases g s with
   |none=>trivial
   |some xs=>
     have:=vZ (e:=e) xs x
     show SimO rep eN (CW (cZ i) (rep s) (lE (xs.map e) (e x))) (match nl xs x with|some (r,a)=>OutC.ok r (p s a)|none=>.bad);cases h:nl xs x with
     |none=>trivial
     |some r=>
       rw[h]at this;obtain⟨r,a⟩:=r;have this:lE (xs.map e) (e x)=some (eN r,a.map e):=this;rw[this];show Out.ok _ _=Out.ok _ _;rw[<-j];rfl
@[simp] def v5(g:Z->Option (DI W))(p:Z->DI W->Z)(ck:Z->Res (List Int)):Z->OutC Z W:=λs=>match g s with
 |none=>.bad
 | some F=>bndO (ck s) s λk=>match F.get k with
   |some x=>.ok x (p s (F.del k))
   |none=>.bad
def tO{get:P1->Option D}{set:P1->D->P1}{g:Z->Option (DI W)}{p:Z->DI W->Z}(d:∀s,get (rep s)=(g s).map (aP e))(c:∀s F,set (rep s) (aP e F)=rep (p s F))(a:EJ rep (kY D.int) mk ck):NJ rep e (mT get set mk) (v5 g p ck):=λs=>by
 have a:=a s;unfold mT v5;rw[d];cases g s with
 |none=>trivial
 |some F=>
   show SimO rep e (v4 set (aP e F) (rep s) (mk (rep s))) (bndO (ck s) s _);refine SimR.el a (λk=>?_) (λ_=>rfl) λ_=>trivial;show SimO rep e (v4 set (aP e F) (rep s) (.ok (.tup (k.map D.int)))) (match F.get k with|some x=>OutC.ok x (p s (F.del k))|none=>.bad);cases b:F.get k with
   |none=>trivial
   |some x=>
     unfold v4;dsimp only;rw[Ib b];show Out.ok _ _=Out.ok _ _;rw[c]
end
section
variable{Z σ' W X L J:Type}{rep:Z->P1}{eR:X->D}
@[simp] def DT(o:OutC Z W)(k:W->Z->FlC Z X):FlC Z X:=match o with
 |.ok a s=>k a s
 |.exc x s=>.exc x s
 |.bad=>.bad
def SimS.bd{e:W->L}{k:L->P1->SO}{l:W->Z->FlC Z X}(h:SimO rep e r q)(b:∀a s,SimS rep eR (k (e a) (rep s)) (l a s)):SimS rep eR (ge r k) (DT q l):=by
 cases q with
 |ok a s=>rw[show r=_ from h];exact b a s
 |exc x s=>rw[show r=_ from h];exact rfl
 |bad=>trivial
def SimS.ite{p:Prop}[Decidable p]{r a:SO}{q b:FlC Z X}(h:SimS rep eR r q)(h':SimS rep eR a b):SimS rep eR (if p then r else a) (if p then q else b):=by
 by_cases z:p
 ·rw[YG z,YG z];exact h
 ·rw[on z,on z];exact h'
@[simp] def ag(a b:Z->FlC Z X):Z->FlC Z X:=λs=>match a s with
 |.nx c=>b c
 |o=>o
def aa(e:TJ rep eR a c)(g:TJ rep eR b d):TJ rep eR (ai a b) (ag c d):=λs=>by
 have e:=e s;unfold ai ag;cases q:c s with
 |nx f=>rw[q]at e;rw[show a (rep s)=_ from e];exact g f
 |rt b f=>rw[q]at e;rw[show a (rep s)=_ from e];rfl
 |bk f=>rw[q]at e;rw[show a (rep s)=_ from e];rfl
 |ct f=>rw[q]at e;rw[show a (rep s)=_ from e];rfl
 |exc x f=>rw[q]at e;rw[show a (rep s)=_ from e];rfl
 |bad=>trivial
@[simp] def bc:Z->FlC Z X:=λs=>.nx s
@[simp] def Mf:Z->FlC Z X:=λs=>.ct s
@[simp] def q9:Z->FlC Z X:=λ_=>.bad
def az:TJ rep eR aV bc:=λs=>rfl
def D0:TJ rep eR Iq Mf:=λs=>rfl
def gL:TJ rep eR m q9:=λs=>trivial
@[simp] def aZ(c:Z->OutC Z X):Z->FlC Z X:=λs=>DT (c s) λb s=>.rt b s
def aw(h:NJ rep eR m c):TJ rep eR (bp m) (aZ c):=λs=>SimS.bd (h s) λb s=>rfl
@[simp] def M0(b:X):Z->FlC Z X:=λs=>.rt b s
def JE(h:eR b=.non):TJ rep eR Kk (M0 b):=λs=>by show SO.rt .non _=SO.rt (eR b) _;rw[h]
@[simp] def aC(c:Z->OutC Z W):Z->FlC Z X:=λs=>DT (c s) λ_ s=>.nx s
def ak(h:NJ rep e m c):TJ rep eR (aE m) (aC c):=λs=>SimS.bd (h s) λb s=>rfl
@[simp] def a8(u:W->Z->Z)(c:Z->OutC Z W):Z->FlC Z X:=λs=>DT (c s) λa s=>.nx (u a s)
def Oo{e:W->D}{u:W->Z->Z}(b:∀a s,(rep s).set i (some (e a))=rep (u a s))(h:NJ rep e m c):TJ rep eR (a7 i m) (a8 u c):=λs=>SimS.bd (h s) λa s=>by show SO.nx _=SO.nx _;rw[b]
@[simp] def fX(t:Z->OutC Z Bool)(a b:Z->FlC Z X):Z->FlC Z X:=λs=>DT (t s) λc s=>if c=true then a s else b s
def a6(e:NJ rep (id:Bool->Bool) t ct)(g:TJ rep eR a c)(f:TJ rep eR b d):TJ rep eR (fi t a b) (fX ct c d):=λs=>SimS.bd (e s) λt s=>SimS.ite (g s) (f s)
def iG(u:W->Z->Z)(b:Z->FlC Z X):List W->Z->FlC Z X
 |[],s=>.nx s
 | a::r,s=>match b (u a s) with
   |.nx c=>iG u b r c
   |.ct c=>iG u b r c
   |.bk c=>.nx c
   |o=>o
def tp{e:W->D}{i:D->P1->Option P1}{u:W->Z->Z}(j:∀a s,i (e a) (rep s)=some (rep (u a s)))(h:TJ rep eR d c):∀(xs:List W) (s:Z),SimS rep eR (t5 i d (xs.map e) (rep s)) (iG u c xs s)
 |[],s=>rfl
 | a::r,s=>by
   have f:=h (u a s);rw[List.map_cons];unfold t5 iG;rw[j];dsimp only;cases q:c (u a s) with
   |nx g=>rw[q]at f;rw[show d (rep (u a s))=_ from f];exact tp j h r g
   |ct g=>rw[q]at f;rw[show d (rep (u a s))=_ from f];exact tp j h r g
   |bk g=>rw[q]at f;rw[show d (rep (u a s))=_ from f];rfl
   |rt b g=>rw[q]at f;rw[show d (rep (u a s))=_ from f];rfl
   |exc x g=>rw[q]at f;rw[show d (rep (u a s))=_ from f];rfl
   |bad=>trivial
@[simp] def c9(src:Z->Res (List W))(u:W->Z->Z)(a:Z->FlC Z X):Z->FlC Z X:=λs=>match src s with
 |.ok xs=>iG u a xs s
 |.exc x=>.exc x s
 |.bad=>.bad
def bO{e:W->D}{f:D->P1->Option P1}{u:W->Z->Z}(g:EJ rep (List.map e) src b)(i:∀a s,f (e a) (rep s)=some (rep (u a s)))(h:TJ rep eR d c):TJ rep eR (cW (ar src) f d) (c9 b u c):=λs=>by
 have g:=g s;unfold cW ar c9;refine SimR.el g (λxs=>?_) (λ_=>rfl) λ_=>trivial;exact tp i h xs s
def uZ(t:Z->OutC Z Bool)(a:Z->FlC Z X):Nat->Z->FlC Z X
 |0,_=>.bad
 | n+1,s=>match t s with
   | .ok true b=>(match a b with
     |.nx c=>uZ t a n c
     |.ct c=>uZ t a n c
     |.bk c=>.nx c
     |o=>o)
   |.ok false b=>.nx b
   |.exc x b=>.exc x b
   |.bad=>.bad
def u7(i:NJ rep (id:Bool->Bool) t ct)(h:TJ rep eR a c):∀n,TJ rep eR (xJ t a n) (uZ ct c n)
 |0=>λs=>trivial
 | n+1=>λs=>by
   have g:=i s;unfold xJ uZ;cases q:ct s with
   |ok b e=>
     rw[q]at g;rw[show t (rep s)=_ from g];cases b with
     |false=>rfl
     |true=>
       have d:=h e;show SimS rep eR (match a (rep e) with | .nx G=>xJ t a n G | .ct G=>xJ t a n G | .bk G=>.nx G | o=>o) _;dsimp only;cases q:c e with
       |nx f=>rw[q]at d;rw[show a (rep e)=_ from d];exact u7 i h n f
       |ct f=>rw[q]at d;rw[show a (rep e)=_ from d];exact u7 i h n f
       |bk f=>rw[q]at d;rw[show a (rep e)=_ from d];rfl
       |rt b f=>rw[q]at d;rw[show a (rep e)=_ from d];rfl
       |exc x f=>rw[q]at d;rw[show a (rep e)=_ from d];rfl
       |bad=>trivial
   |exc x e=>rw[q]at g;rw[show t (rep s)=_ from g];rfl
   |bad=>trivial
@[simp] def i3(g:Z->Option (DI W))(p:Z->DI W->Z)(ck:Z->Res (List Int))(a:Z->OutC Z W):Z->FlC Z X:=λs=>DT (a s) λx s=>match g s with
 |none=>.bad
 | some F=>(match ck s with
   |.ok k=>if F.length<af then .nx (p s (F.put k x)) else .bad
   |.exc y=>.exc y s
   |.bad=>.bad)
def dI{get:P1->Option D}{set:P1->D->P1}{g:Z->Option (DI W)}{p:Z->DI W->Z}(i:∀s,get (rep s)=(g s).map (aP e))(f:∀s F,set (rep s) (aP e F)=rep (p s F))
 (a:EJ rep (kY D.int) mk ck) (d:NJ rep e b c):TJ rep eR (fo get set mk b) (i3 g p ck c):=λs=>SimS.bd (d s) λx s=>by
 have a:=a s;rw[i];cases g s with
 |none=>trivial
 |some F=>
   show SimS rep eR (mS set (e x) (aP e F) (rep s) (mk (rep s))) _;dsimp only;refine SimR.el a (λk=>?_) (λ_=>rfl) λ_=>trivial;show SimS rep eR (mS set (e x) (aP e F) (rep s) (.ok (.tup (k.map D.int)))) (if F.length<af then FlC.nx (p s (F.put k x)) else .bad);by_cases h:F.length<af
   ·rw[if_pos h];unfold mS;dsimp only;rw[Ia h];show SO.nx _=SO.nx _;rw[f]
   ·rw[on h];trivial
@[simp] def NP(g:Z->Option (List W))(p:Z->List W->Z)(ck:Z->Res Int)(a:Z->OutC Z W):Z->FlC Z X:=λs=>DT (a s) λx s=>match g s with
 |none=>.bad
 | some xs=>(match ck s with
   |.ok i=>(match oB xs.length i with|some j=>.nx (p s (xs.set j x))|none=>.bad)
   |.exc y=>.exc y s
   |.bad=>.bad)
def JF{get:P1->Option D}{set:P1->D->P1}{g:Z->Option (List W)}{p:Z->List W->Z}(h:∀s,get (rep s)=(g s).map (eL e))(f:∀s F,set (rep s) (eL e F)=rep (p s F))
 (a:EJ rep D.int mk ck) (d:NJ rep e b c):TJ rep eR (mH get set mk b) (NP g p ck c):=λs=>SimS.bd (d s) λx s=>by
 have a:=a s;rw[h];cases g s with
 |none=>trivial
 |some xs=>
   show SimS rep eR (AM set (e x) (xs.map e) (rep s) (mk (rep s))) _;dsimp only;refine SimR.el a (λi=>?_) (λ_=>rfl) λ_=>trivial;show SimS rep eR (match oB (xs.map e).length i with|some j=>.nx (set (rep s) (.lst ((xs.map e).set j (e x))))|none=>.bad) _;rw[List.length_map];dsimp only;cases oB xs.length i with
   |none=>trivial
   |some j=>
     show SO.nx _=SO.nx _;rw[<-An4];exact congrArg _ (f s _)
@[simp] def bb(d:Option X):FlC Z X->OutC Z X
 |.nx s=>(match d with|some b=>.ok b s|none=>.bad)
 |.rt b s=>.ok b s
 |.exc x s=>.exc x s
 |_=>.bad
def cF{ds:List D}{c:Z->FlC Z X}(hd:eR d=.non)(h:TJ rep eR a c)(f:ds.map some++List.replicate (k-ds.length) none=rep s):SimO rep eR (Mi.run k a ds) (bb (some d) (c s)):=by
 have h:=h s;unfold Mi.run;rw[f];cases q:c s with
 |nx e=>rw[q]at h;rw[show a (rep s)=_ from h];show Out.ok .non _=Out.ok (eR d) _;rw[hd]
 |rt b e=>rw[q]at h;rw[show a (rep s)=_ from h];rfl
 |exc x e=>rw[q]at h;rw[show a (rep s)=_ from h];rfl
 |_=>trivial
def cj{ds:List D}{c:Z->FlC Z X}(h:TJ rep eR a c)(e:ds.map some++List.replicate (k-ds.length) none=rep s):SimO rep eR (Mi.run k a ds) (bb none (c s)):=by
 have h:=h s;unfold Mi.run;rw[e];cases q:c s with
 |rt b d=>rw[q]at h;rw[show a (rep s)=_ from h];rfl
 |exc x d=>rw[q]at h;rw[show a (rep s)=_ from h];rfl
 |_=>trivial
def d9{ds:List D}{c:Z->FlC Z X}(h:TJ rep eR a c)(e:ds.map some++List.replicate (k-ds.length) none=rep s):SimO rep eR (iN k a ds) (bb none (c s)):=by
 have h:=h s;unfold iN;rw[e];cases q:c s with
 |rt b d=>rw[q]at h;rw[show a (rep s)=_ from h];rfl
 |exc x d=>rw[q]at h;rw[show a (rep s)=_ from h];rfl
 |_=>trivial
end
section
variable{Z W X:Type}{rep:Z->P1}{eR:X->D}
def xp{e:W->D}{g:Z->W}(h:∀s,rg (rep s) i=some (e (g s)):=by exact λ_=>rfl):EJ rep e (vr i) (pC g):=R8 h
def xv{g:Z->Option W}(h:∀s,rg (rep s) i=(g s).map e:=by exact λ_=>rfl):EJ rep e (vr i) (vC g):=R6 h
def xk{e:W->D}(h:e a=d:=by rfl):EJ rep e (ax d) (kC a):=t9 h
def xs{e:W->D}{u:W->Z->Z}(h:NJ rep e m c)(b:∀a s,(rep s).set i (some (e a))=rep (u a s):=by exact λ_ _=>rfl):TJ rep eR (a7 i m) (a8 u c):=Oo b h
end
section
variable{Z σ' W X L J τ:Type}
def l3{u:W->Z->Z}{c:Z->FlC Z X}(R:τ->Z->Prop)(step:τ->W->τ):∀(l:List W) (b:τ) (s:Z),R b s->
 (∀b a s,a∈l->R b s->∃d,(c (u a s)=.nx d\/c (u a s)=.ct d)/\R (step b a) d)->∃d,iG u c l s=.nx d/\R (l.foldl step b) d
 |[],b,s,h,_=>⟨s,rfl,h⟩
 | a::l,b,s,h,st=>by
   obtain⟨g,f,j⟩:=st b a s List.mem_cons_self h;obtain⟨d,e,h'⟩:=l3 R step l (step b a) g j λb c s i=>st b c s (List.mem_cons_of_mem _ i);refine⟨d,?_,h'⟩;unfold iG;rcases f with f|f<;>(rw[f];exact e)
def kS{u:W->Z->Z}{c:Z->FlC Z X}(R:Z->Prop)(l:List W)(s:Z)(h:R s)(st:∀a s,a∈l->R s->∃b,(c (u a s)=.nx b\/c (u a s)=.ct b)/\R b):∃b,iG u c l s=.nx b/\R b:=by
 obtain⟨b,e,h'⟩:=l3 (τ:=Unit) (λ_ s=>R s) (λ_ _=>()) l () s h λ_ a s f d=>st a s f d;exact⟨b,e,h'⟩
def cO{u:W->Z->Z}{c:Z->FlC Z X}(R:List W->Z->Prop)(l:List W)(s:Z)(h:R [] s)(st:∀p a r s,l=p++a::r->R p s->∃b,(c (u a s)=.nx b\/c (u a s)=.ct b)/\R (p++[a]) b):∃b,iG u c l s=.nx b/\R l b:=by
 have f:∀(r p:List W) (s:Z),l=p++r->R p s->∃b,iG u c r s=.nx b/\R l b:=by
  intro r
  induction r with
  |nil=>intro p s e h;rw[Zm]at e;exact⟨s,rfl,by rw[e];exact h⟩
  |cons a r i=>
    intro p s e h;obtain⟨g,d,j⟩:=st p a r s e h;obtain⟨b,k,h'⟩:=i (p++[a]) g (by rw[e];simp) j;refine⟨b,?_,h'⟩;unfold iG;rcases d with d|d<;>(rw[d];exact k)
 exact f l [] s rfl h
def sk{u:W->Z->Z}{c:Z->FlC Z X}(R:Z->Prop)(p:W->Bool)(out:W->X):∀(l:List W) (s:Z),R s->
 (∀a s,a∈l->R s->∃s',(p a=true->c (u a s)=.rt (out a) s')/\(p a=false->(c (u a s)=.nx s'\/c (u a s)=.ct s')/\R s'))->
 ∃s',(∀a,l.find? p=some a->iG u c l s=.rt (out a) s')/\(l.find? p=none->iG u c l s=.nx s'/\R s')
 |[],s,h,_=>⟨s,λa e=>(nomatch e),λ_=>⟨rfl,h⟩⟩
 | a::l,s,h,st=>by
   obtain⟨s2,e2,e3⟩:=st a s YK h;cases hp:p a with
   |true=>
     refine⟨s2,λb e=>?_,λe=>?_⟩
     ·rw[List.find?_cons,hp]at e;cases e;unfold iG;rw[e2 hp]
     ·rw[ZC,hp]at e;cases e
   |false=>
     obtain⟨e4,h2⟩:=e3 hp;obtain⟨s',f1,f2⟩:=sk R p out l s2 h2 λb s hb=>st b s (YM _ hb)
     have eq:iG u c (a::l) s=iG u c l s2:=by
      conv=>lhs;unfold iG
      rcases e4 with e4|e4<;>rw[e4]
     refine⟨s',λb e=>?_,λe=>?_⟩
     ·rw[ZC,hp]at e;rw[eq];exact f1 b e
     ·rw[ZC,hp]at e;rw[eq];exact f2 e
def zM{t:Z->OutC Z Bool}{c:Z->FlC Z X}(R:Nat->Z->Prop)(S:Z->Prop)(st:∀n s,R n s->(t s=.ok false s/\S s)\/(t s=.ok true s/\∃m a,m<n/\(c s=.nx a\/c s=.ct a)/\R m a)):
 ∀(fuel n:Nat) (s:Z),R n s->n<fuel->∃b,uZ t c fuel s=.nx b/\S b
 |0,n,s,h,g=>absurd g (Nat.not_lt_zero _)
 | fuel+1,n,s,h,g=>by
   unfold uZ;rcases st n s h with ⟨e,f⟩|⟨e,m,a,k,d,i⟩
   ·rw[e];exact⟨s,rfl,f⟩
   ·rw[e];obtain⟨b,j,f⟩:=zM R S st fuel m a i (by omega);refine⟨b,?_,f⟩;dsimp only;rcases d with d|d<;>(rw[d];exact j)
def sE{d:W->Res Bool}{te:W->Res X}(p:W->Bool)(g:W->X):∀l:List W,(∀a∈l,d a=.ok (p a))->(∀a∈l,p a=true->te a=.ok (g a))->il d te l=.ok ((l.filter p).map g)
 |[],_,_=>rfl
 | a::l,h,f=>by
   have e:=sE p g l (λb c=>h b (List.mem_cons_of_mem _ c)) λb c=>f b (List.mem_cons_of_mem _ c);unfold il;rw[h a List.mem_cons_self];show(if p a=true then _ else _)=_;cases hp:p a with
   |true=>
     rw[YG rfl,f a YK hp,e,ZM,YG hp];rfl
   |false=>rw[on YW,e,ZM,on (by rw[hp];exact YW)]
def jp{src:Z->Res (List W)}{b:W×Z->Res Bool}{te:W×Z->Res X}{l:List W}(p:W->Bool)(g:W->X)(c:src s=.ok l)(d:l.length<af)(f:∀a∈l,b (a,s)=.ok (p a))(e:∀a∈l,p a=true->te (a,s)=.ok (g a)):
 cP src b te s=.ok ((l.filter p).map g):=by
 unfold cP;rw[c];show(if l.length<af then _ else _)=_;rw[if_pos d];exact sE p g l f e
def jd{src:Z->Res (List W)}{te:W×Z->Res X}{l:List W}(g:W->X)(b:src s=.ok l)(c:l.length<af)(e:∀a∈l,te (a,s)=.ok (g a)):
 cP src (λ_=>.ok true) te s=.ok (l.map g):=by
 rw[jp (λ_=>true) g b c (λ_ _=>rfl) λa d _=>e a d,List.filter_eq_self.mpr λ_ _=>rfl]
def mq(xs:List W){i:Int}(h:0<=i):ke xs i=xs[i.toNat]?:=by
 unfold ke oB;rw[if_pos h];by_cases z:i<xs.length
 ·rw[YG z];rfl
 ·rw[on z,Y8 (by omega)];rfl
def qG(xs:List W):ke xs (-1)=xs.getLast?:=by
 unfold ke oB;rw[if_neg (by omega),List.getLast?_eq_getElem?];cases xs with
 |nil=>rfl
 |cons x r=>
   rw[YG (by simp only[YO];omega)];show(x::r)[(-1+((x::r).length:Int)).toNat]?=_;rw[show(-1+((x::r).length:Int)).toNat=(x::r).length-1 by omega]
def RT{n:Nat}{i:Int}(h:0<=i)(a:i<n):oB n i=some i.toNat:=by unfold oB;rw[if_pos h,if_pos a]
def bC(lo hi:Int):(cc lo hi).length=(hi-lo).toNat:=by unfold cc;simp
def cB{lo:Int}:x∈cc lo hi↔lo<=x/\x<hi:=by
 unfold cc;rw[List.mem_map];constructor
 · rintro⟨i,a,rfl⟩
   have:=Ak0.mp a
   omega
 ·rintro⟨c,b⟩;exact⟨(x-lo).toNat,Ak0.mpr (by omega),by omega⟩
def zU{lo:Int}{p:List Int}(h:cc lo hi=p++x::r):x=lo+p.length/\lo<=x/\x<hi:=by
 have b:x∈cc lo hi:=by rw[h];simp
 have a:=cB.mp b;have e:(cc lo hi)[p.length]?=some x:=by rw[h,Zu (YY _),Ae9];rfl
 unfold cc at e;rw[List.getElem?_map]at e
 have c:p.length<(hi-lo).toNat:=by
  have:=bC lo hi
  rw[h,YQ,YO]at this;omega
 rw[Ac7 c]at e;injection e with e
 exact⟨e.symm,a⟩
def nZ(lo hi:Int):(cc lo hi).Nodup:=by
 unfold cc;unfold List.Nodup;rw[List.pairwise_map];refine List.Pairwise.imp ?_ (List.nodup_range (n:=(hi-lo).toNat));intro a b h z;exact h (by omega)
def oI{F:DI X}(h:F.get k=some v):(k,v)∈F:=by
 unfold DI.get at h;obtain⟨p,hp,rfl⟩:=Option.map_eq_some_iff.mp h
 have:=List.find?_some hp
 have e:p.1=k:=by simpa using this
 subst e;exact List.mem_of_find?_eq_some hp
def dL{P:List Int->Prop}{F:DI X}(h:∀p∈F,P p.1)(b:P k):∀p∈F.put k v,P p.1:=by
 intro p hp;unfold DI.put at hp;split at hp
 ·obtain⟨q,a,rfl⟩:=Y9.mp hp;split<;>exact h q a
 · rcases YX.mp hp with z|z
   ·exact h p z
   ·rw[YT.mp z];exact b
def fP{F:DI X}:(F.put k v).length<=F.length+1:=by
 unfold DI.put;split
 ·rw[YJ];omega
 ·rw[YQ];simp
def DI.nd(F:DI X):Prop:=(F.map (·.1)).Nodup
def f9{F:DI X}(h:DI.nd F):DI.nd (F.put k v):=by
 unfold DI.nd DI.put at *;by_cases q:(F.get k).isSome=true
 · rw[YG q,Zt]
   have:(F.map ((·.1)∘λp=>if p.1=k then (p.1,v) else p))=F.map (·.1):=ZQ λp _=>by
    show(if p.1=k then (p.1,v) else p).1=p.1;split<;>rfl
   rw[this];exact h
 · rw[on q,Zr];refine Zf.mpr ⟨h,by simp,λa d b c=>?_⟩;have e:b=k:=by simpa using c
   subst e;rintro rfl;obtain⟨p,hp,e⟩:=List.mem_map.mp d;apply q;unfold DI.get;rw[Option.isSome_map,List.find?_isSome];exact⟨p,hp,by simpa using e⟩
def gW{F:DI X}(h:DI.nd F)(a:(k,v)∈F):F.get k=some v:=by
 unfold DI.nd at h
 induction F with
 |nil=>cases a
 |cons p F b=>
   rw[List.map_cons,List.nodup_cons]at h;unfold DI.get;rw[List.find?_cons];by_cases e:p.1=k
   · rw[Zj e];rcases YS.mp a with z|z
     ·rw[<-z];rfl
     ·exact absurd (Y9.mpr ⟨(k,v),z,e.symm⟩) h.1
   · rw[Zc e];rcases YS.mp a with z|z
     ·exact absurd (by rw[<-z]) e
     ·exact b h.2 z
end
end Cl
namespace Mi
open PySem L2
def TK(a b:P1->Out D):P1->Out D:=λT=>(a T).bind λx T=>(b T).bind λy T=>.ok (.tup [x,y]) T
section
variable{Y:Cm}{E:XK}{M:List Md}
def Ru(i:MJ Y (KR Y .F) E M ta f)(h:MJ Y (KR Y .F) E M tb e):MJ Y (KR Y .F) E M (JI (aN ta (aN tb bT))) (TK f e):=by
 intro B U As Z H T Q R P;refine i.bnd R P λx g v I U1 t H1 L q e1 A o W=>h.bnd q W λy c u d G a O K R2 m z n s=>?_
 have dd:Dns Y d [x,y] [v,u]:=by
  have l:Dn Y d x v:=Dn.mono m.b o;have j:Dn Y d y u:=n;unfold Dns;refine⟨v,[u],rfl,l,?_⟩;unfold Dns;refine⟨u,[],rfl,j,?_⟩;unfold Dns;rfl
 refine⟨(by decide:2<=sizeLine),λp hp=>n8 (E:=E) (ds:=[x,y]) (As:=a) (T:=c) R2 ?_ dd hp⟩;exact λw S J H' N r g' C k=>s w S J a H' [] r g'.toEx NewM.nil k
end
end Mi
namespace Cl
open PySem L2 Mi
section
variable{Z W X L J:Type}{rep:Z->P1}{eR:X->D}
@[simp] def KD(a:Z->OutC Z W)(b:Z->OutC Z L):Z->OutC Z (W×L):=λs=>uV (a s) λx s=>uV (b s) λy s=>.ok (x,y) s
def FR(h:NJ rep e m c)(g:NJ rep f n d):NJ rep (js e f) (TK m n) (KD c d):=λs=>(h s).bd λa s=>(g s).bd λb s=>rfl
end
end Cl
namespace L2
open PySem PySem.Spec PyProof.Rows
def El{X:Cx}(K:F0)(h:X.K=K):XG X (OV K):=by subst h;exact Kb
end L2
namespace Mi
open PySem L2
def H9:D->D->Res D
 |.lst xs,.int k=>if 0<=k then .ok (.lst (xs.drop k.toNat)) else .bad
 |.scr xs,.int k=>if 0<=k then .ok (.lst (xs.drop k.toNat)) else .bad
 |_,_=>.bad
def we{k:Int}(h:0<=k)(xs:List V):Di xs (some k) none=xs.drop k.toNat:=by
 unfold Di;have e:HT.vc xs.length 0 (some k)=min k.toNat xs.length:=by show(if k<0 then _ else _)=_;rw[if_neg (by omega)]
 rw[e,HT.Es];by_cases z:k.toNat<=xs.length
 ·rw[Nat.min_eq_left z,List.take_of_length_le (by rw[List.length_drop];omega)]
 ·rw[Nat.min_eq_right (by omega),Ae9,List.take_zero,Ai5 (by omega)]
section
variable{Y:Cm}{E:XK}{M:List Md}{Kr:KT D V}{pr:Nat->Bool}
def P6(r:PJ Y (KC Y .F) E M ta m)(q:PJ Y (KR Y .X) E M tb l):PJ Y (KO Y (.ct .fz)) E M (XO (OV Y.K) ta (MO tb) zO) (bn H9 m l):=by
 intro B U As Z H T Q R P;refine r.bnd R P λx v I U1 H1 L _ s e1 w f W=>q.bnd s W λy u o n j A _ R2 d t e c=>?_;have f:Cn Y I H1 x v:=f;have e:Dn Y j y u:=e;cases y with
 |int k=>
   rw[Dn]at e;subst e;refine⟨k,rfl,?_⟩;cases x with
   |lst ds=>
     obtain⟨a,xs,rfl,i,g⟩:=f;replace c:Po Y (KO Y (.ct .fz)) E M o n As Z j T (if 0<=k then .ok (.lst (ds.drop k.toNat)) else .bad) Q:=c;by_cases z:0<=k
     ·rw[YG z]at c;refine⟨a,xs,rfl,SqL.of (d.h _ _ i),λp hp=>?_⟩;rw[we z];exact dX R2 c ((g.mono d.b).drop _) hp
     ·rw[on z]at c;exact c.elim
   |scr ds=>
     obtain⟨a,xs,rfl,i,g⟩:=f;replace c:Po Y (KO Y (.ct .fz)) E M o n As Z j T (if 0<=k then .ok (.lst (ds.drop k.toNat)) else .bad) Q:=c;by_cases z:0<=k
     ·rw[YG z]at c;refine⟨a,xs,rfl,(i.mono d.h).sq,λp hp=>?_⟩;rw[we z];exact dX R2 c ((g.mono d.b).drop _) hp
     ·rw[on z]at c;exact c.elim
   |_=>exact c.elim
 |_=>cases x<;>exact c.elim
open Classical in
end
end Mi
namespace Cl
open PySem L2 Mi
section
variable{Z W X L J:Type}{rep:Z->P1}{eR:X->D}
@[simp] def NW(xs:List W)(k:Int):Res (List W):=if 0<=k then .ok (xs.drop k.toNat) else .bad
def Ll(xs:List Int)(k:Int):SimR (eL D.int) (H9 (eS xs) (.int k)) (NW xs k):=by
 show SimR (eL D.int) (if 0<=k then .ok (.lst ((xs.map D.int).drop k.toNat)) else .bad) (if 0<=k then .ok (xs.drop k.toNat) else .bad);rw[<-List.map_drop];exact SimR.ite rfl trivial
open Classical in
end
end Cl
namespace Mi
open PySem L2
section
variable{Y:Cm}{E:XK}{M:List Md}{K:F0}
structure Prt (Y:Cm) (M:List Md) (t:TE) (get:P1->Option D) (set:P1->D->P1) (i:Nat) (s:Sh):Prop where
 rd:∀{B U:Hp} {As:Nat->List Addr} {Z:St} {H:Hp} {T:P1} {d:D},Rel Y M B U As Z H T->get T=some d->∃sh v0 d0 v L A R,M.getD i .F= .O sh/\rg Z i=some v0/\rg T i=some d0/\As i=L++(A++R)/\(∀Q:VK,Q v H->t Z H Q)/\Ow Y B H d s v A/\
  ∀I H1 d' A1,Same B I->(∀a,a∈L\/a∈R->H1 a=H a)->Ow Y I H1 d' s v A1->∃D',Ow Y I H1 D' sh v0 (L++(A1++R))/\set T d'=T.set i (some D')
def Yb{i:Nat}{sh:Sh}(b:M.getD i .F= .O sh):Prt Y M (cK i) (b7 i) (cZ i) i sh where
 rd:=λ{B U As Z H T d} R e=>by
  replace e:rg T i=some d:=e;have l:=R.lo i;rw[e,b]at l;obtain⟨v,a,w⟩:=l;exact⟨sh,v,d,v,[],As i,[],b,a,e,by simp,λQ q=>⟨v,bQ a,q⟩,w,λI H1 d' A1 _ _ c=>⟨d',by simpa using c,rfl⟩⟩
def Owf.lens{sh:List (Str×Sh)}{H:Hp}:∀{fs:List (Str×V)} {ds:List D} {A:List Addr} {d:D},Owf Y B H ds (fs.map (·.1)) sh (fs.map (·.2)) A->bj (fs.map (·.1)) ds f=some d->
 ∃v L A1 R,fs.lookup f=some v/\A=L++(A1++R)/\Ow Y B H d ((sh.lookup f).getD .fz) v A1/\∀I H1 d' g,Same B I->(∀a,a∈L\/a∈R->H1 a=H a)->Ow Y I H1 d' ((sh.lookup f).getD .fz) v g->Owf Y I H1 (c8 (fs.map (·.1)) ds f d') (fs.map (·.1)) sh (fs.map (·.2)) (L++(g++R))
 |[],ds,A,d,h,e=>by cases ds<;>cases e
 | p::fs,ds,A,d,h,e=>by
   cases ds with
   |nil=>cases e
   |cons d0 ds=>
     rw[List.map_cons,List.map_cons,Owf]at h;obtain⟨n,t,x,r,l,o,y,h0,E,j,m⟩:=h;cases y;cases h0;subst E;rw[List.map_cons]at e;unfold bj at e;by_cases q:p.1=f
     ·rw[YG q]at e;cases e;rw[q]at j;refine⟨p.2,[],l,o,by rw[Zl,<-q,Z4],rfl,j,λI H1 d' g i k w=>?_⟩;rw[YI,YI,c8,YG q,Owf];exact⟨p.1,_,p.2,_,g,o,rfl,rfl,rfl,by rw[q];exact w,Owf.mono i (λb c=>k b (.inr c)) m⟩
     ·rw[on q]at e;obtain⟨v,L,A1,R,u,C,s,F⟩:=Owf.lens m e;have c:(f==p.1)=false:=Zp.mpr λz=>q z.symm;refine⟨v,l++L,A1,R,by rw[Zl,c];exact u,by rw[C,Zw],s,λI H1 d' g i k w=>?_⟩;rw[YI,YI,c8,on q,Owf];exact⟨p.1,_,p.2,_,l,L++(g++R),rfl,rfl,by rw[Zw],Ow.mono i (λb c=>k b (.inl (YU _ c))) j,F I H1 d' g i (λb c=>k b (c.imp (λz=>YL _ z) id)) w⟩
def Ows.lens{H:Hp}:∀{ds:List D} {xs:List V} {A:List Addr} {n:Nat} {d:D},Ows Y B H ds s xs A->ds[n]?=some d->
 ∃v L A1 R,xs[n]?=some v/\A=L++(A1++R)/\Ow Y B H d s v A1/\∀I H1 d' c,Same B I->(∀a,a∈L\/a∈R->H1 a=H a)->Ow Y I H1 d' s v c->Ows Y I H1 (ds.set n d') s xs (L++(c++R))
 |[],xs,A,n,d,h,e=>by cases e
 | d0::ds,xs,A,n,d,h,e=>by
   rw[Ows]at h;obtain⟨x,r,i,m,rfl,t,l,j⟩:=h;subst t;cases n with
   |zero=>
     cases e;refine⟨x,[],i,m,rfl,rfl,l,λI H1 d' c g k w=>?_⟩;rw[Af7,Ows];exact⟨x,r,c,m,rfl,rfl,w,Ows.mono g (λb f=>k b (.inr f)) j⟩
   |succ n=>
     obtain⟨v,L,A1,R,p,q,o,u⟩:=Ows.lens (n:=n) j (by simpa using e);refine⟨v,i++L,A1,R,by simpa using p,by rw[q,Zw],o,λI H1 d' c g k w=>?_⟩;rw[Af8,Ows];exact⟨x,r,i,L++(c++R),rfl,by rw[Zw],Ow.mono g (λb f=>k b (.inl (YU _ f))) l,u I H1 d' c g (λb f=>k b (f.imp (λz=>YL _ z) id)) w⟩
def iz(get:P1->Option D)(c:Nat)(f:Str):P1->Option D:=λT=>match get T with
 |some (.obj a ns vs)=>if a=c then bj ns vs f else none
 |_=>none
def mC(get:P1->Option D)(set:P1->D->P1)(f:Str):P1->D->P1:=λT d=>match get T with
 |some (.obj c ns vs)=>set T (.obj c ns (c8 ns vs f d))
 |_=>T
def Ow.ob(w:Ow Y B H (.obj c ns ds) (.ob fs) v A):∃(a dx:Addr) (xs:List (Str×V)) (b:List Addr),v=.ref a/\H a=some (.ins (Y c) dx xs)/\xs.map (·.1)=ns/\A=a::b/\Owf Y B H ds ns fs (xs.map (·.2)) b:=by rw[Ow]at w;exact w
def Ow.ob'{H:Hp}{xs:List (Str×V)}(h:H a=some (.ins (Y c) dx xs))(k:Owf Y B H ds (xs.map (·.1)) fs (xs.map (·.2)) b):Ow Y B H (.obj c (xs.map (·.1)) ds) (.ob fs) (.ref a) (a::b):=by rw[Ow];exact⟨a,dx,xs,b,rfl,h,rfl,rfl,k⟩
def Ow.ls(w:Ow Y B H (.lst ds) (.ct s) v A):∃(a:Addr) (xs:List V) (b:List Addr),v=.ref a/\H a=some (.lst xs)/\A=a::b/\Ows Y B H ds s xs b:=by rw[Ow]at w;exact w
def Ow.ls'{H:Hp}(h:H a=some (.lst xs))(k:Ows Y B H ds s xs b):Ow Y B H (.lst ds) (.ct s) (.ref a) (a::b):=by rw[Ow];exact⟨a,xs,b,rfl,h,rfl,k⟩
def Yd{t:TE}{get:P1->Option D}{set:P1->D->P1}{i c:Nat}{f:Str}{fs:List (Str×Sh)}{s:Sh}(p:Prt Y M t get set i (.ob fs))(V:Cls K (Y c))(O:NoAttr K (Y c) f)(S:(fs.lookup f).getD .fz=s):
 Prt Y M (nH K t f) (iz get c f) (mC get set f) i s where
 rd:=λ{B U As Z H T d} R e=>by
  unfold iz at e;cases e0:get T with
  |none=>rw[e0]at e;cases e
  |some d1=>
    cases d1 with
    |obj n ns vs=>
      rw[e0]at e;replace e:(if n=c then bj ns vs f else none)=some d:=e;by_cases q:n=c
      ·subst q;rw[if_pos rfl]at e;obtain⟨sh,y,d0,v,L,A,o,P,G,hd,W,N,C,cl⟩:=p.rd R e0;obtain⟨a,dx,xs,A',rfl,m,rfl,rfl,X⟩:=C.ob;obtain⟨u,L2,A1,R2,J,rfl,g,h⟩:=Owf.lens X e;rw[S]at g h;refine⟨sh,y,d0,u,L++(a::L2),A1,R2++o,P,G,hd,by rw[W];simp[List.append_assoc],λQ q=>N _ ⟨a,_,dx,xs,u,rfl,m,V,O,J,q⟩,g,λI H1 d' A2 l k w=>?_⟩;have F:∀b,b∈L\/b∈o->H1 b=H b:=λb j=>k b (j.imp (λz=>List.mem_append_left _ z) λz=>List.mem_append_right _ z);have E:H1 a=H a:=k a (.inl (List.mem_append_right _ List.mem_cons_self));have x:=h I H1 d' A2 l (λb j=>k b (j.imp (λz=>List.mem_append_right _ (List.mem_cons_of_mem _ z)) λz=>List.mem_append_left _ z)) w;obtain⟨D',r,e3⟩:=cl I H1 _ _ l F (Ow.ob' (by rw[E];exact m) x);refine⟨D',by simpa [List.append_assoc] using r,?_⟩;unfold mC;rw[e0];exact e3
      ·rw[on q]at e;cases e
    |_=>rw[e0]at e;cases e
def YD(Y:Cm)(M:List Md)(a:TE)(mk:P1->Option Int):Prop:=∀{B U:Hp} {As:Nat->List Addr} {Z:St} {H:Hp} {T:P1} {k:Int},Rel Y M B U As Z H T->mk T=some k->∀Q:VK,Q (.int k) H->a Z H Q
def DP(j:Nat):P1->Option Int:=λT=>match rg T j with
 |some (.int k)=>some k
 |_=>none
def RQ:YD Y M (cK j) (DP j):=λ{B U As Z H T k} R e Q q=>by
 unfold DP at e;have l:=R.lo j;cases e0:rg T j with
 |none=>rw[e0]at e;cases e
 |some d=>
   cases d with
   |int n=>
     rw[e0]at e l;cases e;obtain⟨v,b,w⟩:=l
     have:v=.int k:=by
      cases a:M.getD j .F with
      |F=>rw[a]at w;have w:=w.1;rw[Dn]at w;exact w
      |R=>rw[a]at w;have w:=w.1;rw[Dn]at w;exact w
      |O s=>
        rw[a]at w;cases s with
        |fz=>have w:Ow Y B H (.int k) .fz v (As j):=w;rw[Ow]at w;have w:=w.1;rw[Dn]at w;exact w
        |ct s=>have w:Ow Y B H (.int k) (.ct s) v (As j):=w;simp[Ow]at w
        |ob s=>have w:Ow Y B H (.int k) (.ob s) v (As j):=w;simp[Ow]at w
     subst this;exact⟨_,bQ b,q⟩
   |_=>rw[e0]at e;cases e
def kN(get:P1->Option D)(mk:P1->Option Int):P1->Option D:=λT=>match get T,mk T with
 |some (.lst xs),some k=>if 0<=k then xs[k.toNat]? else none
 |_,_=>none
def mB(get:P1->Option D)(set:P1->D->P1)(mk:P1->Option Int):P1->D->P1:=λT d=>match get T,mk T with
 |some (.lst xs),some k=>set T (.lst (xs.set k.toNat d))
 |_,_=>T
def Yc{t j:TE}{get:P1->Option D}{set:P1->D->P1}{mk:P1->Option Int}{i:Nat}{s:Sh}(p:Prt Y M t get set i (.ct s))(P:YD Y M j mk):Prt Y M (DM (Kn K) t j) (kN get mk) (mB get set mk) i s where
 rd:=λ{B U As Z H T d} R e=>by
  unfold kN at e;cases e0:get T with
  |none=>rw[e0]at e;cases e
  |some X=>
    cases X with
    |lst ds=>
      cases e1:mk T with
      |none=>rw[e0,e1]at e;cases e
      |some k=>
        rw[e0,e1]at e;replace e:(if 0<=k then ds[k.toNat]? else none)=some d:=e;by_cases q:0<=k
        ·rw[if_pos q]at e;obtain⟨sh,x,d0,v,L,A,n,O,G,hd,S,N,C,cl⟩:=p.rd R e0;obtain⟨a,xs,A',rfl,m,rfl,V⟩:=C.ls;obtain⟨u,L2,A1,R2,J,rfl,c,h⟩:=Ows.lens V e;refine⟨sh,x,d0,u,L++(a::L2),A1,R2++n,O,G,hd,by rw[S];simp[List.append_assoc],λQ y=>N _ (P R e1 _ ⟨a,xs,k,u,rfl,rfl,SqL.of m,by rw[Cl.mq xs q];exact J,y⟩),c,λI H1 d' A2 l f w=>?_⟩;have F:∀b,b∈L\/b∈n->H1 b=H b:=λb g=>f b (g.imp (λz=>List.mem_append_left _ z) λz=>List.mem_append_right _ z);have E:H1 a=H a:=f a (.inl (List.mem_append_right _ List.mem_cons_self));have r:=h I H1 d' A2 l (λb g=>f b (g.imp (λz=>List.mem_append_right _ (List.mem_cons_of_mem _ z)) λz=>List.mem_append_left _ z)) w;obtain⟨D',o,W⟩:=cl I H1 _ _ l F (Ow.ls' (by rw[E];exact m) r);refine⟨D',by simpa [List.append_assoc] using o,?_⟩;unfold mB;rw[e0,e1];exact W
        ·rw[on q]at e;cases e
    |_=>rw[e0]at e;cases e
def X6{t:TE}{get:P1->Option D}{set:P1->D->P1}{i:Nat}(p:Prt Y M t get set i (.ct .fz)):Pth Y M t get set where
 rd:=λ{B U As Z H T d} R e=>by
  obtain⟨sh,O,d0,v,L,A,N,F,C,hd,g,E,y,J⟩:=p.rd R e;have nd:=R.nd i;rw[g]at nd;obtain⟨_,k,j⟩:=Zf.mp nd;obtain⟨_,_,h⟩:=Zf.mp k;refine⟨v,A,E,y,λa f=>⟨i,by rw[g];exact YL _ (YU _ f)⟩,λI U1 H1 K w x a f o' d' u=>?_⟩;have q:a∈As i:=by rw[g];exact YL _ (YU _ f)
  have l:∀b,b∈L\/b∈N->upd H1 a o' b=H b:=λb c=>by
   have n:b∈As i:=by
    rw[g];rcases c with c|c
    ·exact YU _ c
    ·exact YL _ (YL _ c)
   have m:b≠a:=λz=>by
    subst z;rcases c with c|c
    ·exact j b c b (YU _ f) rfl
    ·exact h b f b c rfl
   rw[aq m];obtain⟨o,r⟩:=R.at n;rw[r,x _ _ r]
  obtain⟨P,s,G⟩:=J I (upd H1 a o') d' A w l u;rw[G];exact K.mut F C hd q (by rw[g];exact s)
end
section
variable{Y:Cm}{E:XK}{M:List Md}{K:F0}{B U H:Hp}{As:Nat->List Addr}{Z:St}{T:P1}
def Ct(M:List Md)(n:Nat)(s:Sh):List Md:=(List.range (max M.length (n+1))).map λj=>if j=n then .O s else M.getD j .F
def ku{n:Nat}(j:Nat):(Ct M n s).getD j .F=if j=n then .O s else M.getD j .F:=by
 unfold Ct;rw[List.getD_eq_getElem?_getD,List.getElem?_map];by_cases h:j<max M.length (n+1)
 ·rw[Ac7 h];rfl
 · rw[Y8 (by rw[Ad7];omega)];have a:¬ j=n:=by omega
   rw[on a,Y0,Y8 (by omega)];rfl
def gH(set:P1->D->P1)(b:List D->Out D)(d:D)(ds:List D)(T:P1):Out D:=match b (d::ds) with
 |.ok x a=>(match rg a 0 with|some d'=>.ok x (set T d')|none=>.bad)
 |.exc c a=>(match rg a 0 with|some d'=>.exc c (set T d')|none=>.bad)
 |.bad=>.bad
def jh:∀{ps:List Ap} {j:Nat} {a T:P1},cD ps=[]->cy ps j a T=T
 |[],_,_,_,_=>rfl
 | p::r,j,a,T,h=>by
   cases p with
   |O i=>cases h
   |F=>rw[cy];exact jh h;all_goals simp
   |U=>rw[cy];exact jh h;all_goals simp
   |X=>rw[cy];exact jh h;all_goals simp
   |Bo i=>rw[cy];exact jh h;all_goals simp
def fitM.any:∀{ps:List Ap} {mc:List Md},cD ps=[]->fitM M ps mc->fitM b ps mc
 |[],[],_,_=>trivial
 |[],_::_,_,h=>h.elim
 |_::_,[],_,h=>h.elim
 | p::ps,m::r,a,h=>by
   cases p with
   |O i=>cases a
   |F=>exact⟨by cases m <;> first | trivial | exact h.1.elim,fitM.any a h.2⟩
   |U=>exact⟨by cases m <;> first | trivial | exact h.1.elim,fitM.any a h.2⟩
   |X=>exact⟨by cases m<;>exact h.1.elim,fitM.any a h.2⟩
   |Bo i=>exact⟨by cases m <;> first | trivial | exact h.1.elim,fitM.any a h.2⟩
def Ag.plus(f:Same U U1)(a:∀j v,rg Z j=some v->rg c j=some v)(b:∀j d,j≠i->rg T j=some d->rg e j=some d):
 ∀{ps:List Ap} {ds:List D} {vs:List V},cD ps=[]->i∉iJ ps->Ag Y B U H Z T ps ds vs->Ag Y B U1 H c e ps ds vs
 |[],_,_,_,_,h=>h
 | p::ps,ds,vs,g,l,h=>by
   obtain⟨d,o,v,vr,rfl,rfl,m,n⟩:=h;cases p with
   |O k=>cases g
   |F=>exact⟨d,o,v,vr,rfl,rfl,m,Ag.plus f a b g l n⟩
   |U=>exact⟨d,o,v,vr,rfl,rfl,Dn.mono f m,Ag.plus f a b g l n⟩
   |X=>exact⟨d,o,v,vr,rfl,rfl,m,Ag.plus f a b g l n⟩
   |Bo k=>exact⟨d,o,v,vr,rfl,rfl,⟨a k v m.1,b k d (λz=>l (by rw[z];exact YK)) m.2⟩,Ag.plus f a b g (λz=>l (YM _ z)) n⟩
def eE{l:List (Option W)}:rg (l++[x]) j=if j=l.length then x else rg l j:=by
 unfold rg;by_cases h:j<l.length
 ·rw[Zy h,on (by omega)]
 · rw[Zu (by omega)];by_cases e:j=l.length
   ·rw[YG e,e,Ae9];rfl
   ·rw[on e,Y8 (by simp;omega),Y8 (by omega)]
open Classical in
def K5{set:P1->D->P1}{Kr:KT D V}{fm:List D->Out D}(R:Rel Y M B U As Z H T)
 (hm:M.getD i .F= .O sh) (hv:rg Z i=some v0) (hd:rg T i=some d0) (hA:As i=L++(A++l)) (ow:Ow Y B H d s v A)
 (cl:∀I H1 d' A1,Same B I->(∀a,a∈L\/a∈l->H1 a=H a)->Ow Y I H1 d' s v A1->∃D',Ow Y I H1 D' sh v0 (L++(A1++l))/\set T d'=T.set i (some D'))
 (G:Ag Y B U H Z T ps ds vs) (hf:fitM M ps msR) (hl:cD ps=[]) (hb:i∉iJ ps) (hU:∀d v B U J H N,Kr d v B U H N->Kr d v B J H N) (P:Mo Y Kr E M B U Z (gH set fm d ds T) Q):xL Y (.O s::msR) Kr fm (v::vs) H Q E:=by
 have hi:i<T.length:=(Y2.mp (bQ hd)).1;have K:=R.len;have nd:=R.nd i;rw[hA]at nd;obtain⟨ndL,nd2,nd3⟩:=Zf.mp nd;obtain⟨ndA,ndR,nd4⟩:=Zf.mp nd2
 have inI:∀{a},a∈L\/a∈l->a∈As i:=λ{a} h=>by
  rw[hA];rcases h with h|h
  ·exact YU _ h
  ·exact YL _ (YL _ h)
 have inA:∀{a},a∈A->a∈As i:=λ{a} h=>by rw[hA];exact YL _ (YU _ h)
 have offA:∀{a},a∈A->¬ (a∈L\/a∈l):=λ{a} h z=>by
  rcases z with z|z
  ·exact nd3 a z a (YU _ h) rfl
  ·exact nd4 a h a z rfl
 obtain⟨Up,up1,up2⟩:∃Up:Hp,(∀a,a∈L\/a∈l->Up a=H a)/\∀a,¬ (a∈L\/a∈l)->Up a=U a:=⟨λa=>if a∈L\/a∈l then H a else U a,λa h=>YG h,λa h=>on h⟩
 have sUp:Same U Up:=λa o q=>by
  by_cases z:a∈L\/a∈l
  ·rw[up1 a z];exact R.uh a o q
  ·rw[up2 a z];exact q
 have upH:Same Up H:=λa o q=>by
  by_cases z:a∈L\/a∈l
  ·rw[up1 a z]at q;exact q
  ·rw[up2 a z]at q;exact R.uh a o q
 have Rp:Rel Y (Ct M T.length s) B Up (λj=>if j=T.length then A else if j=i then [] else As j) (Z++[some v]) H (T.set i none++[some d]):=by
  have lr:(T.set i (none:Option D)).length=T.length:=Za ..;refine⟨R.bu.trans sUp,upH,λj=>?_,λj k a X f g=>?_,λj a f=>?_,λj=>?_,by rw[YQ,YQ,lr,K];rfl,R.tb⟩
  · try dsimp only
    split
    ·exact ndA
    · split
      ·exact ZD
      ·exact R.nd j
  · try dsimp only at f g
    split at f
    · split at g
      ·exact X (by omega)
      · split at g
        ·cases g
        ·rename_i m r h3;exact R.dj i k a (λz=>h3 z.symm) (inA f) g
    · split at f
      ·cases f
      · split at g
        ·rename_i m r h3;exact R.dj j i a r f (inA g)
        · split at g
          ·cases g
          ·exact R.dj j k a X f g
  · try dsimp only at f
    split at f
    ·rw[up2 a (offA f)];exact R.un i a (inA f)
    · split at f
      ·cases f
      ·rename_i m r;rw[up2 a (λz=>R.dj i j a (λy=>r y.symm) (inI z) f)];exact R.un j a f
  · try dsimp only
    rw[ku,eE,eE,lr,K];by_cases m:j=Z.length
    ·rw[YG m,YG m,YG m,YG m];exact⟨v,rfl,ow⟩
    · rw[on m,on m,on m,on m,c7];by_cases r:j=i
      ·rw[YG r,YG ⟨r.symm,hi⟩];rfl
      ·rw[on r,on λz=>r z.1.symm];exact(R.lo j).mono (Same.refl _) sUp λ_ _=>rfl
 have Gp:Ag Y B Up H (Z++[some v]) (T.set i none++[some d]) (.O T.length::ps) (d::ds) (v::vs):=by
  refine⟨d,ds,v,vs,rfl,rfl,⟨by rw[eE,YG K],by rw[eE,Za,YG rfl]⟩,Ag.plus sUp (λj x q=>?_) (λj x X q=>?_) hl hb G⟩
  · have:j<Z.length:=(Y2.mp (bQ q)).1
    rw[eE,on (by omega)];exact q
  · have:j<T.length:=(Y2.mp (bQ q)).1
    rw[eE,Za,on (by omega),c7,on λz=>X z.1.symm];exact q
 have back:∀{S J H':Hp} {C:Nat->List Addr} {d':D},Rel Y (Ct M T.length s) S J C (Z++[some v]) H' ((T.set i none++[some d]).set T.length (some d'))->Ex B Up S J->
  ∃U2 As2,Rel Y M S U2 As2 Z H' (set T d')/\Ex B U S U2/\∀N,NewM N J C->NewM N U2 As2:=λ{S J H' C d'} t e1=>by
  have lr:(T.set i (none:Option D)++[some d]).length=T.length+1:=by rw[YQ,Za];rfl
  have there:∀{a},a∈L\/a∈l->∃o,H a=some o/\J a=some o/\H' a=some o:=λ{a} h=>by
   obtain⟨o,q⟩:=R.at (inI h)
   have:=e1.u a o (by rw[up1 a h];exact q)
   exact⟨o,q,this,t.uh a o this⟩
  have keepH:∀a,a∈L\/a∈l->H' a=H a:=λa h=>by obtain⟨o,q1,_,q3⟩:=there h;rw[q1,q3]
  have noB:∀{a},a∈L\/a∈l->S a=none:=λ{a} h=>by
   cases z:S a with
   |none=>rfl
   |some o'=>
     obtain⟨o,q1,q2,q3⟩:=there h;rcases e1.nb a o' z with w|w|w
     ·have:=R.bu a o' w;rw[R.un i a (inI h)]at this;cases this
     ·rw[up1 a h,q1]at w;cases w
     ·rw[t.bh a o' z]at q3;cases q3;exact(R.nt (inI h) q1 w).elim
  obtain⟨U2,u1,u2⟩:∃U2:Hp,(∀a,a∈L\/a∈l->U2 a=none)/\∀a,¬ (a∈L\/a∈l)->U2 a=J a:=⟨λa=>if a∈L\/a∈l then none else J a,λa h=>YG h,λa h=>on h⟩
  have W:∀{a},J a=none->U2 a=none:=λ{a} h=>by
   by_cases z:a∈L\/a∈l
   ·exact u1 a z
   ·rw[u2 a z];exact h
  have sU2:Same U U2:=λa o q=>by
   have z:¬ (a∈L\/a∈l):=λz=>by rw[R.un i a (inI z)]at q;cases q
   rw[u2 a z];exact e1.u a o (sUp a o q)
  have l1:=t.lo T.length;rw[c7,YG ⟨rfl,by rw[lr];omega⟩,eE,YG K,ku,YG rfl]at l1;obtain⟨v',hv',ow1⟩:=l1;cases hv';have ow1:Ow Y S H' d' s v (C T.length):=ow1;obtain⟨D',ow2,e2⟩:=cl S H' d' (C T.length) e1.b keepH ow1;have offN:∀{a j},a∈C j->¬ (a∈L\/a∈l):=λ{a j} h z=>by obtain⟨o,_,q,_⟩:=there z;rw[t.un j a h]at q;cases q
  refine⟨U2,λj=>if j=i then L++(C T.length++l) else if j=T.length then [] else C j,⟨λa o q=>?_,λa o q=>?_,λj=>?_,λj k a X f g=>?_,λj a f=>?_,λj=>?_,by rw[e2,Za];exact K,t.tb⟩,⟨e1.b,sU2,λa o q=>?_⟩,λN n=>⟨n.nd,λa f=>W (n.un a f),λa f j hj=>?_⟩⟩
  · have z:¬ (a∈L\/a∈l):=λz=>by rw[noB z]at q;cases q
    rw[u2 a z];exact t.bu a o q
  · by_cases z:a∈L\/a∈l
    ·rw[u1 a z]at q;cases q
    ·rw[u2 a z]at q;exact t.uh a o q
  · try dsimp only
    split
    · refine Zf.mpr ⟨ndL,Zf.mpr ⟨t.nd _,ndR,λx hx y hy e=>offN hx (.inr (e▸hy))⟩,λx hx y hy e=>?_⟩;rcases YX.mp hy with hy|hy
      ·exact offN hy (.inl (e▸hx))
      ·exact nd3 x hx y (YL _ hy) e
    · split
      ·exact ZD
      ·exact t.nd j
  · have main:∀{k:Nat},k≠i->a∈L++(C T.length++l)->a∈(if k=i then L++(C T.length++l) else if k=T.length then [] else C k)->False:=λ{k} g f hk2=>by
     rw[on g]at hk2;split at hk2
     ·cases hk2
     · rename_i h3;rcases YX.mp f with h|h
       ·exact offN hk2 (.inl h)
       · rcases YX.mp h with h|h
         ·exact t.dj T.length k a (λz=>h3 z.symm) h hk2
         ·exact offN hk2 (.inr h)
    try dsimp only at f g
    by_cases m:j=i
    ·rw[YG m]at f;exact main (λz=>X (by omega)) f g
    · by_cases r:k=i
      ·rw[YG r]at g;exact main m g f
      · rw[on m]at f;rw[on r]at g;split at f
        ·cases f
        · split at g
          ·cases g
          ·exact t.dj j k a X f g
  · try dsimp only at f
    split at f
    · rcases YX.mp f with h|h
      ·exact u1 a (.inl h)
      · rcases YX.mp h with h|h
        ·exact W (t.un _ a h)
        ·exact u1 a (.inr h)
    · split at f
      ·cases f
      ·exact W (t.un j a f)
  · try dsimp only
    rw[e2,c7];by_cases m:j=i
    ·subst m;rw[YG ⟨rfl,hi⟩,YG rfl,hm];exact⟨v0,hv,ow2⟩
    · rw[on λz=>m z.1.symm,on m];by_cases r:j=T.length
      · subst r;rw[YG rfl]
        have:rg T T.length=none:=by unfold rg;rw[List.getElem?_eq_none (Nat.le_refl _)];rfl
        rw[this];rfl
      · rw[on r];have l2:=t.lo j;rw[c7,on λz=>r z.1.symm,eE,Za,on r,c7,on λz=>m z.1.symm,eE,on (by omega),ku,on r]at l2;have l0:=R.lo j;cases ed:rg T j with
        |none=>rw[ed]at l2;exact l2
        |some x=>
          rw[ed]at l2 l0;obtain⟨y,hy,w⟩:=l2;refine⟨y,hy,?_⟩;cases em:M.getD j .F with
          |F=>rw[em]at w;exact w
          |O s'=>rw[em]at w;exact w
          |R=>
            rw[em]at w l0;obtain⟨y',hy',w'⟩:=l0;rw[hy]at hy';cases hy';exact⟨Dn.mono sU2 w'.1,w.2⟩
  · rcases e1.nb a o q with w|w|w
    ·exact .inl w
    ·exact .inr (.inl (sUp.free w))
    ·exact .inr (.inr w)
  · try dsimp only at hj
    split at hj
    · rcases YX.mp hj with h|h
      ·obtain⟨o,_,q,_⟩:=there (.inl h);rw[n.un a f]at q;cases q
      · rcases YX.mp h with h|h
        ·exact n.ap a f _ h
        ·obtain⟨o,_,q,_⟩:=there (.inr h);rw[n.un a f]at q;cases q
    · split at hj
      ·cases hj
      ·exact n.ap a f j hj
 have hbo:∀k∈iJ ps,k<T.length:=by
  have key:∀{ps:List Ap} {ds:List D} {vs:List V},Ag Y B U H Z T ps ds vs->∀k∈iJ ps,k<T.length:=by
   intro ps
   induction ps with
   |nil=>intro ds vs _ k g;cases g
   |cons p ps ih=>
     intro ds vs G k g;obtain⟨d,dr,v,vr,rfl,rfl,m,r⟩:=G;cases p with
     |Bo q=>
       rcases YS.mp g with z|z
       ·subst z;exact(Y2.mp (bQ m.2)).1
       ·exact ih r k z
     |_=>exact ih r k g
  exact key G
 refine lD (M:=Ct M T.length s) (ps:= .O T.length::ps) (ds:=d::ds) Rp Gp ⟨show(Ct M T.length s).getD T.length .F= .O s by rw[ku,YG rfl],fitM.any hl hf⟩ (by show(T.length::cD ps).Nodup;rw[hl];simp)
  (λk g z=>by
    have z:k∈T.length::cD ps:=z;rw[hl]at z
    have:=hbo k g
    have:=YT.mp z
    omega) hU ?_
 unfold bV;unfold gH at P;cases ef:fm (d::ds) with
 |bad=>rw[ef]at P;exact P
 |ok x ρc=>
   rw[ef]at P
   try dsimp only at P ⊢
   rw[cy,jh hl];intro u I U1 As1 H1 N t e1 n1 k1;cases er:rg ρc 0 with
   |none=>rw[er]at P;exact P.elim
   |some d'=>
     rw[er]at P t;obtain⟨U2,As2,R2,e2,n2⟩:=back t e1;exact P u I U2 As2 H1 N R2 e2 (n2 N n1) (hU _ _ _ _ _ _ _ k1)
 |exc c ρc=>
   rw[ef]at P
   try dsimp only at P ⊢
   rw[cy,jh hl];intro I U1 As1 H1 t e1;cases er:rg ρc 0 with
   |none=>rw[er]at P;exact P.elim
   |some d'=>
     rw[er]at P t;obtain⟨U2,As2,R2,e2,n2⟩:=back t e1;exact P I U2 As2 H1 R2 e2
end
end Mi
namespace L2
open PySem PySem.Spec PyProof.Rows PySem.W
section
variable{n:Nat}(hn:0<n)
include hn
end
def pick{W:Type}(l:List W)(p:List Nat):List W:=p.filterMap λi=>l[i]?
end L2
namespace Mi
open PySem L2
def i0:List D->Option (List (List Int))
 |[]=>some []
 |.tup ds::r=>(match bX ds,i0 r with|some k,some a=>some (k::a)|_,_=>none)
 |_::_=>none
section
variable{Y:Cm}{E:XK}{M:List Md}{K:F0}
def HB{b:List (List aH)}{a:List (List Int)}(e:i0 (b.map λk=>.tup (k.map kD))=some a):b=a.map λk=>k.map Sum.inl:=by
 have c:∀{k:List aH} {ns:List Int},bX (k.map kD)=some ns->k=ns.map Sum.inl:=by
  intro k
  induction k with
  |nil=>intro ns e;cases e;rfl
  |cons x k d=>
    intro ns e;cases x with
    |inl i=>
      rw[YI]at e;have e:(bX (k.map kD)).map (i::·)=some ns:=e;obtain⟨M,e1,rfl⟩:=Y3.mp e;rw[d e1];rfl
    |inr i=>cases e
 induction b generalizing a with
 |nil=>cases e;rfl
 |cons k b d=>
   rw[YI,i0]at e;cases e1:bX (k.map kD) with
   |none=>rw[e1]at e;cases e
   |some n=>
     cases f:i0 (b.map λk=>.tup (k.map kD)) with
     |none=>rw[e1,f]at e;cases e
     |some ns=>
       rw[e1,f]at e;cases e;rw[c e1,d f];rfl
def Lw(c:Nat)(b:Str)(get:P1->Option D)(set:P1->D->P1)(d:List D->Out D)(a:P1->Res (List D)):P1->Out D:=λT=>match get T with
 |none=>.bad
 |some o=>if bq c b o=true then ((a T).up T).bind λds T=>gH set d o ds T else .bad
def LG{l:KT D V}{C:List D->Out D}{get:P1->Option D}{set:P1->D->P1}{m:P1->Res (List D)}(p:Prt Y M ta get set i s)(h:AJ Y E M ps t m)(hf:fitM M ps g)
 (hl:cD ps=[]) (hb:i∉iJ ps) (hU:∀d v B U J H N,l d v B U H N->l d v B J H N):MJ Y l E M (cY (Y c) n (xL Y (.O s::g) l C) [] E ta t) (Lw c n get set C m):=by
 intro B U As Z H T Q R P;unfold Lw at P;cases e:get T with
 |none=>rw[e]at P;exact P.elim
 |some o=>
   rw[e]at P;dsimp only at P;by_cases z:bq c n o=true
   · rw[YG z]at P;obtain⟨sh,v0,d0,v,L,A,R',hm,hv,hd,y,ht,S,cl⟩:=p.rd R e;refine ht _ ?_;have x:Dn Y H o v:=Ow.dn R.bh (λ_ _ _ h=>h) S;obtain⟨a,dx,fs,rfl,h1,h2⟩:=jj z x;refine⟨a,dx,fs,rfl,h1,h2,h B U As Z H T _ R ?_⟩;cases F:m T with
     |ok ds=>
       rw[F]at P;intro vs X W K N2 R2 f n2 G;rw[Zm]
       have u:∀{a},a∈L\/a∈R'->a∈As i:=λ{a} h=>by
        rw[y];rcases h with h|h
        ·exact YU _ h
        ·exact YL _ (YL _ h)
       have same:∀{a},a∈As i->K a=H a:=λ{a} h=>by
        obtain⟨o',q⟩:=R.at h;rw[q,f.h _ _ q]
       exact K5 R2 hm hv hd y (Ow.mono f.b (λa j=>same (by rw[y];exact YL _ (YU _ j))) S)
        (λI H1 d' A1 sb k w=>cl I H1 d' A1 (f.b.trans sb) (λa j=>by rw[k a j,same (u j)]) w) G hf hl hb hU (Mo.at (r:=gH set C o ds T) P f.toEx)
     |exc c=>rw[F]at P;exact λX W K R2 f=>P X W As K R2 f.toEx
     |bad=>rw[F]at P;exact P
   ·rw[on z]at P;exact P.elim
def Ls{d:List D->Out D}{get:P1->Option D}{set:P1->D->P1}{m:P1->Res (List D)}(p:Prt Y M ta get set i s)(h:AJ Y E0 M ps t m)(f:fitM M ps a)
 (e:cD ps=[]) (g:i∉iJ ps):MJ Y (KR Y .F) E0 M (cY (Y c) b (gc Y (.O s::a) (KR Y .F) d) [] E0 ta t) (Lw c b get set d m):=LG p h f e g λ_ _ _ _ _ _ _ h=>h
end
end Mi
namespace Cl
open PySem L2 Mi
section
variable{Z σ' W X L J:Type}{rep:Z->P1}{Y:σ'->P1}
def r9:∀l:List (List Int),i0 (l.map (kY D.int))=some l
 |[]=>rfl
 | k::l=>by
   rw[YI];show(match bX (k.map D.int),i0 (l.map (kY D.int)) with|some k,some a=>some (k::a)|_,_=>none)=_;rw[dE,r9 l]
@[simp] def gI(g:Z->Option (List W))(k:Z->Option Int):Z->Option W:=λs=>match g s,k s with
 |some l,some k=>if 0<=k then l[k.toNat]? else none
 |_,_=>none
@[simp] def pI(g:Z->Option (List W))(p:Z->List W->Z)(k:Z->Option Int):Z->W->Z:=λs y=>match g s,k s with
 |some l,some k=>p s (l.set k.toNat y)
 |_,_=>s
def oA{k:Z->Option Int}(h:∀s,rg (rep s) j=(k s).map D.int):∀s,DP j (rep s)=k s:=λs=>by
 unfold DP;rw[h];cases k s<;>rfl
def Xz{get:P1->Option D}{mk:P1->Option Int}{g:Z->Option (List W)}{k:Z->Option Int}(b:∀s,get (rep s)=(g s).map (eL e))(a:∀s,mk (rep s)=k s)(s:Z):kN get mk (rep s)=(gI g k s).map e:=by
 unfold kN gI;rw[b,a];cases g s with
 |none=>rfl
 |some l=>
   cases k s with
   |none=>rfl
   |some k=>
     show(if 0<=k then (l.map e)[k.toNat]? else none)=(if 0<=k then l[k.toNat]? else none).map e;by_cases z:0<=k
     ·rw[YG z,YG z,Y5]
     ·rw[on z,on z];rfl
def Yr{e:W->D}{get:P1->Option D}{set:P1->D->P1}{mk:P1->Option Int}{g:Z->Option (List W)}{p:Z->List W->Z}{k:Z->Option Int}(c:∀s,get (rep s)=(g s).map (eL e))(a:∀s l,set (rep s) (eL e l)=rep (p s l))(b:∀s,mk (rep s)=k s)(s:Z)(y:W):
 mB get set mk (rep s) (e y)=rep (pI g p k s y):=by
 unfold mB pI;rw[c,b];cases g s with
 |none=>rfl
 |some l=>
   cases k s with
   |none=>rfl
   |some k=>
     show set (rep s) (.lst ((l.map e).set k.toNat (e y)))=rep (p s (l.set k.toNat y));rw[<-a,<-An4];rfl
@[simp] def Xw(g:Z->Option W)(p:Z->W->Z)(a:σ'->W)(d:Z->Res J)(f:W->J->OutC σ' L):Z->OutC Z L:=λs=>match g s with
 |none=>.bad
 | some o=>match d s with
   |.ok r=>(match f o r with | .ok x b=>.ok x (p s (a b)) | .exc c b=>.exc c (p s (a b)) | .bad=>.bad)
   |.exc c=>.exc c s
   |.bad=>.bad
def Nj{e0:W->D}{e:J->List D}{get:P1->Option D}{set:P1->D->P1}{l:List D->Out D}{b:P1->Res (List D)}{g:Z->Option W}{p:Z->W->Z}{j:σ'->W}{f:W->J->OutC σ' L}
 (A:∀s,get (rep s)=(g s).map e0) (t:∀s y,set (rep s) (e0 y)=rep (p s y)) (v:∀a,bq c n (e0 a)=true) (u:EJ rep e (λT=>(b T).bind .ok) m) (B:∀a r,SimO Y eR (l (e0 a::e r)) (f a r)) (d:∀i,rg (Y i) 0=some (e0 (j i))):
 NJ rep eR (Lw c n get set l b) (Xw g p j m f):=λs=>by
 unfold Lw Xw;rw[A];cases g s with
 |none=>trivial
 |some o=>
   dsimp only[Option.map];rw[if_pos (v o)];have h:=u s;cases q:m s with
   |bad=>trivial
   |exc x=>
     rw[q]at h;have h:(b (rep s)).bind .ok=.exc x:=h;cases z:b (rep s) with
     |ok y=>rw[z]at h;cases h
     |exc y=>rw[z]at h;cases h;rfl
     |bad=>rw[z]at h;cases h
   |ok r=>
     rw[q]at h;have h:(b (rep s)).bind .ok=.ok (e r):=h
     have z:b (rep s)=.ok (e r):=by
      cases z:b (rep s) with
      |ok y=>rw[z]at h;exact h
      |exc y=>rw[z]at h;cases h
      |bad=>rw[z]at h;cases h
     rw[z];show SimO rep eR (gH set l (e0 o) (e r) (rep s)) _;unfold gH;have k:=B o r;dsimp only;cases w:f o r with
     |bad=>trivial
     |ok x i=>
       rw[w]at k;have k:l (e0 o::e r)=.ok (eR x) (Y i):=k;rw[k];dsimp only;rw[d];dsimp only;rw[t];rfl
     |exc x i=>
       rw[w]at k;have k:l (e0 o::e r)=.exc x (Y i):=k;rw[k];dsimp only;rw[d];dsimp only;rw[t];rfl
end
end Cl
namespace L2
open PySem PySem.Spec PyProof.Rows
section
variable{X:Cx}{G:L9}{Z:St}{H:Hp}{s:Shared}{a:Addr}{kvs:List (List aH×V)}
def HZ(f:∀b xs,H b=some (.tup xs)->b≠a)(x:ObjOk X.prog X.w H h a (.dT kvs)):ObjOk X.prog X.w (upd H a u) h a (.dT kvs):=by
 obtain⟨z,y,xs,r,bf⟩:=x;refine⟨z,y,xs,?_,bf⟩
 have d:∀{c:List (List aH×V)} {l2:List (List aH×Addr×Value)},Paired (λ(p:List aH×V) (q:List aH×Addr×Value)=>p.1=q.1/\H q.2.1=some (.tup (p.1.map kV))/\RelV p.2 q.2.2) c l2->
  Paired (λ(p:List aH×V) (q:List aH×Addr×Value)=>p.1=q.1/\upd H a u q.2.1=some (.tup (p.1.map kV))/\RelV p.2 q.2.2) c l2:=by
  intro c l2 h
  induction h with
  |nil=>exact .nil
  |cons h _ e=>exact .cons ⟨h.1,by rw[aq (f _ _ h.2.1)];exact h.2.1,h.2.2⟩ e
 exact d r
def Inv.freeze(I:Inv X G Z H s)(d:H a=some (.dT kvs)):∃o,s.heap.get? a=some o/\Inv X G Z (upd H a (.frz o (.dT kvs))) s:=by
 have x:=I.hok a _ d;obtain⟨_,_,_,_,o,f,ep,c,_⟩:=(show ObjOk X.prog X.w H s.heap a (.dT kvs) from x);refine⟨o,c,?_⟩
 have:=I.write (x:=a) (e:=a) (o:=.frz o (.dT kvs)) (h':=s.heap) (t':=s.toks) (by rw[d];trivial) (.inl rfl) (λb u _ e=>e) ⟨o,c⟩ ⟨c,HZ (X:=X) (λb xs e z=>by rw[z,d]at e;cases e) x⟩
 exact this
def Inv.thaw(I:Inv X G Z H s)(D:H a=some (.frz o (.dT kvs)))(h0:∀o u,X.H₀ a≠some (.frz o u)):Inv X G Z (upd H a (.dT kvs)) s:=by
 have x:ObjOk X.prog X.w H s.heap a (.frz o (.dT kvs)):=I.hok a _ D;have ne:∀{b:Addr} {u:HO},H b=some u->(∀o v,u≠ .frz o v)->b≠a:=λ{b u} e h z=>by rw[z,D]at e;cases e;exact h _ _ rfl
 have d:∀{b:Addr},H b=none->b≠a:=λ{b} e z=>by rw[z,D]at e;cases e
 refine⟨I.ok,I.os,I.bare,⟨I.base.keep,I.base.slot,λb ob q n B=>?_,I.base.there,λb xs e=>?_,λb ob u e=>?_,λb l e=>?_⟩,I.loc,I.cell,?_,λy c e=>?_,λp hp=>?_,λb u e=>?_,I.len⟩
 · have:=I.base.free b ob q n B
   rw[aq (d this)];exact this
 · have:=I.base.tups b xs e
   rw[aq (ne this λ_ _ z=>by cases z)];exact this
 ·have F:b≠a:=λz=>h0 ob u (z▸e);rw[aq F];exact I.base.frzs b ob u e
 ·obtain⟨f,g⟩:=I.base.tbls b l e;refine⟨by rw[aq (ne f λ_ _ z=>by cases z)];exact f,λc ob e1 m=>?_⟩;obtain⟨j,k⟩:=g c ob e1 m;exact⟨by rw[aq (ne j λ_ _ z=>by cases z)];exact j,k⟩
 ·rw[aq (d I.free)];exact I.free
 ·rw[aq (d (I.freeC y c e))];exact I.freeC y c e
 ·obtain⟨f,g,j,k⟩:=I.pin p hp;exact⟨f,by rw[aq (d g)];exact g,j,k⟩
 · have tn:∀b xs,H b=some (.tup xs)->b≠a:=λb xs e=>ne e λ_ _ z=>by cases z
   by_cases z:b=a
   ·subst z;rw[ay]at e;cases e;exact HZ (X:=X) tn x.2
   · rw[aq z]at e;have y:=I.hok b u e
     have i:∀(u:HO) (b:Addr),ObjOk X.prog X.w H s.heap b u->ObjOk X.prog X.w (upd H a (.dT kvs)) s.heap b u:=by
      intro u
      induction u with
      |dT E=>
        intro b y;obtain⟨z,w,xs,r,bf⟩:=(show ObjOk X.prog X.w H s.heap b (.dT E) from y);refine⟨z,w,xs,?_,bf⟩
        have i:∀{t:List (List aH×V)} {l2:List (List aH×Addr×Value)},Paired (λ(p:List aH×V) (q:List aH×Addr×Value)=>p.1=q.1/\H q.2.1=some (.tup (p.1.map kV))/\RelV p.2 q.2.2) t l2->
         Paired (λ(p:List aH×V) (q:List aH×Addr×Value)=>p.1=q.1/\upd H a (.dT kvs) q.2.1=some (.tup (p.1.map kV))/\RelV p.2 q.2.2) t l2:=by
         intro t l2 h
         induction h with
         |nil=>exact .nil
         |cons h _ A=>exact .cons ⟨h.1,by rw[aq (tn _ _ h.2.1)];exact h.2.1,h.2.2⟩ A
        exact i r
      |ins C dx fs=>
        intro b y;obtain⟨f,g⟩:=(show ObjOk X.prog X.w H s.heap b (.ins C dx fs) from y);exact⟨by rw[aq (ne f λ_ _ z=>by cases z)];exact f,g⟩
      |frz o u A=>intro b y;exact⟨y.1,A b y.2⟩
      |tbl l=>
        intro b y;obtain⟨f,ps,g,j,k⟩:=(show ObjOk X.prog X.w H s.heap b (.tbl l) from y);exact⟨f,ps,g,j,λx B=>(k x B).imp id λ⟨c,e1,m,J⟩=>⟨c,e1,by rw[aq (ne m λ_ _ z=>by cases z)];exact m,J⟩⟩
      |_=>intro b y;exact y
     exact i u b y
def Itd(a:Addr)(o:Obj)(bs:List Addr):It:=
 ⟨λi H=>(∃kvs:List (List aH×V),H a=some (.frz o (.dT kvs)))/\i<bs.length,λi H x H'=>H'=H/\∃b,bs[i]?=some b/\x=.ref b,λi H=>(∃kvs:List (List aH×V),H a=some (.frz o (.dT kvs)))/\bs.length<=i⟩
def Cb{P:Program}{w:World}{K:F0}{M:Expr}{o:Obj}{f:Array DictEntry}{ep:Nat}{bs:List Addr}(a g:Addr)(J:o.ExactDict)(hd:o.data=.dict f ep)(U:bs.length=f.size)(O:∀(i:Nat) (h:i<f.size) b,bs[i]?=some b->f[i].key=.ref b):
 Turn P w K M (Itd a o bs) [g] g (λi h=>i<=f.size/\h.IsKeyIter g a i f.size ep) where
 mem:=by simp
 obj:=λi h st b l=>by
  have e:b=g:=by simpa using l
  subst e;obtain⟨_,o,e,c,d⟩:=st;exact⟨o,e,λv z=>by rw[d]at z;cases z⟩
 keep:=λi h h' st k=>⟨st.1,st.2.at λo e=>k g (by simp) o e⟩
 item:=by
  intro X u q x L i G s Z H E I n st r;subst u q x;obtain⟨⟨kvs,t⟩,hi⟩:=r;have y:ObjOk X.prog X.w H s.heap a (.frz o (.dT kvs)):=I.hok a _ t;obtain⟨F,D,Q,C,B,A⟩:=n g (by simp);have j:i<f.size:=by omega
  refine nM st.2 ⟨o,y.1,J,hd⟩ j λh' m N=>?_;have S:Inv X G Z H {s with heap:=h'}:=I.turned (t':=s.toks) (λb o l e=>(N.2 b l).trans e) F D C B A;obtain⟨T,e,c,d⟩:=id m;have p:bs[i]?=some (bs[i]):=Y1 hi;refine⟨_,rfl,AV (s:={s with heap:=h'}) e c d (by decide) ⟨.ref bs[i],H,S,O i j _ p,⟨rfl,_,p,rfl⟩,⟨j,m⟩,λb l=>(n b l).1⟩⟩
 done:=by
  intro X u q x L i G s Z H E I n st r;subst u q x;obtain⟨⟨kvs,t⟩,hi⟩:=r;have y:ObjOk X.prog X.w H s.heap a (.frz o (.dT kvs)):=I.hok a _ t;obtain⟨F,D,Q,C,B,A⟩:=n g (by simp);have R:i=f.size:=Nat.le_antisymm st.1 (by omega);subst R;exact tH (I.ok.hd L) st.2 ⟨o,y.1,J,hd⟩ λh' p=>⟨rfl,I.turned (t':=s.toks) (λb o l e=>p b o l e) F D C B A⟩
 self:=λ_ _ _ _ _ st h=>wpAny_pyIter_keyiter st.2 h
def LS(c:TE):TI:=λZ H R=>c Z H λx H1=>∃a o kvs,x=.ref a/\H1 a=some (.frz o (.dT kvs))/\
 ∀bs:List Addr,bs.length=kvs.length->(∀(i:Nat) k v b,kvs[i]?=some (k,v)->bs[i]?=some b->H1 b=some (.tup (k.map kV)))->R (Itd a o bs) H1
def Pi{K:Expr}(Q:PE X l E):PI X K l (LS E):=by
 intro G s Z H R I h;refine br (Q G s Z H _ I h) λv c ⟨x,H1,B,L,M⟩=>?_;obtain⟨a,o,kvs,rfl,U,q⟩:=M;cases L;have y:ObjOk X.prog X.w H1 c.heap a (.frz o (.dT kvs)):=B.hok a _ U;obtain⟨z,hd,m,n,o',j,ep,J,F,d,u,P⟩:=(show ObjOk X.prog X.w H1 c.heap a (.dT kvs) from y.2);have Y:o'=o:=by have:=y.1;rw[J]at this;exact Y6 this
 subst Y;have t:kvs.length=m.length:=ZU n
 have r:j.size=m.length:=by
  have e:=congrArg List.length u
  rwa [YJ,Zq]at e
 have S:∀(i:Nat) (h:i<j.size) b,(m.map λy=>y.2.1)[i]?=some b->j[i].key=.ref b:=λi h b e=>by
  rw[Y5]at e;cases g:m[i]? with
  |none=>rw[g]at e;cases e
  |some y=>
    rw[g]at e;have D:y.2.1=b:=Y6 e;have A:j.toList[i]?=some j[i]:=by rw[Z8];exact ZJ h
    rw[u,Y5,g]at A;have ee:entryOfKey (tupleKind (au X.prog X.w)) y=j[i]:=Y6 A;rw[<-ee,lX,D]
 refine nL hd ⟨o',J,F,d⟩ ?_;have I2:Inv X G Z H1 {c with heap:=c.heap.push {cls:=.type "dict_keyiterator",data:=.fields #[.ref a,.int 0 0,.int j.size 0,.int ep 0]}}:=B.kept (t':=c.toks) λb o e=>YN _ e;refine⟨c.heap.objs.size,[c.heap.objs.size],_,_,H1,rfl,I2,Cb (bs:=m.map λy=>y.2.1) a _ F d (by rw[YJ,r]) S,⟨Z3 _,⟨_,Y4 _ rfl,rfl,rfl⟩⟩,λb T=>?_,q _ (by rw[YJ,t]) λi k v b e1 f=>?_⟩
 · have e:b=c.heap.objs.size:=by simpa using T
   subst e;exact B.fpOk (YY _) (B.hok.fresh (YY _))
 · rw[Y5]at f;cases g:m[i]? with
   |none=>rw[g]at f;cases f
   |some y=>
     rw[g]at f;have D:y.2.1=b:=Y6 f
     have N:∀{C:List (List aH×V)} {l2:List (List aH×Addr×Value)},Paired (λ(p:List aH×V) (q:List aH×Addr×Value)=>p.1=q.1/\H1 q.2.1=some (.tup (p.1.map kV))/\RelV p.2 q.2.2) C l2->
      ∀{i:Nat} {p q},C[i]?=some p->l2[i]?=some q->H1 q.2.1=some (.tup (p.1.map kV)):=by
      intro C l2 hp
      induction hp with
      |nil=>intro i p q e;cases e
      |cons W _ O=>
        intro i p q e1 f;cases i with
        |zero=>cases e1;cases f;exact W.2.1
        |succ i=>exact O e1 f
     rw[<-D];exact N n e1 g
def D3(t:TE):TE:=λZ H Q=>t Z H Q\/∃a kvs,H a=some (.dT kvs)/\∀o,t Z (upd H a (.frz o (.dT kvs))) λv H1=>H1 a=some (.frz o (.dT kvs))/\Q v (upd H1 a (.dT kvs))
def KP(h:PE X e t):PE X e (D3 t):=by
 intro G s Z H Q I q;rcases q with q|⟨a,kvs,b,q⟩
 ·exact h G s Z H Q I q
 · obtain⟨o,j,g⟩:=I.freeze b;refine br (h G s Z _ _ g (q o)) λu i ⟨v,H1,f,r,e1,d⟩=>⟨v,_,f.thaw e1 λo' c z=>?_,r,d⟩
   have:=I.base.frzs a o' c z
   rw[b]at this;cases this
end
end L2
namespace Mi
open PySem L2
structure Fz (a:Addr) (kvs:List (List aH×V)) (G G':Hp):Prop where
 ne:∀b,b≠a->G' b=G b
 fr:∀x,G a=some x->x=.dT kvs\/∃o,x=.frz o (.dT kvs)
 to:∀x,G a=some x->Rd G' a (.dT kvs)
 no:G a=none->G' a=none
section
variable{Y:Cm}{a:Addr}{kvs:List (List aH×V)}{E:XK}{M:List Md}{K:F0}
def Fz.at{G:Hp}(F:Fz a kvs G d)(e:G b=some x)(n:nd x):b≠a/\d b=some x:=by
 have c:b≠a:=λz=>by
  subst z;rcases F.fr x e with q|⟨o,q⟩<;>rw[q]at n<;>exact n
 exact⟨c,by rw[F.ne b c];exact e⟩
def A0(F:Fz a kvs G e):Dn Y G d v->Dn Y e d v:=Dn.imp ⟨λb x q n=>(F.at q n).2,λb k c=>by
 by_cases z:b=a
 ·subst z;rcases c with c|⟨o,c⟩<;>rcases F.fr _ c with q|⟨o,q⟩<;>cases q<;>exact F.to _ c
 · show e b=_\/∃o,e b=_;rw[F.ne b z]
   exact c⟩
def Rel.fz(R:Rel Y M B U As Z H T)(FB:Fz a kvs B S)(g:Fz a kvs U J)(o:Fz a kvs H H')(k:∀i,a∉As i)(bu:Same S J)(uh:Same J H'):Rel Y M S J As Z H' T:=by
 have c:∀{i b},b∈As i->b≠a:=λ{i b} h z=>k i (z▸h);refine⟨bu,uh,R.nd,R.dj,λi b e=>by rw[g.ne b (c e)];exact R.un i b e,λi=>?_,R.len,λp hp=>?_⟩
 · have l:=R.lo i;unfold Lo at l ⊢;cases q:rg T i with
   |none=>rw[q]at l;exact l
   |some d=>
     rw[q]at l;obtain⟨v,j,w⟩:=l;refine⟨v,j,?_⟩;cases f:M.getD i .F with
     |F=>rw[f]at w;exact⟨A0 FB w.1,w.2⟩
     |R=>rw[f]at w;exact⟨A0 g w.1,w.2⟩
     |O s=>rw[f]at w;exact Ow.imp (A0 FB) (λb e=>o.ne b (c e)) w
 ·obtain⟨l,n,m⟩:=R.tb p hp;exact⟨l,(FB.at n trivial).2,m⟩
def ny(G:Hp)(a:Addr)(u:HO):Hp:=λb=>if b=a then (G a).map λ_=>u else G b
def bY{G:Hp}(h:b≠a):ny G a u b=G b:=on h
def cL{G:Hp}(h:G a=some x):ny G a u a=some u:=by unfold ny;rw[if_pos rfl,h];rfl
def oJ{G:Hp}(h:G a=none):ny G a u a=none:=by unfold ny;rw[if_pos rfl,h];rfl
def jP{G:Hp}(fr:∀x,G a=some x->x=.dT kvs\/∃o,x=.frz o (.dT kvs))(c:u=.dT kvs\/∃o,u=.frz o (.dT kvs)):Fz a kvs G (ny G a u):=
 ⟨λb h=>bY h,fr,λx e=>by
  rcases c with q|⟨o,q⟩
  ·exact .inl (by rw[cL e,q])
  ·exact .inr ⟨o,by rw[cL e,q]⟩,λe=>oJ e⟩
def kQ(s:Same G c):Same (ny G a u) (ny c a u):=λb x e=>by
 by_cases z:b=a
 · subst z;cases q:G b with
   |none=>rw[oJ q]at e;cases e
   |some y=>rw[cL q]at e;rw[cL (s _ _ q)];exact e
 ·rw[bY z]at e ⊢;exact s _ _ e
def mZ:∀(ds:List D) (c:Nat),bo mi me W ds≠ .exc c
 |[],c,h=>by cases h
 | d::ds,c,h=>by
   rw[bo]at h;have f:=mZ (mi:=mi) (me:=me) (W:=W) ds;cases e1:mi (some d::W) with
   |bad=>rw[e1]at h;cases h
   |exc x=>rw[e1]at h;cases h
   |ok b=>
     rw[e1]at h;cases b with
     |false=>exact f c h
     |true=>
       cases e:me (some d::W) with
       |bad=>rw[e]at h;cases h
       |exc x=>rw[e]at h;cases h
       |ok x=>
         rw[e]at h;cases a:bo mi me W ds with
         |ok y=>rw[a]at h;cases h
         |exc y=>exact f y a
         |bad=>rw[a]at h;cases h
def Cg(m:P1->Res D):P1->Res (List D):=λT=>(m T).bind λd=>match d with
 |.dT a _=>.ok (a.map λk=>.tup (k.map kD))
 |_=>.bad
def Lb{C:List Nat}(hc:Cls K (Y c))(hn:NoAttr K (Y c) f)(hm:M.getD i .F= .R)(hix:C.Nodup)
 (hti:PJ Y KB E0 (jJ .F M C) ti mi) (hte:PJ Y (KR Y .F) E0 (jJ .F M C) te me):PJ Y (KO Y (.ct .fz)) E M (D3 (ju (LS (nH K (cK i) f)) C ti te)) (eJ (Cg (un (bA c f) (vr i))) C mi me):=by
 intro B U As Z H T Q R P;have l:=R.lo i;rw[hm]at l;unfold eJ Cg un vr at P;cases e:rg T i with
 |none=>rw[e]at P;exact P.elim
 |some d0=>
   rw[e]at P l;obtain⟨v0,hv0,w0⟩:=l;have w0:Dn Y U d0 v0:=w0.1;replace P:Po Y (KO Y (.ct .fz)) E M B U As Z H T (((bA c f d0).bind λd=>match d with | .dT J _=>Res.ok (J.map λk=>D.tup (k.map kD))|_=>.bad).bind λxs=>if xs.length<af then (bo mi me (dH T C) xs).bind λys=>.ok (.lst ys) else .bad) Q:=P;cases ef:bA c f d0 with
   |bad=>rw[ef]at P;exact P.elim
   |exc x=>exact(kT ef).elim
   |ok d=>
     rw[ef]at P;obtain⟨ns,vs,rfl,lk⟩:=nA ef;rw[Dn]at w0;obtain⟨b,dx,fs,rfl,hb,hns,hvs⟩:=w0;subst hns;obtain⟨x,hx,dx'⟩:=kH hvs lk;cases d with
     |dT J ds=>
       replace P:Po Y (KO Y (.ct .fz)) E M B U As Z H T (if (J.map λk=>D.tup (k.map kD)).length<af then (bo mi me (dH T C) (J.map λk=>D.tup (k.map kD))).bind λys=>.ok (.lst ys) else .bad) Q:=P;rw[Dn]at dx';obtain⟨a,kvs,rfl,hrd,hks,_⟩:=dx'
       -- the T1 over a frozen dict
       have core:∀{I U1 H1:Hp} {o:Obj} {Q1:VK},Rel Y M I U1 As Z H1 T->H1 a=some (.frz o (.dT kvs))->H1 b=some (.ins (Y c) dx fs)->
        (∀bs:List Addr,(∀y∈bs,∃q,H1 y=some q/\eB q)->Po Y (KO Y (.ct .fz)) E M (Mi.frz I H1 bs) (Mi.frz U1 H1 bs) As Z H1 T (if (J.map λk=>D.tup (k.map kD)).length<af then (bo mi me (dH T C) (J.map λk=>D.tup (k.map kD))).bind λys=>.ok (.lst ys) else .bad) Q1)->
        ju (LS (nH K (cK i) f)) C ti te Z H1 Q1:=λ{I U1 H1 o Q1} r ha1 X W=>by
        refine⟨.ref b,bQ hv0,b,_,dx,fs,.ref a,rfl,X,hc,hn,hx,a,o,kvs,rfl,ha1,λbs hl hk p hp=>?_⟩
        have g:∀y∈bs,∃q,H1 y=some q/\eB q:=λy m=>by
         obtain⟨j,hj,ej⟩:=Ae5 m;have h4:bs[j]?=some y:=by rw[<-ej];exact Y1 hj
         have h5:kvs[j]?=some (kvs[j]'(by omega)):=Y1 (by omega);exact⟨_,hk j _ _ y (by rw[h5]) h4,_,rfl⟩
        have R2:Rel Y M (Mi.frz I H1 bs) (Mi.frz U1 H1 bs) As Z H1 T:=r.grow (bx r.bh) (bx r.uh) (Same.refl _) (kR r.bu) (nz r.uh) λi a n=>by
         unfold Mi.frz;split
         ·rename_i z;obtain⟨o,e,t⟩:=g a z;exact(r.nt n e t).elim
         ·exact r.un i a n
        refine BK (k:= .F) hix (λ_ _ _ _ _=>TR) hti hte (λ_ _ _ _ _ _ _ _ _ _ _ _ _=>RZ) (.inl rfl) R2 (vs:=bs.map V.ref) (λH2 s2=>?_) ?_ (W bs g) p hp
        ·have h1:=s2 _ _ ha1;refine⟨λj hj=>⟨⟨kvs,h1⟩,by simpa using hj⟩,λj hj=>⟨⟨kvs,h1⟩,by simpa using hj⟩,λj y H' hj m=>⟨m.1,?_⟩⟩;obtain⟨q,e1,e2⟩:=m.2;rw[Y5,e1,e2];rfl
        · refine Dns.of_get (by rw[YJ,YJ,hl,<-hks,YJ]) λj d y ed ey=>?_;rw[Y5]at ed ey;obtain⟨kk,ek,rfl⟩:=Y3.mp ed;obtain⟨q,eq,rfl⟩:=Y3.mp ey;rw[<-hks,Y5]at ek;obtain⟨kv,ekv,rfl⟩:=Y3.mp ek
          have:=hk j kv.1 kv.2 q (by rw[ekv]) eq
          show Dn Y (Mi.frz I H1 bs) (.tup (kv.1.map kD)) (.ref q);rw[Dn];refine⟨q,_,rfl,?_,uc kv.1⟩;unfold Mi.frz;rw[if_pos (List.mem_of_getElem? eq)];exact this
       have O:∀{I U1 H1:Hp} {bs:List Addr},Rel Y M I U1 As Z H1 T->(∀y∈bs,∃q,H1 y=some q/\eB q)->Gw I U1 H1 (Mi.frz I H1 bs) (Mi.frz U1 H1 bs) H1:=λ{I U1 H1 bs} r g=>by
        refine⟨⟨bx r.bh,bx r.uh,λa o q=>?_⟩,Same.refl _,λa o q=>?_⟩
        · unfold Mi.frz at q;split at q
          ·rename_i z;obtain⟨o',e,t⟩:=g a z;rw[e]at q;cases q;exact .inr (.inr t)
          ·exact .inl q
        · unfold Mi.frz at q;split at q
          ·rename_i z;obtain⟨o',e,t⟩:=g a z;rw[e]at q;cases q;exact .inr (.inr t)
          ·exact .inl q
       rcases hrd with n|⟨o,n⟩
       · refine .inr ⟨a,kvs,R.uh _ _ n,λo=>?_⟩;have hU:∀x,U a=some x->x=.dT kvs:=λx q=>by rw[n]at q;cases q;rfl
         have hB:∀x,B a=some x->x=.dT kvs:=λx q=>hU x (R.bu _ _ q);have L:H a=some (.dT kvs):=R.uh _ _ n;have hA:∀i,a∉As i:=λi z=>by rw[R.un i a z]at n;cases n
         have eH:upd H a (.frz o (.dT kvs))=ny H a (.frz o (.dT kvs)):=by
          funext y;by_cases z:y=a
          ·subst z;rw[ay,cL L]
          ·rw[aq z,bY z]
         rw[eH];have u0:(HO.frz o (.dT kvs))=.dT kvs\/∃o',(HO.frz o (.dT kvs))=.frz o' (.dT kvs):=.inr ⟨o,rfl⟩
         have r:Rel Y M (ny B a (.frz o (.dT kvs))) (ny U a (.frz o (.dT kvs))) As Z (ny H a (.frz o (.dT kvs))) T:=
          R.fz (jP (λx q=>.inl (hB x q)) u0) (jP (λx q=>.inl (hU x q)) u0) (jP (λx q=>by rw[L]at q;cases q;exact .inl rfl) u0) hA (kQ R.bu) (kQ R.uh)
         have X:ny H a (.frz o (.dT kvs)) b=some (.ins (Y c) dx fs):=by
          have hba:b≠a:=λz=>by rw[z,n]at hb;cases hb
          rw[bY hba];exact R.uh _ _ hb
         refine core r (cL L) X λbs g=>?_;have g1:=O r g
         have abs:a∉bs:=λz=>by
          obtain⟨q,e1,t⟩:=g a z;rw[cL L]at e1;cases e1;obtain⟨_,t⟩:=t;cases t
         by_cases zl:(J.map λk=>D.tup (k.map kD)).length<af
         · rw[YG zl]at P ⊢;cases ec:bo mi me (dH T C) (J.map λk=>D.tup (k.map kD)) with
           |bad=>rw[ec]at P;exact P.elim
           |exc q=>exact(mZ _ _ ec).elim
           |ok zs=>
             rw[ec]at P;intro v B3 U3 H3 N R3 g3 n3 w3;have w3:Ow Y B3 H3 (.lst zs) (.ct .fz) v N:=w3;have A:H3 a=some (.frz o (.dT kvs)):=g3.h _ _ (cL L);refine⟨A,?_⟩
             have L8:upd H3 a (.dT kvs)=ny H3 a (.dT kvs):=by
              funext y;by_cases z:y=a
              ·subst z;rw[ay,cL A]
              ·rw[aq z,bY z]
             rw[L8];have t0:(HO.dT kvs)=.dT kvs\/∃o',(HO.dT kvs)=.frz o' (.dT kvs):=.inl rfl
             have f3:∀{G:Hp},Same G H3->∀x,G a=some x->x=.dT kvs\/∃o',x=.frz o' (.dT kvs):=λs x q=>by
              have:=s _ _ q
              rw[A]at this;cases this;exact .inr ⟨o,rfl⟩
             have hA3:a∉N:=λz=>by have:=n3.fr a z;rw[cL L]at this;cases this
             have U2a:Mi.frz (ny U a (.frz o (.dT kvs))) (ny H a (.frz o (.dT kvs))) bs a=some (.frz o (.dT kvs)):=by unfold Mi.frz;rw[if_neg abs];exact cL n
             have w:∀{G G3:Hp},Same G H->Same (Mi.frz (ny G a (.frz o (.dT kvs))) (ny H a (.frz o (.dT kvs))) bs) G3->Same G (ny G3 a (.dT kvs)):=λ{G G3} sg s3 y x q=>by
              by_cases z:y=a
              · subst z;have hx:x=.dT kvs:=by have:=sg _ _ q;rw[L]at this;cases this;rfl
                have:Mi.frz (ny G y (.frz o (.dT kvs))) (ny H y (.frz o (.dT kvs))) bs y=some (.frz o (.dT kvs)):=by unfold Mi.frz;rw[if_neg abs];exact cL q
                rw[cL (s3 _ _ this),hx]
              · rw[bY z];refine s3 _ _ ?_;unfold Mi.frz;split
                ·rw[bY z];exact sg _ _ q
                ·rw[bY z];exact q
             refine P v (ny B3 a (.dT kvs)) (ny U3 a (.dT kvs)) (ny H3 a (.dT kvs)) N (R3.fz (jP (f3 R3.bh) t0) (jP (f3 R3.uh) t0) (jP (f3 (Same.refl _)) t0) hA (kQ R3.bu) (kQ R3.uh)) ⟨⟨w R.bh g3.b,w R.uh g3.u,λy x q=>?_⟩,λy x q=>?_,λy x q=>?_⟩ ⟨n3.nd,λy m=>?_,λy m=>?_⟩ (Ow.imp (A0 (jP (f3 R3.bh) t0)) (λy m=>bY λz=>hA3 (z▸m)) w3)
             · by_cases z:y=a
               · subst z;cases S:B3 y with
                 |none=>rw[oJ S]at q;cases q
                 |some x'=>
                   rw[cL S]at q;cases q;rcases g3.nb y x' S with h|h|h
                   · unfold Mi.frz at h;rw[if_neg abs]at h;cases q0:B y with
                     |none=>rw[oJ q0]at h;cases h
                     |some x0=>rw[hB x0 q0];exact .inl rfl
                   ·rw[U2a]at h;cases h
                   ·have:=R3.bh _ _ S;rw[A]at this;cases this;obtain⟨_,h⟩:=h;cases h
               · rw[bY z]at q;rcases g3.nb y x q with h|h|h
                 · unfold Mi.frz at h;split at h
                   ·rename_i m;obtain⟨q1,e1,t⟩:=g y m;rw[e1]at h;cases h;exact .inr (.inr t)
                   ·rw[bY z]at h;exact .inl h
                 · unfold Mi.frz at h;split at h
                   ·rename_i m;obtain⟨q1,e1,t⟩:=g y m;rw[e1]at h;cases h
                   ·rw[bY z]at h;exact .inr (.inl h)
                 ·exact .inr (.inr h)
             · by_cases z:y=a
               ·subst z;rw[L]at q;cases q;exact cL A
               ·rw[bY z];exact g3.h _ _ (by rw[bY z];exact q)
             · by_cases z:y=a
               · subst z;cases S:U3 y with
                 |none=>rw[oJ S]at q;cases q
                 |some x'=>rw[cL S]at q;cases q;exact .inl n
               · rw[bY z]at q;rcases g3.fr y x q with h|h|h
                 · unfold Mi.frz at h;split at h
                   ·rename_i m;obtain⟨q1,e1,t⟩:=g y m;rw[e1]at h;cases h;exact .inr (.inr t)
                   ·rw[bY z]at h;exact .inl h
                 ·rw[bY z]at h;exact .inr (.inl h)
                 ·exact .inr (.inr h)
             · have:=n3.fr y m
               have z:y≠a:=λz=>hA3 (z▸m);rw[bY z]at this;exact this
             · have:=n3.un y m
               have z:y≠a:=λz=>hA3 (z▸m);rw[bY z];exact this
         ·rw[on zl]at P;exact P.elim
       ·exact .inl (core R (R.uh _ _ n) (R.uh _ _ hb) λbs g=>Po.at P (O R g))
     |_=>exact P.elim
end
end Mi
namespace L2
open PySem PySem.Spec PyProof.Rows
section
variable{prog:Program}{w:World}{A:Around}{E:LV}{s:Shared}
def uY(h:Heap)(a:Array DictEntry):Prop:=∀e∈a,∃b o,e.key=.ref b/\h.get? b=some o/\o.cls=.type "tuple"
def Cs{o:Obj}{Q:Bool->Shared->Prop}(a:s.heap.get? b=some o)(c:o.cls=.type "tuple")(h:Q false s):wpAny (model prog w) A (Builtin.Dict.quietEq (.ref b)) Q E s:=by
 unfold Builtin.Dict.quietEq;dsimp only;refine wpAny_bind (wpAny_specialOf (T := "tuple") ⟨o,a,c⟩ PySem.F.slot_tuple_eq.lookup ?_);exact wpAny_pure h
def HV{id:String}{o:Obj}{a:Array DictEntry}{Q:Array DictEntry->Shared->Prop}(k:s.heap.get? d=some o)(hd:o.data=.dict a ep)(m:uY s.heap a)(n:∀e∈a,¬ (a.filter (·.hash==e.hash)).size>1)(h:Q a s):
 wpAny (model prog w) A (Builtin.Dict.entriesForEmpty id d) Q E s:=by
 unfold Builtin.Dict.entriesForEmpty;refine wpAny_bind (wpAny_dictEntries k hd ?_);refine wpAny_bind ?_;rw[<-Array.forIn_toList]
 have c:∀l:List DictEntry,(∀e∈l,e∈a)->wpAny (model prog w) A (forIn l PUnit.unit λe (_:PUnit)=>(do
  let q <-Builtin.Dict.quietEq e.key
  if (!q)=true then
   if (a.filter (·.hash==e.hash)).size>1 then (do let _ <-(unsupported s!"{id}:keys-of-equal-hash" : Sem PUnit);pure (ForInStep.yield PUnit.unit)) else pure (ForInStep.yield PUnit.unit)
  else pure (ForInStep.yield PUnit.unit):Sem (ForInStep PUnit))) (λ_ g=>g=s) E s:=by
  intro l
  induction l with
  |nil=>intro _;exact YR rfl
  |cons e l i=>
    intro f;rw[List.forIn_cons];obtain⟨b,ob,u,t,r⟩:=m e (f e YK);refine YH (YH ?_);rw[u];refine Cs t r ?_;simp only[Bool.not_false,Ai2];rw[on (n e (f e YK))];exact YR (i λx j=>f x (YM _ j))
 refine Ae0 (c a.toList λe p=>Ae2.mp p) (λ_ g e=>?_) λ_ _ e=>e;subst e;exact YR h
def FZ{m:Obj}{a:Array DictEntry}{Q:Unit->Shared->Prop}(j:d≠o)(h:(o==sysModules)=false)(hd:s.heap.get? d=some m)(g:m.data=.dict #[] l)(r:RawD s.heap o a ep)
 (n:uY s.heap a) (t:∀e∈a,¬ (a.filter (·.hash==e.hash)).size>1) (hz:a.size<=sizeLine) (h0:a=#[]->Q () s) (u:Q () {s with heap:=s.heap.update d (Obj.mapDictKeys λ_=>a)}):
 wpAny (model prog w) A (Builtin.Dict.mergeDict p d o) Q E s:=by
 obtain⟨x,c,y,f⟩:=id r;unfold Builtin.Dict.mergeDict;rw[if_neg (by simpa using j)];unfold Builtin.Dict.showsAll;rw[if_neg (by rw[h];exact Bool.false_ne_true)];refine wpAny_bind (wpAny_pure ?_);refine wpAny_bind (wpAny_dictEntries c f ?_);dsimp only;by_cases k:a=#[]
 · subst k;have few:(!(decide ((#[]:Array DictEntry).size<=8)&&(#[]:Array DictEntry).all λe=>(keyPart e.key).isSome))=false:=by simp
   rw[few,on YW];refine YH (Aj0 c f ?_);refine YH (Aa3 c f ?_);refine YH ?_;rw[Std.Legacy.Range.forIn_eq_forIn_range'];simp only[Std.Legacy.Range.size,Nat.sub_zero,Nat.add_sub_cancel,Nat.div_one,Array.size_empty,List.range'_zero,List.forIn_nil];exact YR (YR (h0 rfl))
 · have hsz:0<a.size:=by
    by_cases z:0<a.size
    ·exact z
    ·exact absurd (Array.eq_empty_of_size_eq_zero (by omega)) k
   have few:(!(decide (a.size<=8)&&a.all λe=>(keyPart e.key).isSome))=true:=by
    obtain⟨b,ob,v,_⟩:=n a[0] (Array.getElem_mem hsz)
    have:(a.all λe=>(keyPart e.key).isSome)=false:=by
     cases q:a.all λe=>(keyPart e.key).isSome with
     |false=>rfl
     |true=>
       have:=Array.all_eq_true.mp q 0 hsz
       rw[v]at this;cases this
    rw[this,Bool.and_false];rfl
   rw[few,YG rfl];refine YH (Aa3 hd g ?_);rw[YG (by rfl)];refine YH (HV c f n t ?_);have i:(!a.isEmpty)=true:=by simp[k]
   rw[YG i];exact YH (wpAny_updateDictKeysTo hd g (YR u) (by omega))
end
def cI(k:List Int):Int:=reduceHash (Builtin.Tuple.tupleHashOf (k.map hashInt))
def C9(k:List Int):(tupleKind (au P w)).hash (k.map Sum.inl)=cI k:=by
 show reduceHash (Builtin.Tuple.tupleHashOf ((k.map Sum.inl).map (Wn w)))=_;rw[Zt];rfl
def yP{b:Array DictEntry}(h:(b.toList.map (·.hash)).Nodup):∀e∈b,¬ (b.filter (·.hash==e.hash)).size>1:=λe g=>by
 rw[<-Zq,Array.toList_filter]
 have a:∀{l:List DictEntry},(l.map (·.hash)).Nodup->(l.filter (·.hash==e.hash)).length<=1:=by
  intro l
  induction l with
  |nil=>intro _;simp
  |cons x l c=>
    intro nd;rw[YI,Y7]at nd;rw[ZM];by_cases z:(x.hash==e.hash)=true
    · rw[YG z]
      have:l.filter (·.hash==e.hash)=[]:=Ai8.mpr λy d q=>by
       have e1:x.hash=e.hash:=by simpa using z
       have f:y.hash=e.hash:=by simpa using q
       exact nd.1 (Y9.mpr ⟨y,d,by rw[e1,f]⟩)
      rw[this];simp
    ·rw[on z];exact c nd.2
 have:=a h
 omega
section
variable{X:Cx}
def Uw:V->List V->Hp->VK->Prop:=λx vs H Q=>∃(d b:Addr) (kvs:List (List aH×V)) (a:List (List Int)),x=.ref d/\vs=[.ref b]/\H d=some (.dT [])/\Rd H b (.dT kvs)/\d≠b/\kvs.map (·.1)=a.map (λk=>k.map Sum.inl)/\(a.map cI).Nodup/\Q .non (upd H d (.dT kvs))
def CN:MtR X "dict.update" Uw:=by
 intro G s Z H x vs v us Q I rx rv h;obtain⟨d,b,kvs,J,rfl,rfl,hd,hb,W,hk,hh,q⟩:=h;cases rx;obtain⟨u,rfl,ru⟩:=rv.one;cases ru;obtain⟨_,T,S,E,od,P,epd,c,A,j,N,_⟩:=(show ObjOk X.prog X.w H s.heap d (.dT []) from I.hok d _ hd);obtain⟨z,U,l,g,ob,R,ep,M,L,hdb,i,Y⟩:=(show ObjOk X.prog X.w H s.heap b (.dT kvs) from hb.ok I.hok);have l0:S=[]:=by cases E;rfl
 subst l0
 have e0:P=#[]:=by
  have:P.toList=[]:=N
  exact Array.toList_inj.mp this
 subst e0;have n:kvs.length=l.length:=ZU g
 have m:R.size=l.length:=by
  have e:=congrArg List.length i
  rwa [YJ,Zq]at e
 have tk:uY s.heap R:=λe he=>by
  have O:e∈R.toList:=Ae2.mpr he;rw[i]at O;obtain⟨y,t,rfl⟩:=Y9.mp O
  have r:∀{f:List (List aH×V)} {l2:List (List aH×Addr×Value)},Paired (λ(p:List aH×V) (q:List aH×Addr×Value)=>p.1=q.1/\H q.2.1=some (.tup (p.1.map kV))/\RelV p.2 q.2.2) f l2->∀y∈l2,∃k:List aH,H y.2.1=some (.tup (k.map kV)):=by
   intro f l2 h
   induction h with
   |nil=>intro y t;cases t
   |cons h _ K=>
     intro y t;rcases YS.mp t with e|e
     ·subst e;exact⟨_,h.2.1⟩
     ·exact K y e
  obtain⟨k,hk⟩:=r g y t;obtain⟨its,_,⟨o,ho,hc,_⟩,_⟩:=I.tuple (a:=y.2.1) (xs:=k.map kV) (.inl (.inl hk));exact⟨y.2.1,o,rfl,ho,hc⟩
 have hk2:∀{f:List (List aH×V)} {l2:List (List aH×Addr×Value)},Paired (λ(p:List aH×V) (q:List aH×Addr×Value)=>p.1=q.1/\H q.2.1=some (.tup (p.1.map kV))/\RelV p.2 q.2.2) f l2->f.map (·.1)=l2.map (·.1):=by
  intro f l2 h
  induction h with
  |nil=>rfl
  |cons h _ K=>rw[YI,YI,h.1,K]
 have B:(R.toList.map (·.hash)).Nodup:=by
  rw[i,Zt]
  have e1:(l.map ((·.hash)∘entryOfKey (tupleKind (au X.prog X.w))))=J.map cI:=by
   have e2:l.map (·.1)=J.map λk=>k.map Sum.inl:=by rw[<-hk2 g];exact hk
   have e3:l.map ((·.hash)∘entryOfKey (tupleKind (au X.prog X.w)))=(l.map (·.1)).map (tupleKind (au X.prog X.w)).hash:=by rw[Zt];rfl
   rw[e3,e2,Zt];exact ZQ λk _=>C9 k
  rw[e1];exact hh
 refine wpAny_call_entry PySem.F.slot_dict_update ⟨od,c,A.1⟩ PySem.F.entry_dict_update ?_ (PySem.F.args_dict_update_2 _ _);have hTd:s.TypeIs (.ref d) "dict" := ⟨od,c,A.1⟩;have C:s.TypeIs (.ref b) "dict" := ⟨ob,M,L.1⟩;unfold Builtin.«dict.update»;refine wpAny_bind ?_;unfold Builtin.Dict.selfAndRest;refine wpAny_bind (wpAny_notOrdered_dict hTd ?_);show wpAny _ _ (pure (d,[Value.ref b])) _ _ s;refine wpAny_pure ?_;show wpAny _ _ (Builtin.Dict.updateFrom "dict.update" d (.ref b) [] .none) _ _ s;unfold Builtin.Dict.updateFrom;refine wpAny_bind (wpAny_typeOf C ?_);rw[if_neg (by decide)];refine wpAny_bind ?_;unfold Builtin.Dict.merge;refine wpAny_bind ?_;unfold Builtin.Dict.readDirectly;refine wpAny_bind (wpAny_isInstance C isSubtype_dict_dict ?_);simp only[Bool.not_true,Bool.false_eq_true,if_false];refine wpAny_bind (wpAny_specialOf C PySem.F.slot_dict_iter.lookup (wpAny_pure ?_));simp only[beq_self_eq_true,if_true];refine wpAny_bind (wpAny_pure ?_)
 have D:Paired (λ(p:List aH×V) (q:List aH×Addr×Value)=>p.1=q.1/\upd H d (.dT kvs) q.2.1=some (.tup (p.1.map kV))/\RelV p.2 q.2.2) kvs l:=by
  have r:∀{f:List (List aH×V)} {l2:List (List aH×Addr×Value)},Paired (λ(p:List aH×V) (q:List aH×Addr×Value)=>p.1=q.1/\H q.2.1=some (.tup (p.1.map kV))/\RelV p.2 q.2.2) f l2->
   Paired (λ(p:List aH×V) (q:List aH×Addr×Value)=>p.1=q.1/\upd H d (.dT kvs) q.2.1=some (.tup (p.1.map kV))/\RelV p.2 q.2.2) f l2:=by
   intro f l2 h
   induction h with
   |nil=>exact .nil
   |cons h _ K=>exact .cons ⟨h.1,by rw[aq (λz=>by have:=h.2.1;rw[z,hd]at this;cases this)];exact h.2.1,h.2.2⟩ K
  exact r g
 refine FZ W U c j ⟨ob,M,L,hdb⟩ tk (yP B) (by rw[m,<-n];exact z) (λez=>?_) ?_
 · show wpAny _ _ (Builtin.Dict.addKeywords d [] >>= _) _ _ _;have ey:kvs=[]:=Zi.mp (by rw[n,<-m,ez];rfl);refine YH (YR (YR ⟨.none,rfl,.non,H,I,rfl,?_⟩))
   have:upd H d (.dT kvs)=H:=by
    funext y;by_cases zy:y=d
    ·subst zy;rw[ay,ey,hd]
    ·exact aq zy
   rw[this]at q;exact q
 · show wpAny _ _ (Builtin.Dict.addKeywords d [] >>= _) _ _ _;refine YH (YR (YR ⟨.none,rfl,.non,_,I.write (x:=d) (e:=d) (o:=.dT kvs) (t':=s.toks) (by rw[hd];trivial) (.inl rfl) (λy u t e=>?_) ⟨_,Zo _ c (ZZ (Zx j _))⟩ ?_,rfl,q⟩))
   ·exact(Zk _ _ (Aa7 t)).trans e
   ·exact⟨z,T,l,D,_,R,epd+1,Zo _ c (ZZ (Zx j _)),A.mapDictKeys _,Zx j _,i,Y⟩
end
section
variable{X:Cx}
def D2(b:TE):TE:=λZ H Q=>b Z H λx H1=>∃a kvs,x=.ref a/\Rd H1 a (.dK kvs)/\∀l,H1 l=none->Q (.ref l) (upd H1 l (.lst (kvs.map (·.2))))
def LO{kvs:List (aH×V)}{vs:List (aH×Value)}(r:KV kvs vs):Vals (kvs.map (·.2)) (vs.map (·.2)):=by
 induction r with
 |nil=>exact .nil
 |cons h _ a=>exact .cons h.2 a
def vh{ap m:Pos}(hc:X.calm=true)(hg:Gl X x)(hm:X.mg x=none)(U:bootBuiltins x=some (.type "list"))(V:PE X o L)
 (Y:x ≠ "__name__" := by decide) (J:(x==("__debug__" : Str))=false:=by decide)
 (k:attributeBase o "values" X.env (eval o X.env)=eval o X.env:=by rfl) (i:(ap.endLine==m.line)=true:=by rfl)
 (t:starEach [.Call (.Attribute o "values" ap) [] [] m] X.env=(false,eval (.Call (.Attribute o "values" ap) [] [] m) X.env)::starEach [] X.env:=by rfl):
 PE X (.Call (.Name x p) [.Call (.Attribute o "values" ap) [] [] m] [] pos) (D2 L):=by
 intro G s Z H Q I h;refine Z5 (jO I hg hm U ?_ Y J);refine Z1 (e:= .Call (.Attribute o "values" ap) [] [] m) ?_ t rfl;rw[t];show wpAny _ _ (spliced ((false,eval (.Call (.Attribute o "values" ap) [] [] m) X.env)::backTo pos (starEach [] X.env))) _ _ s;refine Zz ?_;refine wpAny_Call_method0_late k i (br (V G s Z H _ I h) λu c ⟨x1,H1,B,R,S⟩=>?_);obtain⟨a,kvs,rfl,N,q⟩:=S;have C:u=Value.ref a:=R;subst C;obtain⟨M,P,_⟩:=lZ B (.inl ⟨kvs,N⟩);refine⟨"dict","dict.values",ZE,Ah1,PySem.F.type_dict_values,M,P,ZI rfl (PySem.evalArgs_none ?_)⟩;obtain⟨z,hd,vs,n,dd⟩:=kZ B.hok N;refine Ac5 Ah1 M PySem.F.entry_dict_values (PySem.F.args_dict_values_1 _) (meets_dict_values (au X.prog X.w) a hd) ⟨⟨vs,dd⟩,?_⟩;refine ZX ?_;obtain⟨ob,es,ep,y,T,A,hk,hp,E⟩:=id dd;have hla:a<c.heap.objs.size:=YV y
 refine PySem.W.kdl_call (s:={c with heap:=c.heap.push {cls:=.type "dict_values",data:=.fields #[.ref a]}}) (PySem.W.kdl_values (knd:=au X.prog X.w) (d:=a) (r:=c.heap.objs.size) (kvs:=vs) (ep:=ep)) (B.ok.hd hc)
  ⟨⟨_,Y4 _ rfl,rfl,rfl⟩,ob,es,YN _ y,T,A,hk,hp,E⟩ (by rw[<-n.length];exact z) λh' O g c' kp K f=>?_
 have D:∀b o,c.heap.get? b=some o->h'.get? b=some o:=λb o eb=>kp b o (Heap.get?_push_of_some _ eb);have l:g.toList=vs.map (·.2):=PySem.W.kdl_vals_eq _ (by rw[Array.length_toList,f.1]) λj v e=>f.2 j v (by rw[<-Array.getElem?_toList];exact e);have sz:(c.heap.push {cls:=.type "dict_values",data:=.fields #[.ref a]}).objs.size=c.heap.objs.size+1:=Heap.size_push ..;dsimp only at K;rw[sz]at K;show EP X G Z Q (.ref (c.heap.push {cls:=.type "dict_values",data:=.fields #[.ref a]}).objs.size) _;rw[sz];refine⟨.ref (c.heap.objs.size+1),_,B.laid (t':=O) D (Nat.le_succ _) ?_,rfl,q _ (B.hok.fresh (Nat.le_succ _))⟩;refine⟨by rw[List.length_map];exact z,g.toList,c',by rw[l];exact LO n,?_⟩;rw[Array.toArray_toList];exact K
def Dv:cQ X (.builtin "len") (λxs H Q=>∃a kvs,xs=[V.ref a]/\Rd H a (.dT kvs)/\Q (.int kvs.length) H):=by
 intro G s Z H xs us Q I r h;obtain⟨a,kvs,rfl,v,q⟩:=h;obtain⟨u,rfl,p⟩:=zN r;cases p;obtain⟨z,hd,i,f,o,l,ep,k,t,d,g,_⟩:=(show ObjOk X.prog X.w H s.heap a (.dT kvs) from v.ok I.hok);have c:kvs.length=i.length:=ZU f
 have b:l.size=i.length:=by
  have e:=congrArg List.length g
  rwa [YJ,Zq]at e
 have j:s.TypeIs (.ref a) "dict" := ⟨o,k,t.1⟩;refine Calls.call_function_entry kind_len plain_len entry_len (args_len1 _) ?_;unfold Builtin.«len»;refine wpAny_bind (m:=oneArg "len" _) (wpAny_pure ?_)
 refine YH (m:=callSpecial? (.ref a) (Str.ofString "__len__")) (wpAny_callSpecial?_slot (name:=Str.ofString "__len__") j Aj7
  (wpAny_call_entry Aj7 j PySem.F.entry_dict_len ?_ (PySem.F.args_dict_len_1 _)))
 show wpAny _ _ (dictSize a >>= _) _ _ s;unfold dictSize;refine wpAny_bind (wpAny_bind (wpAny_dictEntries k d (wpAny_pure ?_)));show wpAny _ _ (Builtin.Dict.pendingCount a >>= _) _ _ s;refine wpAny_bind (wpAny_pendingCount_other hd ?_);refine wpAny_ret_mkInt ?_;have x:((l.size:Int)+((0:Nat):Int))=(kvs.length:Int):=by rw[b,<-c];simp
 first | rw[x] | (rw[Nat.add_zero,b,<-c])
 refine YH (Z2 (YR ?_));refine YH (Ad2 ?_);have n:=z;rw[Ak3]at n;show wpAny _ _ (if ((kvs.length:Nat):Int)<0 then _ else _) _ _ _;rw[on (by omega)];show wpAny _ _ (if ((kvs.length:Nat):Int)>=2 ^ 63 then _ else _) _ _ _;rw[on (by omega)];exact YH (wpAny_mkInt (YR ⟨_,rfl,.int kvs.length,H,(I.tok _),⟨_,rfl⟩,q⟩))
def xW(d:TE)(g:TG)(tb:TS):TS:=λD Z H=>d Z H λx H1=>∃a kvs,x=.ref a/\Rd H1 a (.dT kvs)/\(kvs=[]->D.nx Z H1)/\
 ∀k v r b,kvs=(k,v)::r->H1 b=some (.tup (k.map kV))->g (.ref b) Z H1 λc e=>tb {D with nx:=λ_ _=>False,ct:=λ_ _=>False,bk:=D.nx} c e
def E9(hp:PassesOwn (model X.prog X.w) X.A X.env X.xe)(hc:X.calm=true)(hl:PE X iter U)(hg:PG X T g)(K:PSs X t tb)
 (hs:∀x,foldedSetIterable iter X.env x=pure x:=by intro _;rfl):PS X (.For T iter t [] pos) (xW U g tb):=by
 intro G s Z H D I h;refine wpAny_For (br (hl G s Z H _ I h) λv i ⟨x,H1,O,r1,q1⟩=>?_) hs;obtain⟨a,kvs,rfl,ha,q0,q⟩:=q1;cases r1;obtain⟨z,hd,N,u,o,j,ep,Y,W,r,F,hnd⟩:=(show ObjOk X.prog X.w H1 i.heap a (.dT kvs) from ha.ok O.hok);have p:kvs.length=N.length:=ZU u
 have m:j.size=N.length:=by
  have e:=congrArg List.length F
  rwa [YJ,Zq]at e
 refine nL hd ⟨o,Y,W,r⟩ ?_;have S:Inv X G Z H1 {i with heap:=i.heap.push {cls:=.type "dict_keyiterator",data:=.fields #[.ref a,.int 0 0,.int j.size 0,.int ep 0]}}:=O.kept (t':=i.toks) λb o e=>YN _ e;have hf:=O.fpOk (YY _) (O.hok.fresh (YY _));have B:(i.heap.push {cls:=.type "dict_keyiterator",data:=.fields #[.ref a,.int 0 0,.int j.size 0,.int ep 0]}).IsKeyIter i.heap.objs.size a 0 j.size ep:=⟨_,Y4 _ rfl,rfl,rfl⟩;have C:RawD (i.heap.push {cls:=.type "dict_keyiterator",data:=.fields #[.ref a,.int 0 0,.int j.size 0,.int ep 0]}) a j ep:=⟨o,YN _ Y,W,r⟩;obtain⟨f0,f1,f2,f3,f4,f5⟩:=hf;refine codeAny_forLoop_any (λ_ s'=>s'={i with heap:=i.heap.push {cls:=.type "dict_keyiterator",data:=.fields #[.ref a,.int 0 0,.int j.size 0,.int ep 0]}}) ?_ 0 rfl;rintro n s3 rfl;cases kvs with
 |nil=>
   have e0:j.size=0:=by rw[m,<-p];rfl
   rw[e0]at B;refine ZB hp (tH (s:={i with heap:=_}) (S.ok.hd hc) (by rw[e0];exact B) C λh' eb=>?_);exact Ad0 ⟨Z,H1,S.turned (t':=i.toks) (λb o K e=>eb b o K e) f0 f1 f3 f4 f5,q0 rfl⟩
 |cons V kvs=>
   cases N with
   |nil=>cases p
   |cons y N=>
     cases u with
     |cons hy u=>
       have E:0<j.size:=by rw[m];exact Nat.succ_pos _
       refine ZB hp (nM (s:={i with heap:=_}) B C E λh' Q sb=>?_)
       have ek:j[0].key=.ref y.2.1:=by
        have J:j.toList[0]?=some j[0]:=by rw[Z8];exact ZJ E
        rw[F]at J;have ee:entryOfKey (tupleKind (au X.prog X.w)) y=j[0]:=Y6 J;rw[<-ee,lX]
       rw[ek];have I3:Inv X G Z H1 {i with heap:=h'}:=S.turned (t':=i.toks) (λb o K e=>(sb.2 b K).trans e) f0 f1 f3 f4 f5;obtain⟨oi,e,c,d⟩:=id Q;refine ZB hp (AV (s:={i with heap:=h'}) e c d (by decide) ?_);refine ZB hp (br (hg G _ Z H1 (.ref y.2.1) (.ref y.2.1) _ I3 rfl (q V.1 V.2 kvs y.2.1 rfl hy.2.1)) λ_ s6 ⟨P,H6,I6,q6⟩=>?_);refine ZB hp (br (K _ s6 P H6 _ I6 q6) λf s7 l=>?_);cases f with
       |next=>obtain⟨k,M,L,R⟩:=l;exact R.elim
       |cont=>obtain⟨k,M,L,R⟩:=l;exact R.elim
       |brk=>obtain⟨k,M,L,l⟩:=l;exact⟨k,M,L,l⟩
       |ret v=>obtain⟨x7,k,M,L,r7,l⟩:=l;exact⟨x7,k,M,L,r7,l⟩
end
end L2
namespace Mi
open PySem L2
section
variable{Y:Cm}{E:XK}{M:List Md}{K:F0}{B U H:Hp}{As:Nat->List Addr}{Z:St}{T:P1}{t:TE}{get:P1->Option D}{set:P1->D->P1}
def TH(get:P1->Option D):P1->Res D:=λT=>match get T with|some d=>.ok d|none=>.bad
def UQ(p:Prt Y M t get set i (.ct .fz)):PJ Y (KC Y .F) E M t (TH get):=by
 intro B U As Z H T Q R P;unfold TH at P;cases e:get T with
 |none=>rw[e]at P;exact P.elim
 |some d=>
   rw[e]at P;obtain⟨sh,c,d0,v,L,A,k,g,f,hd,h,b,a,j⟩:=p.rd R e;exact b _ (P v B U H [] R (Gw.refl _ _ _) New.nil (Ow.cn R.bh a))
def DW:D->Res D | .dK _ vs=>.ok (.lst vs)|_=>.bad
def PF(d:PJ Y (KC Y .F) E M ta b):PJ Y (KO Y (.ct .fz)) E M (D2 ta) (un DW b):=by
 intro B U As Z H T Q R P;refine d.bnd R P λx v I U1 H1 L _ h e1 i g W=>?_;cases x with
 |dK j ds=>
   obtain⟨a,kvs,rfl,f,k,e⟩:=g;exact⟨a,kvs,rfl,.inl f,λl c=>dX h W e c⟩
 |_=>exact W.elim
def RK:D->Res D | .dT a _=>.ok (.int a.length)|_=>.bad
def PY(e:PJ Y (KR Y .X) E M ta c):PJ Y (KR Y .F) E M (xK (λxs H Q=>∃a kvs,xs=[V.ref a]/\Rd H a (.dT kvs)/\Q (.int kvs.length) H) (aN ta bT)) (un RK c):=by
 intro B U As Z H T Q R P;refine e.bnd R P λx v I U1 H1 L _ h e1 i b W=>?_;cases x with
 |dT d ds=>
   have b:Dn Y H1 (.dT d ds) v:=b;rw[Dn]at b;obtain⟨a,kvs,rfl,g,f,j⟩:=b;refine⟨a,kvs,rfl,g,?_⟩
   have:kvs.length=d.length:=by rw[<-f,YJ]
   rw[this];exact W _ I U1 H1 [] h (Gw.refl _ _ _) New.nil (by show Dn Y I (.int _) _;rw[Dn])
 |_=>exact W.elim
def iA:List aH->List D->aH->List aH×List D
 |k::a,d::ds,j=>if k=j then iA a ds j else (k::(iA a ds j).1,d::(iA a ds j).2)
 |_,_,_=>([],[])
def sx:∀{kvs:List (aH×V)} {ds:List D},Dns Y G ds (kvs.map (·.2))->(dZ kvs k).map (·.1)=(iA (kvs.map (·.1)) ds k).1/\Dns Y G (iA (kvs.map (·.1)) ds k).2 ((dZ kvs k).map (·.2))
 | [],ds,h=>by
   cases ds<;>exact⟨rfl,by show Dns Y G [] [];rw[Dns]⟩
 | p::kvs,ds,h=>by
   cases ds with
   |nil=>rw[Dns]at h;cases h
   |cons d ds=>
     rw[List.map_cons,Dns]at h;obtain⟨y,r,e,f,c⟩:=h;cases e;obtain⟨b,a⟩:=sx (k:=k) c;unfold dZ at b a ⊢;rw[List.map_cons,List.filter_cons,iA];by_cases q:p.1=k
     ·rw[on (by simp[q]),YG q];exact⟨b,a⟩
     ·rw[YG (by simpa using q),on q];refine⟨by rw[YI,b],?_⟩;rw[YI,Dns];exact⟨_,_,rfl,f,a⟩
def mU(set:P1->D->P1)(T:P1)(a:List aH)(vs:List D)(k:aH):Out D:=match bj a vs k with
 |some y=>.ok y (set T (.dK (iA a vs k).1 (iA a vs k).2))
 |none=>.ok .non T
def oT(get:P1->Option D)(set:P1->D->P1)(mk:P1->Res D):P1->Out D:=λT=>match get T with
 |some (.dK a vs)=>((mk T).up T).bind λk T=>(match aJ k with|some k=>mU set T a vs k|none=>.bad)
 |_=>.bad
def LK(p:Pth Y M t get set)(V:PJ Y (KR Y .X) E M z mk):MJ Y (KR Y .F) E M (xY t z (tC .non)) (oT get set mk):=by
 intro B U As Z H T Q R P;unfold oT at P;cases e:get T with
 |none=>rw[e]at P;exact P.elim
 |some d=>
   obtain⟨v,A,S,K,hA,cl⟩:=p.rd R e;cases d with
   |dK n vs=>
     rw[e]at P;replace P:Mo Y (KR Y .F) E M B U Z (((mk T).up T).bind λk T=>(match aJ k with|some k=>mU set T n vs k|none=>.bad)) Q:=P;obtain⟨a,kvs,rfl,C,h2,rfl,W⟩:=K.dK rfl;refine S _ ⟨a,rfl,.inl ⟨kvs,.inl C⟩,V B U As Z H T _ R ?_⟩;cases s:mk T with
     |exc c=>rw[s]at P;exact λI U1 H1 m f=>P I U1 As H1 m f.toEx
     |bad=>rw[s]at P;exact P.elim
     |ok o=>
       rw[s]at P;intro u I U1 H1 N m f n1 q;have q:Dn Y H1 o u:=q;replace P:Mo Y (KR Y .F) E M B U Z (match aJ o with|some k=>mU set T n vs k|none=>.bad) Q:=P;cases x:aJ o with
       |none=>rw[x]at P;exact P.elim
       |some k=>
         rw[x]at P;replace P:Mo Y (KR Y .F) E M B U Z (mU set T n vs k) Q:=P;have j:Dns Y I vs (kvs.map (·.2)):=W.mono f.b;have i:=gp (Y:=Y) (G:=I) k j;subst h2;unfold mU at P;refine⟨kvs,k,f.h _ _ C,oz x q,λv g=>?_,λg=>?_⟩
         · cases l:bj (kvs.map (·.1)) vs k with
           |none=>rw[l]at i;rw[show cJ kvs k=none from i]at g;cases g
           |some y=>
             rw[l]at i P;obtain⟨w,r,J⟩:=i;rw[r]at g;cases g;obtain⟨O,L⟩:=sx (Y:=Y) (G:=I) (k:=k) j;refine P _ I U1 As _ [] (cl I U1 H1 m f.b f.h a YK _ _ ?_) f.toEx NewM.nil J;rw[<-O];exact Ow.dK' ay L
         · cases l:bj (kvs.map (·.1)) vs k with
           |some y=>rw[l]at i;obtain⟨w,r,J⟩:=i;rw[r]at g;cases g
           |none=>
             rw[l]at P;exact P .non I U1 As H1 [] m f.toEx NewM.nil (by show Dn Y I .non .non;rw[Dn])
   |_=>rw[e]at P;exact P.elim
def JD(set:P1->D->P1)(T:P1):D->Out D
 |.dT b vs=>(match i0 (b.map λk=>.tup (k.map kD)) with|some a=>(if (a.map cI).Nodup/\vs.all aW=true then .ok .non (set T (.dT b vs)) else .bad)|none=>.bad)
 |_=>.bad
def sS(get:P1->Option D)(set:P1->D->P1)(me:P1->Res D):P1->Out D:=λT=>match get T with
 |some (.dT [] _)=>((me T).up T).bind λd T=>JD set T d
 |_=>.bad
def GE(p:Pth Y M t get set)(X:PJ Y (KR Y .U) E M te me):MJ Y (KR Y .F) E M (MP K "dict" Uw t (aN te bT)) (sS get set me):=by
 intro B U As Z H T Q R P;unfold sS at P;cases e:get T with
 |none=>rw[e]at P;exact P.elim
 |some d=>
   obtain⟨v,A,W,V,hA,cl⟩:=p.rd R e;cases d with
   |dT l vs=>
     cases l with
     |cons _ _=>rw[e]at P;exact P.elim
     |nil=>
       rw[e]at P;replace P:Mo Y (KR Y .F) E M B U Z (((me T).up T).bind λd T=>JD set T d) Q:=P;obtain⟨a,kvs,rfl,O,h2,rfl,h3⟩:=V.dT rfl;have y:kvs=[]:=Ae7.mp h2;subst y;refine W _ ⟨.inr (.inr (.inl ⟨rfl,.inr ⟨_,O⟩⟩)),X B U As Z H T _ R ?_⟩;cases J:me T with
       |exc c=>rw[J]at P;exact λI U1 H1 n j=>P I U1 As H1 n j.toEx
       |bad=>rw[J]at P;exact P.elim
       |ok x=>
         rw[J]at P;intro u I U1 H1 N n j n1 r;have r:Dn Y U1 x u:=r;replace P:Mo Y (KR Y .F) E M B U Z (JD set T x) Q:=P;cases x with
         |dT l ds=>
           replace P:Mo Y (KR Y .F) E M B U Z (match i0 (l.map λk=>.tup (k.map kD)) with|some f=>(if (f.map cI).Nodup/\ds.all aW=true then .ok .non (set T (.dT l ds)) else .bad)|none=>.bad) Q:=P;cases L:i0 (l.map λk=>.tup (k.map kD)) with
           |none=>rw[L]at P;exact P.elim
           |some f=>
             rw[L]at P;dsimp only at P;by_cases z:(f.map cI).Nodup/\ds.all aW=true
             · rw[YG z]at P;rw[Dn]at r;obtain⟨b,s,rfl,g,m,C⟩:=r;have ek:=HB L;obtain⟨i,G⟩:=hA a YK;have S:=n.un i a G
               have w:a≠b:=λq=>by
                subst q;rcases g with g|⟨o,g⟩<;>(rw[S]at g;cases g)
               refine⟨a,b,s,f,rfl,rfl,j.h _ _ O,ko n.uh g,w,by rw[m,ek],z.1,?_⟩;refine P .non I U1 As _ [] (cl I U1 H1 n j.b j.h a YK _ _ ?_) j.toEx NewM.nil (by show Dn Y I .non .non;rw[Dn]);rw[<-m];exact Ow.dT' ay (dU z.2 C)
             ·rw[on z]at P;exact P.elim
         |_=>exact P.elim
   |_=>rw[e]at P;exact P.elim
def Nl(c:Nat)(f:Str)(i:Nat)(g:List D->Out D)(a b:P1->Res D)(x:P1->Out D):P1->Out D:=λT=>match rg T i with
 |none=>.bad
 |some o=>if bq c f o=true then ((a T).up T).bind λy T=>((b T).up T).bind λz T=>(x T).bind λw d=>(match rg d i with|some e=>bV [.O i,.F,.F,.F] g [e,y,z,w] d|none=>.bad) else .bad
def LH{j:KT D V}(ha:PJ Y (KR Y .F) E M ta G)(hb:PJ Y (KR Y .F) E M tb x)(hx:MJ Y (KR Y .F) E M tx n)
 (hf:fitM M [.O i,.F,.F,.F] p) (hU:∀d v B U J H N,j d v B U H N->j d v B J H N):MJ Y j E M (cY (Y c) C (xL Y p j m) [] E (cK i) (aN ta (aN tb (aN tx bT)))) (Nl c C i m G x n):=by
 intro B U As Z H T Q R P;unfold Nl at P;cases e:rg T i with
 |none=>rw[e]at P;exact P.elim
 |some o=>
   rw[e]at P;dsimp only at P;by_cases z:bq c C o=true
   · rw[YG z]at P;have l:=R.lo i;rw[e]at l;obtain⟨v0,h,_⟩:=l;refine⟨v0,bQ h,?_⟩;obtain⟨a,dx,fs,rfl,h1,h2⟩:=jj z (R.read h e);refine⟨a,dx,fs,rfl,h1,h2,ha B U As Z H T _ R ?_⟩;cases e1:G T with
     |bad=>rw[e1]at P;exact P
     |exc c=>rw[e1]at P;exact λI U1 H1 R1 t=>P I U1 As H1 R1 t.toEx
     |ok y=>
       rw[e1]at P;intro v1 I U1 H1 L R1 t n1 d1;refine hb I U1 As Z H1 T _ R1 ?_;replace P:Mo Y j E M B U Z (((x T).up T).bind λz T=>(n T).bind λw f=>(match rg f i with|some g=>bV [.O i,.F,.F,.F] m [g,y,z,w] f|none=>.bad)) Q:=P;cases W:x T with
       |bad=>rw[W]at P;exact P
       |exc c=>rw[W]at P;exact λA U2 H2 R2 s=>P A U2 As H2 R2 (t.toEx.trans s.toEx)
       |ok z=>
         rw[W]at P;intro v2 A U2 H2 N2 R2 s n2 d2;refine hx A U2 As Z H2 T _ R2 ?_;replace P:Mo Y j E M B U Z ((n T).bind λw f=>(match rg f i with|some g=>bV [.O i,.F,.F,.F] m [g,y,z,w] f|none=>.bad)) Q:=P;cases S:n T with
         |bad=>rw[S]at P;exact P
         |exc c f=>rw[S]at P;exact λB3 U3 u H3 R3 q=>P B3 U3 u H3 R3 ((t.toEx.trans s.toEx).trans q)
         |ok w f=>
           rw[S]at P;replace P:Mo Y j E M B U Z (match rg f i with|some g=>bV [.O i,.F,.F,.F] m [g,y,z,w] f|none=>.bad) Q:=P;intro v3 B3 U3 u H3 N3 R3 q n3 X;cases K:rg f i with
           |none=>rw[K]at P;exact P.elim
           |some g=>
             rw[K]at P;dsimp only at P;have d1:Dn Y I y v1:=d1;have d2:Dn Y A z v2:=d2;have X:Dn Y B3 w v3:=X;refine lD (ps:=[.O i,.F,.F,.F]) (ds:=[g,y,z,w]) (vs:=[.ref a,v1,v2,v3]) R3 ?_ hf (by simp[cD]) (λk hk=>by simp[iJ]at hk) hU (Mo.at (r:=bV [.O i,.F,.F,.F] m [g,y,z,w] f) P ((t.toEx.trans s.toEx).trans q));exact⟨g,_,_,_,rfl,rfl,⟨h,K⟩,y,_,_,_,rfl,rfl,Dn.mono (s.b.trans q.b) d1,z,_,_,_,rfl,rfl,Dn.mono q.b d2,w,_,_,_,rfl,rfl,X,rfl,rfl⟩
   ·rw[on z]at P;exact P.elim
def Lv(n:PJ Y (KR Y .F) E0 M ta g)(m:PJ Y (KR Y .F) E0 M tb f)(k:MJ Y (KR Y .F) E0 M b d)
 (l:fitM M [.O i,.F,.F,.F] a):MJ Y (KR Y .F) E0 M (cY (Y c) e (gc Y a (KR Y .F) j) [] E0 (cK i) (aN ta (aN tb (aN b bT)))) (Nl c e i j g f d):=LH n m k l λ_ _ _ _ _ _ _ h=>h
end
section
variable{Y:Cm}{E:XK}{Kr:KT D V}{pr:Nat->Bool}{M:List Md}{K:F0}{B U H:Hp}{As:Nat->List Addr}{Z:St}{T:P1}
def l4(c:Nat)(f:Str)(i j:Nat):P1->SO:=λT=>match rg T i with
 |none=>.bad
 | some d=>(match bA c f d with
   |.ok (.dT [] _)=>.nx T
   |.ok (.dT (k::_) _)=>if j<T.length then .rt (.tup (k.map kD)) (T.set j (some (.tup (k.map kD)))) else .bad
   |_=>.bad)
def Ki(hc:Cls K (Y c))(hn:NoAttr K (Y c) f)(hm:M.getD i .F= .R)(hj:M.getD j .F= .F)(hp:pr j=false):
 SJ Y E (KR Y .F) pr M (xW (nH K (cK i) f) (dg j) (JJ (cK j))) (l4 c f i j):=by
 intro B U As Z H T D R P;have l:=R.lo i;rw[hm]at l;unfold l4 at P;cases e:rg T i with
 |none=>rw[e]at P;exact P.elim
 |some d0=>
   rw[e]at P l;dsimp only at P;obtain⟨W,A,p⟩:=l;have p:Dn Y U d0 W:=p.1;cases s:bA c f d0 with
   |bad=>rw[s]at P;exact P.elim
   |exc x=>exact(kT s).elim
   |ok d=>
     rw[s]at P;obtain⟨ns,vs,rfl,lk⟩:=nA s;rw[Dn]at p;obtain⟨b,dx,fs,rfl,hb,G,w⟩:=p;subst G;obtain⟨x,hx,n⟩:=kH w lk;cases d with
     |dT u ds=>
       rw[Dn]at n;obtain⟨a,kvs,rfl,C,h,_⟩:=n;refine⟨.ref b,bQ A,b,_,dx,fs,.ref a,rfl,R.uh _ _ hb,hc,hn,hx,a,kvs,rfl,ko R.uh C,λL=>?_,λk v r y L Q=>?_⟩
       · subst L;cases u with
         |cons _ _=>cases h
         |nil=>exact P Z B U As H R (Ex.refl _ _) (Kp.refl _ _)
       · subst L;cases u with
         |nil=>cases h
         |cons X u=>
           have J:k=X:=by injection h
           subst J;replace P:So Y E (KR Y .F) pr M B U Z (if j<T.length then .rt (.tup (k.map kD)) (T.set j (some (.tup (k.map kD)))) else .bad) D:=P;by_cases m:j<T.length
           case neg=>rw[on m]at P;exact P.elim
           rw[YG m]at P;have g:∀z∈[y],∃q,H z=some q/\eB q:=λz hz=>by rw[YT.mp hz];exact⟨_,Q,_,rfl⟩
           have R2:Rel Y M (Mi.frz B H [y]) (Mi.frz U H [y]) As Z H T:=R.grow (bx R.bh) (bx R.uh) (Same.refl _) (kR R.bu) (nz R.uh) λi a S=>by
            unfold Mi.frz;split
            ·rename_i z;obtain⟨o,e,t⟩:=g a z;exact(R.nt S e t).elim
            ·exact R.un i a S
           have V:Dn Y (Mi.frz B H [y]) (.tup (k.map kD)) (.ref y):=by
            rw[Dn];refine⟨y,_,rfl,?_,uc k⟩;unfold Mi.frz;rw[if_pos (List.mem_singleton.mpr rfl)];exact Q
           have ex:Ex B U (Mi.frz B H [y]) (Mi.frz U H [y]):=⟨bx R.bh,bx R.uh,λa o q=>by
            unfold Mi.frz at q;split at q
            ·rename_i z;obtain⟨o',e,t⟩:=g a z;rw[e]at q;cases q;exact .inr (.inr t)
            ·exact .inl q⟩
           obtain⟨O,R3⟩:=R2.store (i:=j) (d:=.tup (k.map kD)) (v:=.ref y) (N:=[]) NewM.nil (by rw[hj];exact⟨_,rfl,V,rfl⟩);have I:j<Z.length:=by rw[<-R.len];exact m
           refine⟨.ref y,?_,P (.ref y) _ _ _ O H [] R3 ex (Kp.set hp) NewM.nil V⟩;rw[Ad4 I]
     |_=>exact P.elim
def Fx{S:List Nat}(hs:PJ Y (KI Y .F .X) E M wi src)(hix:S.Nodup)(hti:PJ Y KB E0 (jJ .F M S) ti mi)(hte:PJ Y (KO Y s) E0 (jJ .F M S) te me):
 PJ Y (KO Y (.ct s)) E M (ju wi S ti te) (eJ src S mi me):=by
 intro B U As Z H T Q R P;refine hs.bnd R P λds J I U1 H1 L _ R1 e1 n1 ⟨vs,hJ,hd⟩ W p hp=>?_;have hd:Dns Y I ds vs:=hd;by_cases z:ds.length<af
 · rw[YG z]at W;have hvl:ds.length=vs.length:=hd.len;have hpA:∀i,p∉As i:=λi=>R1.fresh hp i
   refine⟨λi m t H2=>i<=ds.length/\m=ds.length-i/\H2 p=some (.lst t)/\t.length<=i/\∃B2 O l N,Rel Y M B2 O As Z H2 T/\Gw I U1 H1 B2 O H2/\O p=none/\p∉N/\New N H1 O As/\Ows Y B2 H2 l s t N/\
    Po Y (KO Y (.ct s)) E M I U1 As Z H1 T ((bo mi me (dH T S) (ds.drop i)).bind λr=>.ok (.lst (l++r))) Q,⟨ds.length,Z3 _,rfl,ay,YY _,I,U1,[],[],R1.new hp,Gw.newO R1 hp,R1.uh.free hp,by simp,New.nil,by rw[Ows];exact⟨rfl,rfl⟩,W⟩,?_⟩
   rintro i m t H2 ⟨hi,rfl,hy,hle,B2,O,l,N,R2,g2,u2,pN,nN,dz,k⟩;have hpe2:=hJ H2 g2.h;refine⟨hy,Ab3 hle (eG (ZO (Ab3 hi z))),?_⟩;by_cases hlt:i<ds.length
   · refine .inr ⟨hpe2.2.1 i (by omega),λv H3 hyl=>?_⟩;obtain⟨rfl,ev⟩:=hpe2.2.2 i v H3 (by omega) hyl;obtain⟨d,ed,dd⟩:=hd.geti ev;rw[mf ed,bo]at k;have RI:=R2.inner (m:= .F) hix (TR R2.bu R2.uh (Dn.mono g2.b dd));refine hti B2 O _ _ H3 _ _ RI ?_
     -- what an inner step leaves
     have n:∀{G f A:Hp} {a:Addr} {o1:HO},Same f A->Gw B2 O H3 G f A->O a=none->H3 a=some o1->¬ eB o1->f a=none:=λ{G f A a o1} uh g h1 h2 h3=>by
      cases q:f a with
      |none=>rfl
      |some o=>
        rcases g.fr a o q with z|z|z
        ·rw[h1]at z;cases z
        ·rw[h2]at z;cases z
        ·have:=uh a o q;rw[g.h _ _ h2]at this;cases this;exact(h3 z).elim
     have relU:∀{G f A:Hp},Same G f->Same f A->Gw B2 O H3 G f A->Rel Y M G f As Z A T:=λ{G f A} bu uh g=>R2.grow g.b g.u g.h bu uh λj a C=>by
      obtain⟨o',q',nt⟩:=(R2.lo j).at2 C;exact n uh g (R2.un j a C) q' nt
     have nU:∀{G f A:Hp},Same f A->Gw B2 O H3 G f A->New N H1 f As:=λ{G f A} uh g=>⟨nN.nd,nN.fr,λa C=>by
      obtain⟨o',q',nt⟩:=Ows.at2 dz C
      exact n uh g (nN.un a C) q' nt⟩
     have dzU:∀{G f A:Hp},Gw B2 O H3 G f A->Ows Y G A l s t N:=λ{G f A} g=>Ows.mono g.b (λa C=>by
      obtain⟨o',q',nt⟩:=Ows.at2 dz C
      rw[q',g.h _ _ q']) dz
     have pt:¬ eB (.lst t):=λ⟨_,z⟩=>by cases z
     cases eb:mi (some d::dH T S) with
     |bad=>rw[eb]at k;exact k.elim
     |exc c=>rw[eb]at k;exact k.elim
     |ok c=>
       rw[eb]at k;intro b G f A N3 R3' g3 n3 hb;cases hb;cases c with
       |false=>
         rw[on YW];exact⟨ds.length-(i+1),by omega,hlt,rfl,g3.h _ _ hy,by omega,G,f,l,N,relU R3'.bu R3'.uh g3,g2.trans g3,n R3'.uh g3 u2 hy pt,pN,nU R3'.uh g3,dzU g3,k⟩
       |true=>
         rw[YG rfl];refine hte G f _ _ A _ _ R3' ?_;replace k:Po Y (KO Y (.ct s)) E M I U1 As Z H1 T (((me (some d::dH T S)).calm.bind λx=>(bo mi me (dH T S) (ds.drop (i+1))).bind λxs=>.ok (x::xs)).bind λr=>.ok (.lst (l++r))) Q:=k;cases ee:me (some d::dH T S) with
         |bad=>rw[ee]at k;exact k.elim
         |exc c=>rw[ee]at k;exact k.elim
         |ok x=>
           rw[ee]at k;intro y B4 U4 H5 N4 R4' g4 n4 hx;have hx:Ow Y B4 H5 x s y N4:=hx;have K:=g3.trans g4;have y5:H5 p=some (.lst t):=K.h _ _ hy;have pN4:p∉N4:=λhm=>by have:=n4.fr p hm;rw[g3.h _ _ hy]at this;cases this
           have up4:=n R4'.uh K u2 hy pt;have nN4:=nU R4'.uh K;have R4:=relU R4'.bu R4'.uh K
           have g5:Gw I U1 H1 B4 U4 (upd H5 p (.lst (t++[y]))):=by
            have g:=g2.trans K;exact⟨g.toEx,λa o q=>by rw[aq (aT q hp)];exact g.h a o q,g.fr⟩
           refine⟨y5,ds.length-(i+1),by omega,hlt,rfl,ay,by rw[YQ,Ac0];omega,B4,U4,l++[x],N++N4,R4.poke up4 hpA,g5,up4,?_,?_,?_,?_⟩
           · intro hm;rcases YX.mp hm with h|h
             ·exact pN h
             ·exact pN4 h
           · refine⟨Zf.mpr ⟨nN.nd,n4.nd,λa C c hc e=>?_⟩,λa C=>?_,λa C=>?_⟩
             · obtain⟨o',q',nt⟩:=Ows.at2 dz C
               have:=n4.fr c hc
               rw[<-e,g3.h _ _ q']at this;cases this
             · rcases YX.mp C with h|h
               ·exact nN.fr a h
               ·exact(g2.h.trans g3.h).free (n4.fr a h)
             · rcases YX.mp C with h|h
               ·exact nN4.un a h
               ·exact n4.un a h
           · have app:∀{l:List D} {t:List V} {N:List Addr},Ows Y B4 H5 l s t N->p∉N->Ows Y B4 (upd H5 p (.lst (t++[y]))) l s t N->True:=λ_ _ _=>trivial
             have key:∀{H6:Hp} {l:List D} {t:List V} {N:List Addr},Ows Y B4 H6 l s t N->Ow Y B4 H6 x s y N4->Ows Y B4 H6 (l++[x]) s (t++[y]) (N++N4):=by
              intro H6 l
              induction l with
              |nil=>
                intro t N h w;rw[Ows]at h;obtain⟨rfl,rfl⟩:=h;show Ows Y B4 H6 [x] s [y] N4;rw[Ows];exact⟨y,[],N4,[],rfl,by simp,w,by rw[Ows];exact⟨rfl,rfl⟩⟩
              |cons z l ih=>
                intro t N h w;rw[Ows]at h;obtain⟨u,r,A1,A2,rfl,rfl,h1,h2⟩:=h;show Ows Y B4 H6 (z::(l++[x])) s (u::(r++[y])) _;rw[Ows];exact⟨u,r++[y],A1,A2++N4,rfl,by rw[Zw],h1,ih h2 w⟩
             exact key (Ows.mono (Same.refl _) (λa C=>aq (λe:a=p=>pN (e▸C))) (dzU K)) (Ow.mono (Same.refl _) (λa C=>aq (λe:a=p=>pN4 (e▸C))) hx)
           · cases eg:bo mi me (dH T S) (ds.drop (i+1)) with
             |ok r=>
               rw[eg]at k;show Po Y (KO Y (.ct s)) E M I U1 As Z H1 T (.ok (.lst (l++[x]++r))) Q;rw[Zw];exact k
             |exc c=>rw[eg]at k;exact k
             |bad=>rw[eg]at k;exact k
   · have e:i=ds.length:=by omega
     subst e;rw[Ah7,bo]at k;refine .inl ⟨hpe2.1 _ (by omega),?_⟩;have P3:Po Y (KO Y (.ct s)) E M I U1 As Z H1 T (.ok (.lst (l++[]))) Q:=k;rw[Zm]at P3;refine P3 (.ref p) B2 O H2 (p::N) R2 g2 ⟨Y7.mpr ⟨pN,nN.nd⟩,λa q=>?_,λa q=>?_⟩ ?_
     · rcases YS.mp q with e|e
       ·rw[e];exact hp
       ·exact nN.fr a e
     · rcases YS.mp q with e|e
       ·rw[e];exact u2
       ·exact nN.un a e
     ·show Ow Y B2 H2 (.lst l) (.ct s) (.ref p) (p::N);rw[Ow];exact⟨p,t,N,rfl,hy,rfl,dz⟩
 ·rw[on z]at W;exact W.elim
end
end Mi
namespace Cl
open PySem L2 Mi
abbrev DJ(X:Type):=List (Int×X)
section
variable{X:Type}
def l7(f:X->D)(F:DJ X):D:=.dK (F.map λp=>Sum.inl p.1) (F.map λp=>f p.2)
def DJ.get(F:DJ X)(k:Int):Option X:=(F.find? λp=>decide (p.1=k)).map (·.2)
def DJ.put(F:DJ X)(k:Int)(v:X):DJ X:=if (DJ.get F k).isSome=true then F.map λp=>if p.1=k then (p.1,v) else p else F++[(k,v)]
def DJ.del(F:DJ X)(k:Int):DJ X:=F.filter λp=>decide (p.1≠k)
def rR{f:X->D}:∀F:DJ X,bj (F.map λp=>(Sum.inl p.1:aH)) (F.map λp=>f p.2) (Sum.inl k)=(DJ.get F k).map f
 |[]=>rfl
 | p::F=>by
   have a:=rR (f:=f) (k:=k) F;unfold DJ.get at *;rw[List.map_cons,List.map_cons,bj,List.find?_cons];by_cases q:p.1=k
   ·simp[q]
   · have:¬ (Sum.inl p.1:aH)=Sum.inl k:=λz=>q (Ag1 z)
     rw[on this,a];simp[q]
def vS:∀F:DJ X,ci (F.map λp=>(Sum.inl p.1:aH)) (Sum.inl k)=(DJ.get F k).isSome
 |[]=>rfl
 | p::F=>by
   have a:=vS (k:=k) F;unfold ci DJ.get at *;rw[List.map_cons,List.any_cons,List.find?_cons,a];by_cases q:p.1=k
   ·simp[q]
   · have:¬ (Sum.inl p.1:aH)=Sum.inl k:=λz=>q (Ag1 z)
     simp[q,this]
def rF{f:X->D}{k:Int}:∀F:DJ X,iP (F.map λp=>(Sum.inl p.1:aH)) (F.map λp=>f p.2) (Sum.inl k) (f v)=(F.map λp=>if p.1=k then (p.1,v) else p).map λp=>f p.2
 |[]=>rfl
 | p::F=>by
   rw[YI,YI,iP,rF F];by_cases q:p.1=k
   ·simp[q]
   · have:¬ (Sum.inl p.1:aH)=Sum.inl k:=λz=>q (Ag1 z)
     simp[q,this]
def De{f:X->D}{F:DJ X}(h:F.length<af):sy (l7 f F) (.int k) (f v)=some (l7 f (DJ.put F k v)):=by
 show((aJ (.int k)).bind λk=>if (F.map λp=>(Sum.inl p.1:aH)).length<af then some (if ci (F.map λp=>(Sum.inl p.1:aH)) k=true then D.dK _ (iP _ _ k (f v)) else .dK _ _) else none)=_;show(if (F.map λp=>(Sum.inl p.1:aH)).length<af then some (if ci (F.map λp=>(Sum.inl p.1:aH)) (Sum.inl k)=true then D.dK _ (iP _ _ (Sum.inl k) (f v)) else .dK _ _) else none)=_;rw[if_pos (by rw[List.length_map];exact h),vS];unfold DJ.put;by_cases q:(DJ.get F k).isSome=true
 ·rw[if_pos q,if_pos q,rF];unfold l7;congr 2;rw[List.map_map];refine List.map_congr_left λp _=>?_;show Sum.inl p.1=Sum.inl (if p.1=k then (p.1,v) else p).1;split<;>rfl
 ·rw[if_neg q,if_neg q];unfold l7;rw[List.map_append,List.map_append];rfl
def sv{f:X->D}:∀F:DJ X,iA (F.map λp=>(Sum.inl p.1:aH)) (F.map λp=>f p.2) (Sum.inl k)=((DJ.del F k).map (λp=>Sum.inl p.1),(DJ.del F k).map λp=>f p.2)
 |[]=>rfl
 | p::F=>by
   have a:=sv (f:=f) (k:=k) F;unfold DJ.del at *;rw[List.map_cons,List.map_cons,iA,List.filter_cons,a];by_cases q:p.1=k
   ·simp[q]
   · have:¬ (Sum.inl p.1:aH)=Sum.inl k:=λz=>q (Ag1 z)
     simp[q,this]
def cf{p:Int×X}{k:Int}:DJ.get (p::F) k=if p.1=k then some p.2 else DJ.get F k:=by
 unfold DJ.get;rw[List.find?_cons];by_cases q:p.1=k
 ·simp[q]
 ·simp[q]
def vU{F:DJ X}{k j:Int}{v:X}:DJ.get (DJ.put F k v) j=if j=k then some v else DJ.get F j:=by
 unfold DJ.put;by_cases q:(DJ.get F k).isSome=true
 · rw[YG q]
   have b:∀G:DJ X,DJ.get (G.map λp=>if p.1=k then (p.1,v) else p) j=if j=k then (DJ.get G k).map λ_=>v else DJ.get G j:=by
    intro G
    induction G with
    |nil=>unfold DJ.get;split<;>rfl
    |cons p G c=>
      rw[YI,cf,c,cf,cf];by_cases e1:p.1=k
      · simp only[e1,Ai2];by_cases a:k=j
        ·simp[a]
        · have:¬ j=k:=λz=>a z.symm
          simp[a,this]
      · simp only[e1,Af6];by_cases a:j=k
        ·subst a;simp[e1]
        ·simp[a]
   rw[b];by_cases a:j=k
   · rw[YG a,YG a];cases z:DJ.get F k with
     |none=>rw[z]at q;cases q
     |some x=>rfl
   ·rw[on a,on a]
 · rw[on q]
   have d:DJ.get F k=none:=by
    cases z:DJ.get F k with
    |none=>rfl
    |some x=>rw[z]at q;exact(q rfl).elim
   have b:∀G:DJ X,DJ.get (G++[(k,v)]) j=(DJ.get G j).or (if j=k then some v else none):=by
    intro G
    induction G with
    |nil=>
      rw[List.nil_append,cf];by_cases e:k=j
      ·simp[e,DJ.get]
      · have:¬ j=k:=λz=>e z.symm
        simp[e,this,DJ.get]
    |cons p G c=>
      rw[Ab0,cf,cf,c];split<;>rfl
   rw[b];by_cases e:j=k
   ·subst e;rw[d];simp
   ·simp[e]
def kO{k:Int}:DJ.get (DJ.del F k) j=if j=k then none else DJ.get F j:=by
 induction F with
 |nil=>unfold DJ.del DJ.get;split<;>rfl
 |cons p F a=>
   unfold DJ.del at *;rw[List.filter_cons];by_cases q:p.1=k
   · rw[on (by simp[q]),a,cf];by_cases e:j=k
     ·rw[YG e,YG e]
     ·rw[on e,on e,on (λz=>e (z.symm.trans q))]
   · rw[YG (by simp[q]),cf,a,cf];by_cases e:j=k
     ·subst e;rw[on q,YG rfl,YG rfl]
     ·rw[on e,on e]
def DJ.nd(F:DJ X):Prop:=(F.map (·.1)).Nodup
def F3(h:DJ.get F k=some v):(k,v)∈F:=by
 unfold DJ.get at h;obtain⟨p,hp,rfl⟩:=Option.map_eq_some_iff.mp h;have a:=List.find?_some hp;have b:=List.mem_of_find?_eq_some hp;have a:p.1=k:=by simpa using a
 subst a;exact b
def vV(n:DJ.nd F)(h:(k,v)∈F):DJ.get F k=some v:=by
 induction F with
 |nil=>cases h
 |cons p F a=>
   unfold DJ.nd at n;rw[List.map_cons,List.nodup_cons]at n;rw[cf];rcases List.mem_cons.mp h with e|e
   ·subst e;rw[YG rfl]
   · by_cases q:p.1=k
     ·exact(n.1 (Y9.mpr ⟨_,e,q.symm⟩)).elim
     ·rw[on q];exact a n.2 e
def Az(n:DJ.nd F):DJ.nd (DJ.del F k):=by
 unfold DJ.nd DJ.del at *;exact n.sublist (List.Sublist.map _ List.filter_sublist)
def C1{F:DJ X}:(DJ.put F k v).map (·.1)=if (DJ.get F k).isSome=true then F.map (·.1) else F.map (·.1)++[k]:=by
 unfold DJ.put;split
 ·rw[Zt];refine ZQ λp _=>?_;show(if p.1=k then (p.1,v) else p).1=p.1;split<;>rfl
 ·rw[Zr];rfl
def Lp(n:DJ.nd F):DJ.nd (DJ.put F k v):=by
 unfold DJ.nd at *;rw[C1];split
 ·exact n
 ·rename_i q;refine Zf.mpr ⟨n,by simp,λa d b c e=>?_⟩;rw[YT.mp c]at e;subst e;obtain⟨p,hp,rfl⟩:=Y9.mp d;exact q (by rw[vV n (show(p.1,p.2)∈F from hp)];rfl)
end
section
variable{Z σ' W X L J:Type}{rep:Z->P1}{Y:σ'->P1}
def R7{get:P1->Option D}{g:Z->Option W}(b:∀s,get (rep s)=(g s).map e):EJ rep e (TH get) (vC g):=λs=>by
 unfold TH vC;rw[b];cases g s with
 |none=>trivial
 |some a=>exact rfl
@[simp] def MN(F:DJ X):Res (List X):=.ok (F.map (·.2))
def QH(F:DJ X):SimR (eL e) (DW (l7 e F)) (MN F):=by
 show Res.ok (D.lst (F.map λp=>e p.2))=Res.ok (D.lst ((F.map (·.2)).map e));rw[Zt];rfl
@[simp] def AN(F:DI X):Res Int:=.ok F.length
def QM(F:DI X):SimR D.int (RK (aP e F)) (AN F):=by
 show Res.ok (D.int ((F.map λp=>p.1.map (Sum.inl:Int->aH)).length))=Res.ok (D.int F.length);rw[YJ]
@[simp] def NX(F:DI (Option X))(k:List Int):Res (Option X):=.ok ((F.get k).bind id)
def HY(d:EJ rep (aP (eO e)) a b)(c:EJ rep (kY D.int) mk ck):EJ rep (eO e) (sj a mk) (aG NX b ck):=λs=>(d s).bnd λF=>by
 show SimR (eO e) (if true=true then _ else _) _;rw[if_pos rfl];refine(c s).bnd λk=>?_;show ga (aP (eO e) F) (.tup (k.map D.int)) .non=.ok (eO e ((F.get k).bind id));unfold ga;rw[gw];cases F.get k<;>rfl
def L5(h:EJ rep (aP e) m c):EJ rep (List.map (kY D.int)) (Cg m) (aI rY c):=λs=>by
 unfold Cg aI;refine(h s).bnd λF=>?_;show Res.ok _=Res.ok _;rw[List.map_map,List.map_map];congr 1;refine List.map_congr_left λp _=>?_;show D.tup ((p.1.map (Sum.inl:Int->aH)).map kD)=D.tup (p.1.map D.int);rw[List.map_map];rfl
@[simp] def NS(g:Z->Option (DJ W))(p:Z->DJ W->Z)(ck:Z->Res Int)(a:Z->OutC Z W):Z->FlC Z X:=λs=>DT (a s) λx s=>match g s with
 |none=>.bad
 | some F=>(match ck s with
   |.ok k=>if F.length<af then .nx (p s (DJ.put F k x)) else .bad
   |.exc y=>.exc y s
   |.bad=>.bad)
def JG{get:P1->Option D}{set:P1->D->P1}{g:Z->Option (DJ W)}{p:Z->DJ W->Z}(i:∀s,get (rep s)=(g s).map (l7 e))(f:∀s F,set (rep s) (l7 e F)=rep (p s F))
 (a:EJ rep D.int mk ck) (d:NJ rep e b c):TJ rep eR (fo get set mk b) (NS g p ck c):=λs=>SimS.bd (d s) λx s=>by
 have a:=a s;rw[i];cases g s with
 |none=>trivial
 |some F=>
   show SimS rep eR (mS set (e x) (l7 e F) (rep s) (mk (rep s))) _;dsimp only;refine SimR.el a (λk=>?_) (λ_=>rfl) λ_=>trivial;show SimS rep eR (mS set (e x) (l7 e F) (rep s) (.ok (.int k))) (if F.length<af then FlC.nx (p s (DJ.put F k x)) else .bad);by_cases h:F.length<af
   ·rw[if_pos h];unfold mS;dsimp only;rw[De h];show SO.nx _=SO.nx _;rw[f]
   ·rw[on h];trivial
@[simp] def r0(g:Z->Option (DJ W))(p:Z->DJ W->Z)(ck:Z->Res Int):Z->OutC Z (Option W):=λs=>match g s with
 |none=>.bad
 | some F=>bndO (ck s) s λk=>match DJ.get F k with
   |some x=>.ok (some x) (p s (DJ.del F k))
   |none=>.ok none s
def Ay{get:P1->Option D}{set:P1->D->P1}{g:Z->Option (DJ W)}{p:Z->DJ W->Z}(c:∀s,get (rep s)=(g s).map (l7 e))(b:∀s F,set (rep s) (l7 e F)=rep (p s F))(a:EJ rep D.int mk ck):NJ rep (eO e) (oT get set mk) (r0 g p ck):=λs=>by
 have a:=a s;unfold oT r0;rw[c];cases g s with
 |none=>trivial
 |some F=>
   show SimO rep (eO e) (((mk (rep s)).up (rep s)).bind λk T=>(match aJ k with|some k=>mU set T (F.map λp=>(Sum.inl p.1:aH)) (F.map λp=>e p.2) k|none=>.bad)) (bndO (ck s) s _);refine SimR.el a (λk=>?_) (λ_=>rfl) λ_=>trivial;show SimO rep (eO e) (mU set (rep s) (F.map λp=>(Sum.inl p.1:aH)) (F.map λp=>e p.2) (Sum.inl k)) (match DJ.get F k with|some x=>OutC.ok (some x) (p s (DJ.del F k))|none=>.ok none s);unfold mU;rw[rR];cases d:DJ.get F k with
   |none=>exact rfl
   |some x=>
     show Out.ok (e x) (set (rep s) (.dK (iA _ _ (Sum.inl k)).1 (iA _ _ (Sum.inl k)).2))=Out.ok (e x) (rep (p s (DJ.del F k)));rw[sv,<-b];rfl
open Classical in
noncomputable def sT(g:Z->Option (DI W))(p:Z->DI W->Z)(c:Z->Res (DI W)):Z->OutC Z Unit:=λs=>match g s with
 |some []=>bndO (c s) s λF=>if ((F.map (·.1)).map cI).Nodup then .ok () (p s F) else .bad
 |_=>.bad
def yJ(F:DI W):i0 ((F.map λp=>p.1.map (Sum.inl:Int->aH)).map λk=>.tup (k.map kD))=some (F.map (·.1)):=by
 have:((F.map λp=>p.1.map (Sum.inl:Int->aH)).map λk=>D.tup (k.map kD))=(F.map (·.1)).map (kY D.int):=by
  rw[Zt,Zt];refine ZQ λp _=>?_;show D.tup ((p.1.map (Sum.inl:Int->aH)).map kD)=D.tup (p.1.map D.int);rw[Zt];rfl
 rw[this];exact r9 _
def tN{e:W->D}{get:P1->Option D}{set:P1->D->P1}{g:Z->Option (DI W)}{p:Z->DI W->Z}(j:∀s,get (rep s)=(g s).map (aP e))(h:∀s F,set (rep s) (aP e F)=rep (p s F))(f:∀a,aW (e a)=true)(l:EJ rep (aP e) me c):NJ rep eN (sS get set me) (sT g p c):=λs=>by
 have i:=l s;unfold sS sT;rw[j];cases g s with
 |none=>trivial
 |some m=>
   cases m with
   |cons _ _=>trivial
   |nil=>
     show SimO rep eN (((me (rep s)).up (rep s)).bind λd T=>JD set T d) (bndO (c s) s _);refine SimR.el i (λF=>?_) (λ_=>rfl) λ_=>trivial;show SimO rep eN (match i0 ((F.map λp=>p.1.map (Sum.inl:Int->aH)).map λk=>.tup (k.map kD)) with|some b=>(if (b.map cI).Nodup/\(F.map λp=>e p.2).all aW=true then Out.ok .non (set (rep s) (aP e F)) else .bad)|none=>.bad) (if ((F.map (·.1)).map cI).Nodup then OutC.ok () (p s F) else .bad);rw[yJ];dsimp only;by_cases z:((F.map (·.1)).map cI).Nodup
     ·rw[YG z,YG ⟨z,by rw[Ai7,ZT];exact λa _=>f _⟩,h];rfl
     ·rw[on z];trivial
@[simp] def Yk{d c b a:Type}(f:d->c->b->a->OutC σ' L)(w:σ'->Z->Z)(e:Z->Option d)(o:Z->Res c)(n:Z->Res b)(m:Z->OutC Z a):Z->OutC Z L:=λs=>match e s with
 |none=>.bad
 | some _=>bndO (o s) s λk=>bndO (n s) s λj=>uV (m s) λi g=>match e g with
   |none=>.bad
   |some l=>(match f l k j i with | .ok r h=>.ok r (w h g) | .exc x h=>.exc x (w h g) | .bad=>.bad)
def VI{e0:p->D}{e1:n->D}{v:m->D}{C:l->D}{e:Z->Option p}{K:Str}{t:List D->Out D}{f:p->n->m->l->OutC σ' L}{w:σ'->Z->Z}
 (R:∀a,bq c K (e0 a)=true) (N:∀y s,cy [.O i,.F,.F,.F] 0 (Y y) (rep s)=rep (w y s)) (j:∀s,rg (rep s) i=(e s).map e0) (S:∀H d g q,SimO Y eR (t [e0 H,e1 d,v g,C q]) (f H d g q)) (W:EJ rep e1 M P) (V:EJ rep v u E) (U:NJ rep C A G):
 NJ rep eR (Nl c K i t M u A) (Yk f w e P E G):=λs=>by
 have g1:=W s;have B:=V s;have X:=U s;unfold Nl Yk;rw[j];cases e s with
 |none=>trivial
 |some o=>
   dsimp only[Option.map];rw[if_pos (R o)];refine SimR.el g1 (λd=>?_) (λ_=>rfl) λ_=>trivial;show SimO rep eR (((u (rep s)).up (rep s)).bind λz T=>(A T).bind λw b=>(match rg b i with|some h=>bV [.O i,.F,.F,.F] t [h,e1 d,z,w] b|none=>.bad)) (bndO (E s) s _);cases J:E s with
   |bad=>trivial
   |exc x=>rw[J]at B;rw[show u (rep s)=_ from B];rfl
   |ok g=>
     rw[J]at B;rw[show u (rep s)=_ from B];show SimO rep eR ((A (rep s)).bind λw b=>(match rg b i with|some h=>bV [.O i,.F,.F,.F] t [h,e1 d,v g,w] b|none=>.bad)) (uV (G s) _);refine SimO.bd X λq Q=>?_;rw[j];cases e Q with
     |none=>trivial
     |some h=>
       dsimp only[Option.map];have k:=S h d g q;unfold bV;cases I:f h d g q with
       |bad=>trivial
       |ok r y=>rw[I]at k;rw[show t [e0 h,e1 d,v g,C q]=_ from k];show Out.ok _ _=Out.ok _ _;rw[N]
       |exc x y=>rw[I]at k;rw[show t [e0 h,e1 d,v g,C q]=_ from k];show Out.exc _ _=Out.exc _ _;rw[N]
@[simp] def yO(g:Z->DI W)(p:List Int->Z->Z):Z->FlC Z (List Int):=λs=>match g s with
 |[]=>.nx s
 |q::_=>.rt q.1 (p q.1 s)
def DZ{g:Z->DI W}{p:List Int->Z->Z}(b:∀s,∃d,rg (rep s) i=some d/\bA c f d=.ok (aP e (g s)))(a:∀s,j<(rep s).length)(hp:∀s k,(rep s).set j (some (kY D.int k))=rep (p k s)):
 TJ rep (kY D.int) (l4 c f i j) (yO g p):=λs=>by
 obtain⟨d,l,h⟩:=b s;unfold l4 yO;rw[l];dsimp only;rw[h];cases q:g s with
 |nil=>exact rfl
 |cons x r=>
   show SimS rep (kY D.int) (if j<(rep s).length then .rt (.tup ((x.1.map (Sum.inl:Int->aH)).map kD)) ((rep s).set j (some (.tup ((x.1.map (Sum.inl:Int->aH)).map kD)))) else .bad) (.rt x.1 (p x.1 s))
   have m:D.tup ((x.1.map (Sum.inl:Int->aH)).map kD)=kY D.int x.1:=by
    show D.tup ((x.1.map (Sum.inl:Int->aH)).map kD)=D.tup (x.1.map D.int);rw[Zt];rfl
   rw[YG (a s),m,hp];exact rfl
end
end Cl
namespace L2
open PySem PySem.Spec PyProof.Rows
section
variable{X:Cx}{G:L9}{Z:St}{H:Hp}{s:Shared}{a b:Addr}{kvs:List (List aH×V)}{k:List aH}{v:V}{A:Around}{E:LV}
def Mb{dflt:Value}{Q:LV}(l:A.units+1<cLine)(I:Inv X G Z H s)(e:H a=some (.dT kvs))(V:H b=some (.tup (k.map kV)))
 (h:∀v M r,cJ kvs k=some v->Inv X G Z (upd H a (.dT (dZ kvs k))) r->RelV v M->Q M r) (h0:cJ kvs k=none->∀r,Inv X G Z H r->Q dflt r):wpAny (model X.prog X.w) A (call (.builtin "dict.pop") [.ref a,.ref b,dflt]) Q E s:=by
 obtain⟨z,hd,xs,f,dd⟩:=H0 I.hok e;have hz:xs.length<=sizeLine:=by rw[<-ZU f];exact z
 have i:=dD I.hok V;have g:=tupleKind_room_in1 (knd:=au X.prog X.w) l;have N:=dd.typeIs;obtain⟨o,n,ep,m,U,d,x,K,t⟩:=dd;have T:n.size=xs.length:=size_of_entries x;refine wpAny_call_entry PySem.F.slot_dict_pop N PySem.F.entry_dict_pop ?_ (PySem.F.args_dict_pop_3 _ _ _);unfold Builtin.«dict.pop»;refine wpAny_bind ?_;unfold Builtin.Dict.keyAndDefault;refine wpAny_bind (wpAny_notOrdered_dict N ?_);show wpAny _ _ (pure (a,Value.ref b,some dflt)) _ _ s;refine wpAny_pure ?_;dsimp only;rw[if_neg (by simp[keyPart])];refine wpAny_bind (wpAny_dictEntries m d ?_);refine wpAny_bind (wpAny_pure ?_);cases D:n.isEmpty with
 |true=>
   have R:xs=[]:=by
    have e1:n.size=0:=by simpa using D
    exact Zi.mp (by omega)
   rw[YG rfl];refine YH (YH (wpAny_rule (YR ?_)));show wpAny _ _ (Builtin.Dict.missedRemoval a (.ref b) >>= _) _ _ _;refine YH (wpAny_missedRemoval_other hd ?_);refine YH (wpAny_rule (YR ⟨_,rfl,?_⟩));refine h0 ?_ _ I
   have:=f.val k
   rw[R]at this;cases q:cJ kvs k with
   |none=>rfl
   |some v=>rw[q]at this;obtain⟨u,l,_⟩:=RelO.some_of this;cases l
 |false=>
   rw[if_neg Bool.false_ne_true];refine wpAny_bind ?_;unfold Builtin.Dict.takeOut
   try with_reducible refine Z2 ?_
   refine YH ((tupleKind (au X.prog X.w)).pyHash g i ?_);refine YH (wpAny_dictFind_heap (knd:=tupleKind (au X.prog X.w)) (s:={s with toks:=s.toks+(tupleKind (au X.prog X.w)).draws k}) g i m d x K t ?_ ?_)
   · intro C
     have B:cJ kvs k=none:=by
      have:=f.val k
      rw[atKey_none_of_get C]at this;cases q:cJ kvs k with
      |none=>rfl
      |some v=>rw[q]at this;obtain⟨u,l,_⟩:=RelO.some_of this;cases l
     refine YR ?_;simp only[Option.isNone_none,Ai2];refine YH (wpAny_missedRemoval_other hd ?_);exact YH (wpAny_rule (YR ⟨_,rfl,h0 B _ (I.tok _)⟩))
   · intro j p J;have hp:atKey xs k=some p:=atKey_of_get t J
     obtain⟨v,B,y⟩:∃v,cJ kvs k=some v/\RelV v p.2:=by
      have:=f.val k
      rw[hp]at this;cases q:cJ kvs k with
      |none=>rw[q]at this;have:=RelO.none_of this;cases this
      |some v=>rw[q]at this;obtain⟨u,l,P⟩:=RelO.some_of this;cases l;exact⟨v,rfl,P⟩
     refine YH (Aa3 (s:={s with toks:=s.toks+(tupleKind (au X.prog X.w)).draws k}) m d ?_);rw[entry_at x j,J];refine YH (wpAny_updateDictKeys (hz:=by omega) (s:={s with toks:=s.toks+(tupleKind (au X.prog X.w)).draws k}) m d (YR ?_));rw[on (by simp)];refine YH (Ad2 (YR ⟨_,rfl,?_⟩));show Q p.2 _;refine h v p.2 _ B ?_ y;have S:=Ac8 s.heap a (Obj.mapDictKeys λn=>n.eraseIdxIfInBounds j);refine k9 (s:=s) (t':=s.toks+(tupleKind (au X.prog X.w)).draws k) I (by rw[e];exact True.intro) S ⟨_,Zo _ m (ZZ (Zx d _))⟩ ⟨Ze (oR kvs k) z,hd,_,(f.drop k).keeps λc W O=>?_,_,_,ep+1,Zo _ m (ZZ (Zx d _)),U.mapDictKeys _,Zx d _,?_,?_⟩
     ·rw[aq (FS O e (λz=>nomatch z))];exact O
     ·rw[<-gY t J];obtain⟨el⟩:=n;have L:el=xs.map (entryOfKey (tupleKind (au X.prog X.w))):=x;rw[ZR];show el.eraseIdx j=_;rw[L];exact lS
     ·exact(t.sublist ((List.filter_sublist).map _))
end
def sV(e ty d:TE):TE:=λZ H Q=>e Z H λx H1=>∃a,x=.ref a/\Oi H1 a/\ty Z H1 λy f=>d Z f λz c=>∃kvs k b,c a=some (.dT kvs)/\y=.ref b/\c b=some (.tup (k.map kV))/\(∀v,cJ kvs k=some v->Q v (upd c a (.dT (dZ kvs k))))/\(cJ kvs k=none->Q z c)
def Cz{X:Cx}(O:X.A.units+1<cLine)(P:PE X o p)(S:PE X e ty)(R:PE X f n)(m:M2 X o "pop" g e f c):PE X (.Call (.Attribute o "pop" g) [e,f] [] c) (sV p ty n):=by
 intro G s Z H Q I h;refine Ac1 m.base m.few m.line ZE Z7 Ad8 (br (P G s Z H _ I h) λu C ⟨x,H1,q,F,a,ex,d,M⟩=>?_);subst ex;obtain rfl:u=Value.ref a:=F;obtain⟨t,r,_⟩:=lZ q d;refine⟨t,r,?_⟩;rw[m.trees]
 refine ZI rfl (ZV (Zz (br (S G C Z H1 _ q M) λN B ⟨y,H2,Y,E,L⟩=>
  Zz (br (R G B Z H2 _ Y L) λfv s3 ⟨z,H3,W,D,kvs,k,b,V,T,U,K,J⟩=>ZX ?_))))
 subst T;obtain rfl:N=Value.ref b:=E;exact Mb O W V U (λv w' w l j i=>⟨v,_,j,i,K v l⟩) λl w j=>⟨z,H3,j,D,J l⟩
end L2
namespace Mi
open PySem L2
section
variable{Y:Cm}{E:XK}{M:List Md}{B U H:Hp}{As:Nat->List Addr}{Z:St}{T:P1}{t:TE}{get:P1->Option D}{set:P1->D->P1}
def g8(set:P1->D->P1)(a:List (List aH))(vs:List D)(k:List aH)(T:P1):Out D:=match bj a vs k with
 |some y=>.ok y (set T (.dT (dt a vs k).1 (dt a vs k).2))
 |none=>.ok .non T
def i4(get:P1->Option D)(set:P1->D->P1)(mk:P1->Res D):P1->Out D:=λT=>match get T with
 |some (.dT b vs)=>((mk T).up T).bind λk T=>(match k with | .tup a=>(match bH a with|some k=>g8 set b vs k T|none=>.bad)|_=>.bad)
 |_=>.bad
def GI(p:Pth Y M t get set)(hk:PJ Y (KR Y .X) E M C mk):MJ Y (KR Y .F) E M (sV t C (tC .non)) (i4 get set mk):=by
 intro B U As Z H T Q R P;unfold i4 at P;cases e:get T with
 |none=>rw[e]at P;exact P.elim
 |some d=>
   obtain⟨v,A,W,O,hA,cl⟩:=p.rd R e;cases d with
   |dT r vs=>
     rw[e]at P;replace P:Mo Y (KR Y .F) E M B U Z (((mk T).up T).bind λk T=>(match k with | .tup n=>(match bH n with|some k=>g8 set r vs k T|none=>.bad)|_=>.bad)) Q:=P;obtain⟨a,kvs,rfl,K,h2,rfl,h3⟩:=O.dT rfl;refine W _ ⟨a,rfl,.inr ⟨kvs,.inl K⟩,hk B U As Z H T _ R ?_⟩;cases x:mk T with
     |exc c=>rw[x]at P;exact λI U1 H1 q f=>P I U1 As H1 q f.toEx
     |bad=>rw[x]at P;exact P.elim
     |ok J=>
       rw[x]at P;intro u I U1 H1 N q f n1 o;have o:Dn Y H1 J u:=o;cases J with
       |tup n=>
         replace P:Mo Y (KR Y .F) E M B U Z (match bH n with|some k=>g8 set r vs k T|none=>.bad) Q:=P;cases z:bH n with
         |none=>rw[z]at P;exact P.elim
         |some g=>
           rw[z]at P;replace P:Mo Y (KR Y .F) E M B U Z (g8 set r vs g T) Q:=P;rw[Dn]at o;obtain⟨b,xs,rfl,h4,h5⟩:=o;have ex:=fh z h5;subst ex;subst h2;have l:Dns Y I vs (kvs.map (·.2)):=h3.mono f.b;have j:=gp (Y:=Y) (G:=I) g l;unfold g8 at P;refine⟨kvs,g,b,f.h _ _ K,rfl,h4,λv i=>?_,λi=>?_⟩
           · cases m:bj (kvs.map (·.1)) vs g with
             |none=>rw[m]at j;rw[show cJ kvs g=none from j]at i;cases i
             |some y=>
               rw[m]at j P;obtain⟨w,s,L⟩:=j;rw[s]at i;cases i;obtain⟨V,S⟩:=oQ (Y:=Y) (G:=I) (k:=g) l;refine P _ I U1 As _ [] (cl I U1 H1 q f.b f.h a YK _ _ ?_) f.toEx NewM.nil L;rw[<-V];exact Ow.dT' ay S
           · cases m:bj (kvs.map (·.1)) vs g with
             |some y=>rw[m]at j;obtain⟨w,s,L⟩:=j;rw[s]at i;cases i
             |none=>
               rw[m]at P;exact P .non I U1 As H1 [] q f.toEx NewM.nil (by show Dn Y I .non .non;rw[Dn])
       |_=>exact P.elim
   |_=>rw[e]at P;exact P.elim
end
end Mi
namespace Cl
open PySem L2 Mi
section
variable{Z W X L:Type}{rep:Z->P1}
@[simp] def jE(g:Z->Option (DI (Option W)))(p:Z->DI (Option W)->Z)(ck:Z->Res (List Int)):Z->OutC Z (Option W):=λs=>match g s with
 |none=>.bad
 | some F=>bndO (ck s) s λk=>match DI.get F k with
   |some x=>.ok x (p s (F.del k))
   |none=>.ok none s
def ox:∀k:List Int,bH (k.map D.int)=some (k.map Sum.inl)
 |[]=>rfl
 | x::k=>by
   have:=ox k
   rw[YI,YI,bH,this];rfl
def n5{get:P1->Option D}{set:P1->D->P1}{g:Z->Option (DI (Option W))}{p:Z->DI (Option W)->Z}(d:∀s,get (rep s)=(g s).map (aP (eO e)))(c:∀s F,set (rep s) (aP (eO e) F)=rep (p s F))(a:EJ rep (kY D.int) mk ck):NJ rep (eO e) (i4 get set mk) (jE g p ck):=λs=>by
 have a:=a s;unfold i4 jE;rw[d];cases g s with
 |none=>trivial
 |some F=>
   show SimO rep (eO e) (((mk (rep s)).up (rep s)).bind λk T=>(match k with | .tup b=>(match bH b with|some k=>g8 set (F.map λp=>p.1.map (Sum.inl:Int->aH)) (F.map λp=>eO e p.2) k T|none=>.bad)|_=>.bad)) (bndO (ck s) s _);refine SimR.el a (λk=>?_) (λ_=>rfl) λ_=>trivial;show SimO rep (eO e) (match bH (k.map D.int) with|some k=>g8 set (F.map λp=>p.1.map (Sum.inl:Int->aH)) (F.map λp=>eO e p.2) k (rep s)|none=>.bad) (match DI.get F k with|some x=>OutC.ok x (p s (F.del k))|none=>.ok none s);rw[ox];show SimO rep (eO e) (g8 set (F.map λp=>p.1.map (Sum.inl:Int->aH)) (F.map λp=>eO e p.2) (k.map Sum.inl) (rep s)) _;unfold g8;rw[kJ];cases f:DI.get F k with
   |none=>exact rfl
   |some x=>
     show Out.ok (eO e x) (set (rep s) (.dT (dt _ _ (k.map Sum.inl)).1 (dt _ _ (k.map Sum.inl)).2))=Out.ok (eO e x) (rep (p s (F.del k)));rw[oP,<-c];rfl
end
section
variable{Z W X L:Type}{rep:Z->P1}{e:W->D}{e':X->D}{e'':L->D}
instance decH3 {W X L:Type} [DecidableEq W] [DecidableEq X] [DecidableEq L]:DecidableEq (W×X×L):=inferInstance
def L8(e:W->D)(e':X->D)(e'':L->D):W×X×L->D:=λp=>.lst [e p.1,e' p.2.1,e'' p.2.2]
def L6(i:EJ rep e m c)(h:EJ rep e' n d)(g:EJ rep e'' o f):EJ rep (L8 e e' e'') (jL (aj m (aj n (aj o aB)))) (fe c (fe d f)):=λs=>kq i λa=>by
 show SimR _ _ (((d s).bind λy=>(f s).bind λz=>.ok (y,z)).bind λy=>.ok (a,y));rw[Ml];exact kq h λb=>by rw[Ml];exact kq g λz=>by simp only[aB,Res.bind];rw[YG (by show 3<=af;decide)];rfl
def VG(p:W×X×L):SimR e (ki (L8 e e' e'' p) (.int 0)) (vX p):=rfl
def VF(p:W×X×L):SimR e' (ki (L8 e e' e'' p) (.int 1)) (vF p):=rfl
def VE(p:W×X×L):SimR e'' (ki (L8 e e' e'' p) (.int 2)) (D1 p):=rfl
end
end Cl
open PySem L2 in
def L2.Room.mm{j k:Nat}{A:Around}(r:Room k A)(h:j<=k:=by decide):Room j A:=r.mono h
namespace Mi
open PySem L2
section
variable{Y:Cm}{E:XK}{M:List Md}{ta tb:TE}{ma mb:P1->Res D}
abbrev X0(K:F0):List V->Hp->VK->Prop:=λxs H Q=>∃p a,xs=[V.ref p]/\(SqL K H p a\/SqT K H p a)/\Q (.int a.length) H
abbrev X4(K:F0):List V->Hp->VK->Prop:=λxs H Q=>∃p,∃bs:List Bool,xs=[.ref p]/\SqL K H p (bs.map V.bl)/\Q (.bl (bs.any id)) H
abbrev X3(K:F0):List V->Hp->VK->Prop:=λxs H Q=>∃x c t b,xs=[x,.ty c]/\TyOf K H x t/\PySem.W.kitOne K t (.type c)=some b/\Q (.bl b) H
abbrev Uy:List V->Hp->VK->Prop:=λxs H Q=>∃i j,xs=[.int i,.int j]/\Q (.int (if j<i then j else i)) H
abbrev Uz:List V->Hp->VK->Prop:=λxs H Q=>∃i j,xs=[.int i,.int j]/\Q (.int (if j>i then j else i)) H
def UT(a:PJ Y (KR Y .X) E M ta ma):PJ Y (KR Y .F) E M (xK (X0 Y.K) (aN ta bT)) (un gq ma):=M8 Uj a
def U7(a:PJ Y (KR Y .X) E M ta ma):PJ Y (KR Y .F) E M (xK (X4 Y.K) (aN ta bT)) (un re ma):=M8 Ur a
def UW(b:PJ Y (KR Y .X) E M ta ma)(a:PJ Y (KR Y .X) E M tb mb):PJ Y (KR Y .F) E M (xK (X3 Y.K) (aN ta (aN tb bT))) (bn HE ma mb):=FA Uk b a
def PP(b:PJ Y (KR Y .X) E M ta ma)(a:PJ Y (KR Y .X) E M tb mb):PJ Y (KR Y .F) E M (xK Uy (aN ta (aN tb bT))) (bn tQ ma mb):=FA Ug b a
def PU(b:PJ Y (KR Y .X) E M ta ma)(a:PJ Y (KR Y .X) E M tb mb):PJ Y (KR Y .F) E M (xK Uz (aN ta (aN tb bT))) (bn tR ma mb):=FA Uh b a
end
def KA{X:Cx}{i:Nat}(f:X.N.Nodup)(hi:X.N[i]?=some x)(b:Tz X.env.scope x)(d:PE X e te)(c:X.fn x=true\/X.env.scope.names.lookup x=some .local:=by first | exact .inl rfl | exact .inr rfl | assumption):
 PS X (.AugAssign (.Name x a) .Add e pos) (qS (DM (yn λi j=>.int (i+j)) (cK i) te) (dg i)):=λG s Z H D I h=>Pa f hi b d HG c G s Z H D I h
section
variable{P:Program}{w:World}{K:F0}{mg:Str->Option Value}{base:Heap}{f C:Addr}{fd:FuncData}{ps:List Str}{sp:Sp}{k:Nat}{x y m qual:Str}{st:Stmt}
structure CalN (P:Program) (w:World) (K:F0) (mg:Str->Option Value) (base:Heap) (x:Str) (k:Nat) (sp:Sp):Prop where
 ex:∃f fd ps,FnOk P w K mg base u4 k f fd ps sp/\mg x=some (.ref f)/\PySem.W.keepIn K (.ref f)=true/\Binds K fd ps []
structure CalM (P:Program) (w:World) (K:F0) (mg:Str->Option Value) (base:Heap) (C:Addr) (m:Str) (k:Nat) (sp:Sp):Prop where
 ex:∃f fd ps,FnOk P w K mg base u4 k f fd ps sp/\Meth K C m f/\Binds K fd ps []
structure CalC (P:Program) (w:World) (K:F0) (mg:Str->Option Value) (base:Heap) (C:Addr) (x:Str) (k:Nat) (sp:Sp):Prop where
 ex:∃f fd ps,FnOk P w K mg base u4 k f fd ps sp/\Mk K C f/\mg x=some (.ref C)/\Binds K fd ps []
variable{X:Cx}{e o:Expr}{es:List Expr}{t:TA}{ta:TE}{p pos apos:Pos}
def Fp(c:CalN X.prog X.w X.K X.mg X.base x k sp)(f:Room k X.A)(j:Gl X x)(m:PA X (e::es) t)(d:(x==("__debug__" : Str))=false:=by decide)(l:starEach (e::es) X.env=(false,eval e X.env)::starEach es X.env:=by rfl)(a:(backTo pos (starEach es X.env)).any (·.1)=false:=by rfl):
 PE X (.Call (.Name x p) (e::es) [] pos) (iL sp [] E0 t):=
 let ⟨_,_,_,h,g,i,b⟩:=c.ex;K1 h f j g i b .nil Au m d l a
def Fg(n:PE X o ta)(l:Cls X.K C)(c:CalM X.prog X.w X.K X.mg X.base C m k sp)(i:Room k X.A)(p:PA X (e::es) t)
 (a:starEach (e::es) X.env=(false,eval e X.env)::starEach es X.env:=by rfl) (d:(backTo pos (starEach es X.env)).any (·.1)=false:=by rfl)
 (g:eval (.Call (.Attribute o m apos) (e::es) [] pos) X.env=(do
   let ov <-eval o X.env
   standAt apos.atName
   let (f,first) <-holding [ov] (getMethod ov m pl)
   callWith pos f first (backTo pos (starEach (e::es) X.env)) (backToKw pos (keywordEach [] X.env))):=by rfl):
 PE X (.Call (.Attribute o m apos) (e::es) [] pos) (cY C m sp [] E0 ta t):=
 let ⟨_,_,_,h,j,b⟩:=c.ex;KQ n l j h i b .nil Au p a d g
def Cy(g:PE X o ta)(l:Cls X.K C)(c:CalM X.prog X.w X.K X.mg X.base C m k sp)(d:Room k X.A)
 (a:eval (.Call (.Attribute o m apos) [] [] pos) X.env=(do
   let ov <-eval o X.env
   standAt apos.atName
   let (f,first) <-holding [ov] (getMethod ov m pl)
   callWith pos f first (backTo pos (starEach [] X.env)) (backToKw pos (keywordEach [] X.env))):=by rfl):
 PE X (.Call (.Attribute o m apos) [] [] pos) (cY C m sp [] E0 ta bT):=
 let ⟨_,_,_,h,e,b⟩:=c.ex;Fh g l e h d b .nil Au a
def Fi(c:CalC X.prog X.w X.K X.mg X.base C x k sp)(f:Room (k+1) X.A)(i:Gl X x)
 (l:PA X (e::es) t) (d:(x==("__debug__" : Str))=false:=by decide) (j:starEach (e::es) X.env=(false,eval e X.env)::starEach es X.env:=by rfl) (a:(backTo pos (starEach es X.env)).any (·.1)=false:=by rfl):
 PE X (.Call (.Name x p) (e::es) [] pos) (rA C sp [] E0 t):=
 let ⟨_,_,_,h,M,g,b⟩:=c.ex;KS M h f i g b .nil Au l d j a
end
section
variable{K:F0}{mg:Str->Option Value}{ns:List Str}{M:List (Addr×Str)}{fs cs:List Addr}{ds:List (Addr×Str)}{es:List Addr}{ks:List (Addr×Value)}{xp:HD.Ob}{P:Program}{w:World}{base:Heap}{f C:Addr}{fd:FuncData}{ps:List Str}{sp:Sp}{k:Nat}{x y m q:Str}{st:Stmt}{v:Value}
structure Tx (ns:List Str) (M:List (Addr×Str)) (fs cs:List Addr) (ds:List (Addr×Str)) (es:List Addr) (ks:List (Addr×Value)) (xp:HD.Ob) (K:F0) (mg:Str->Option Value):Prop where
 ex:∃h:Heap,K.In h/\h.Ns mainGlobals mg
 y:HD.obK ns M fs cs ds es ks K=xp
def Lm{W X:Type}{l:List W}{g:W->X}{r:List X}(h:l.map g=r){i:Nat}{a:W}{b:X}(d:l[i]?=some a)(c:r[i]?=some b):g a=b:=HD.nth h i (by rw[Y5,d];rfl) c
def Ys(h:HD.fnO K f q=HD.fnE x q st):∃d,Fun K x q st f d:=by
 have b:=HD.fn_keep h;obtain⟨oc,k,kV,i,pm,an,j,ct,a,l,c⟩:=HD.fn_of h;have e1:HD.dA st=jo st:=by cases st<;>rfl
 have g:HD.dB st=bI st:=by cases st<;>rfl
 have e:HD.dS st=aL st:=by cases st<;>rfl
 rw[e1,g,e]at l;exact⟨_,RY l c b⟩
variable(T:Tx ns M fs cs ds es ks xp K mg)
include T
def Tx.tm(i:Nat)(b:ns[i]?=some x)(a:xp.1[i]?=some (some (some v))):mg x=some v:=let ⟨_,X,G⟩:=T.ex;PySem.W.mg_of X G (Lm (congrArg (·.1) T.y) b a)
def Tx.tz(i:Nat)(b:ns[i]?=some x)(a:xp.1[i]?=some (some none)):mg x=none:=let ⟨_,X,G⟩:=T.ex;PySem.W.mg_none_of X G (Lm (congrArg (·.1) T.y) b a)
def Tx.ta(i:Nat){o:Option (Option Value)}(b:M[i]?=some (C,m))(a:xp.2.1[i]?=some o):PySem.W.findIn K (.ref C) m=o:=Lm (g:=λp=>PySem.W.findIn K (.ref p.1) p.2) (congrArg (·.2.1) T.y) b a
def Tx.tn(i:Nat)(a:fs[i]?=some f)(b:xp.2.2.1[i]?=some true):PySem.W.isFn K (.ref f)=true:=HD.nth (congrArg (·.2.2.1) T.y) i (by show((fs.map λf=>PySem.W.isFn K (.ref f))++cs.map (HD.cls K))[i]?=_;rw[Zy (by have:=(Y2.mp a).1;simpa using this),Y5,a];rfl) b
def Tx.tc(i:Nat)(b:cs[i]?=some C)(a:xp.2.2.1[fs.length+i]?=some true):HD.cls K C=true:=HD.nth (congrArg (·.2.2.1) T.y) (fs.length+i) (by show((fs.map λf=>PySem.W.isFn K (.ref f))++cs.map (HD.cls K))[fs.length+i]?=_;rw[Zu (by simp),Y5];simp[b]) a
def Tx.tcl(i j:Nat)(g:cs[i]?=some C)(f:xp.2.2.1[fs.length+i]?=some true)(e:M[j]?=some (C,("__setattr__" : Str)))(d:xp.2.1[j]?=some (some (some (.builtin "object.__setattr__")))):Cls K C:=
 let ⟨a,b,c,_,_⟩:=HD.cls_of (T.tc i g f);⟨a,b,c,T.ta j e d⟩
def Tx.tf(i:Nat)(b:ds[i]?=some (f,q))(a:xp.2.2.2.1[i]?=some (HD.fnE x q st)):∃d,Fun K x q st f d:=Ys (Lm (g:=λp=>HD.fnO K p.1 p.2) (congrArg (·.2.2.2.1) T.y) b a)
def Tx.calN(i j:Nat)(e:(ds[i]?,xp.2.2.2.1[i]?,ns[j]?,xp.1[j]?)=(some (f,q),some (HD.fnE x q st),some y,some (some (some (.ref f)))))(h:∀d,Fun K x q st f d->FnOk P w K mg base u4 k f d ps sp/\Binds K d ps []):CalN P w K mg base y k sp:=by
 simp only[Ac9]at e;obtain⟨g,c,b,a⟩:=e;obtain⟨_,F⟩:=T.tf i g c;exact⟨⟨_,_,_,(h _ F).1,T.tm j b a,F.kp,(h _ F).2⟩⟩
def Tx.calM(i j:Nat)(e:(ds[i]?,xp.2.2.2.1[i]?,M[j]?,xp.2.1[j]?,fs[j]?,xp.2.2.1[j]?)=(some (f,q),some (HD.fnE x q st),some (C,m),some (some (some (.ref f))),some f,some true))(h:∀d,Fun K x q st f d->FnOk P w K mg base u4 k f d ps sp/\Binds K d ps []):CalM P w K mg base C m k sp:=by
 simp only[Ac9]at e;obtain⟨n,l,g,c,b,a⟩:=e;obtain⟨_,F⟩:=T.tf i n l;exact⟨⟨_,_,_,(h _ F).1,⟨T.ta j g c,T.tn j b a,F.kp⟩,(h _ F).2⟩⟩
def Tx.calC(i j l n:Nat)(e:(ds[i]?,xp.2.2.2.1[i]?,M[j]?,xp.2.1[j]?,fs[j]?,xp.2.2.1[j]?,cs[l]?,xp.2.2.1[fs.length+l]?,ns[n]?,xp.1[n]?)=(some (f,q),some (HD.fnE x q st),some (C,("__init__" : Str)),some (some (some (.ref f))),some f,some true,some C,some true,some y,some (some (some (.ref C)))))(h:∀d,Fun K x q st f d->FnOk P w K mg base u4 k f d ps sp/\Binds K d ps []):CalC P w K mg base C y k sp:=by
 simp only[Ac9]at e;obtain⟨v,u,t,s,r,p,o,m,g,b⟩:=e;obtain⟨_,F⟩:=T.tf i v u;obtain⟨_,_,_,a,c⟩:=HD.cls_of (T.tc l o m);exact⟨⟨_,_,_,(h _ F).1,⟨a,T.ta j t s,T.tn j r p,c⟩,T.tm n g b,(h _ F).2⟩⟩
end
section
open PyProof.Rows PySem.W
variable{P:Program}{w:World}{K:F0}{mg:Str->Option Value}{base:Heap}{Y:Cm}{x qual:Str}{st:Stmt}{f:Addr}{fd:FuncData}{k:Nat}{M:List Md}{body:P1->SO}{fm:List D->Out D}
def Wm(F:Fun K x qual st f fd)(h:∀d,Fun K x qual st f d->FnOk P w K mg base u4 k f d ps sp/\Binds K d ps []):FnOk P w K mg base u4 k f fd ps sp:=(h _ F).1
abbrev Bnd(x qual:Str)(st:Stmt)(ps:List Str):Prop:=∀(kV a pm:Value) (an:Option Addr) (b ct:Value) (us:List Value),us.length=ps.length->bindArgs (PySem.W.fnOf x qual (jo st) (bI st) (aL st) .none kV a pm an b ct) ⟨us,[]⟩=pure (ps.zip us)
def f8(N:List Str)(more:List Md)(c:fm=run N.length body)(g:∀{a:Value} {A:Around} {outer:List PySem.Env} {s:Shared} {H:Hp} {E:XK},Room k (A.deeper (envOfC qual (aL st) s.heap.objs.size f a))->N.Nodup->∃t,SJ Y E0 (KR Y .F) (rH M M.length) (M++more) t body/\PSs (wd u4 P w K mg base N qual (aL st) f a A outer s H E).nox (bI st) t:=by intros;and_intros)
 (S:FnScope N (N.take M.length) (aL st):=by ac_rfl) (d:N.length=M.length + more.length:=by rfl) (b:Bnd x qual st (N.take M.length):=by intro _ _ _ _ _ _;first | exact Ha λ_=>rfl | exact G8 λ_ _=>rfl | exact G7 λ_ _ _=>rfl | exact G6 λ_ _ _ _=>rfl | exact NQ λ_ _ _ _ _=>rfl):∀fd,Fun K x qual st f fd->FnOk P w K mg base u4 (k + 1) f fd (N.take M.length) (gc Y M (KR Y .F) fm)/\Binds K fd (N.take M.length) []:=λfd F=>
 ⟨F.ok S (λvs H Q E h=>(zT h).trans (by rw[Ah2,d];omega)) λa A outer s H vs Q E e h=>let ⟨t,j,p⟩:=g e S.nd;⟨t,p,L1 j d c (λ_ _ _=>Uu) h⟩,F.binds b⟩
def DO(N:List Str)(more:List Md)(c:fm=iN N.length body)(g:∀{a:Value} {A:Around} {outer:List PySem.Env} {s:Shared} {H:Hp} {E:XK},Room k (A.deeper (envOfC qual (aL st) s.heap.objs.size f a))->N.Nodup->∃t,SJ Y E0 (KO Y sh) (rH M M.length) (M++more) t body/\PSs (wd u4 P w K mg base N qual (aL st) f a A outer s H E).nox (bI st) t:=by intros;and_intros)
 (S:FnScope N (N.take M.length) (aL st):=by ac_rfl) (d:N.length=M.length + more.length:=by rfl) (b:Bnd x qual st (N.take M.length):=by intro _ _ _ _ _ _;first | exact Ha λ_=>rfl | exact G8 λ_ _=>rfl | exact G7 λ_ _ _=>rfl | exact G6 λ_ _ _ _=>rfl | exact NQ λ_ _ _ _ _=>rfl):∀fd,Fun K x qual st f fd->FnOk P w K mg base u4 (k + 1) f fd (N.take M.length) (gc Y M (KO Y sh) fm)/\Binds K fd (N.take M.length) []:=λfd F=>
 ⟨F.ok S (λvs H Q E h=>(zT h).trans (by rw[Ah2,d];omega)) λa A outer s H vs Q E e h=>let ⟨t,j,p⟩:=g e S.nd;⟨t,p,HP j d c h⟩,F.binds b⟩
end
section
variable{Y:Cm}{E:XK}{M:List Md}{P:Program}{w:World}{K:F0}{mg:Str->Option Value}{base:Heap}{x mn:Str}{C:Addr}{n c i:Nat}{msC:List Md}{fm:List D->Out D}{ps:List Ap}{p:Ap}{s:Sh}{sh:List (Str×Sh)}{ta tb tx:TE}{ma mb:P1->Res D}{mx:P1->Out D}{t:TA}{m:P1->Res (List D)}{get:P1->Option D}{set:P1->D->P1}
def upP{W X:Type}{K:KT W X}{t:St->Hp->(X->Hp->Prop)->Prop}{m:P1->Res W}(h:PJ Y K E M t m):MJ Y K E M t (ar m):=upM h
def kx(h:PJ Y (KR Y k) E M ta ma):PJ Y (KR Y .X) E M ta ma:=by
 cases k with
 |F=>exact fx h
 |U=>exact ux h
 |X=>exact h
def apK:Kd->Ap
 |.F=> .F
 |.U=> .U
 |.X=> .X
def aK(h:PJ Y (KR Y k) E M ta ma):A1J Y E M (apK k) ta ma:=by
 cases k with
 |F=>exact aF h
 |U=>exact aU h
 |X=>exact aX h
def rSc(h:PJ Y (KR Y .X) E M ta ma):PJ Y (KR Y .F) E M ta (lO ma):=rS (k:= .X) h
def Py(_:CalN P w K mg base x n (gc Y msC (KR Y .F) fm))(h:AJ Y E0 M ps t m)(a:fj ps msC=true):PJ Y (KR Y .F) E0 M (iL (gc Y msC (KR Y .F) fm) [] E0 t) (pc fm m):=UL h a
def K3(_:CalN P w K mg base x n (gc Y msC (KO Y s) fm))(h:AJ Y E0 M ps t m)(a:fj ps msC=true):PJ Y (KO Y s) E0 M (iL (gc Y msC (KO Y s) fm) [] E0 t) (pc fm m):=Px h a
def Pe(_:CalM P w K mg base C mn n (gc Y msC (KR Y .F) fm))(b:A1J Y E0 M p ta ma)(h:AJ Y E0 M ps t m)(a:fj (p::ps) msC=true):PJ Y (KR Y .F) E0 M (cY (Y c) mn (gc Y msC (KR Y .F) fm) [] E0 ta t) (pm c mn fm ma m):=UD b h a
def KG(_:CalM P w K mg base C mn n (gc Y msC (KO Y s) fm))(b:A1J Y E0 M p ta ma)(h:AJ Y E0 M ps t m)(a:fj (p::ps) msC=true):PJ Y (KO Y s) E0 M (cY (Y c) mn (gc Y msC (KO Y s) fm) [] E0 ta t) (pm c mn fm ma m):=Pd b h a
def Pf(_:CalC P w K mg base C x n (gc Y (.O (.ob sh)::msC) (KR Y .F) fm))(h:AJ Y E0 M ps t m)(a:fj ps msC=true):PJ Y (KO Y (.ob sh)) E0 M (rA (Y c) (gc Y (.O (.ob sh)::msC) (KR Y .F) fm) [] E0 t) (pk c fm m):=UE h a
def Ro(_:CalN P w K mg base x n (gc Y msC (KR Y .F) fm))(h:AJ Y E0 M ps t m)(a:fitM M ps msC)(hd:(cD ps).Nodup)(b:∀i∈iJ ps,i∉cD ps):MJ Y (KR Y .F) E0 M (iL (gc Y msC (KR Y .F) fm) [] E0 t) (mc ps fm m):=Wd h a hd b
def Rn(_:CalM P w K mg base C mn n (gc Y msC (KR Y .F) fm))(d:A1J Y E0 M p ta ma)(h:AJ Y E0 M ps t m)(a:fitM M (p::ps) msC)(hd:(cD (p::ps)).Nodup)(b:∀i∈iJ (p::ps),i∉cD (p::ps)):MJ Y (KR Y .F) E0 M (cY (Y c) mn (gc Y msC (KR Y .F) fm) [] E0 ta t) (mm c mn (p::ps) fm ma m):=Wb d h a hd b
def Lu(_:CalM P w K mg base C mn n (gc Y msC (KR Y .F) fm))(e:PJ Y (KR Y .F) E0 M ta ma)(d:PJ Y (KR Y .F) E0 M tb mb)(a:MJ Y (KR Y .F) E0 M tx mx)(b:fitM M [.O i,.F,.F,.F] msC):MJ Y (KR Y .F) E0 M (cY (Y c) mn (gc Y msC (KR Y .F) fm) [] E0 (cK i) (aN ta (aN tb (aN tx bT)))) (Nl c mn i fm ma mb mx):=Lv e d a b
def Lr(_:CalM P w K mg base C mn n (gc Y (.O s::msC) (KR Y .F) fm))(p:Prt Y M ta get set i s)(h:AJ Y E0 M ps t m)(b:fitM M ps msC)(a:cD ps=[])(d:i∉iJ ps):MJ Y (KR Y .F) E0 M (cY (Y c) mn (gc Y (.O s::msC) (KR Y .F) fm) [] E0 ta t) (Lw c mn get set fm m):=Ls p h b a d
end
end Mi
set_option genInjectivity false
set_option genSizeOf false
namespace K18
open PySem L2 Mi
abbrev dq(K:F0)(mg:Str->Option Value):Prop:=Tx TL TM TU TX TW TV TQ (TD PySem.Challenge.pw_heraldways_k18_whole_calm_is_settled) K mg
structure Tx0 (K:F0) (mg:Str->Option Value):Prop where
 g_SEAT:mg "SEAT" = some (.int 0 296)
 g_MOST_HOUSES:mg "MOST_HOUSES" = some (.int 60 298)
 z_len:mg "len" = none
 z_range:mg "range" = none
 z_min:mg "min" = none
 z_max:mg "max" = none
 z_set:mg "set" = none
 z_list:mg "list" = none
 z_tuple:mg "tuple" = none
 z_isinstance:mg "isinstance" = none
 z_bool:mg "bool" = none
 z_int:mg "int" = none
 z_any:mg "any" = none
 cl_Guild:Cls K 240
 cl_Post:Cls K 412
 n_house_count:NoAttr K 240 "house_count"
 n_ways:NoAttr K 240 "ways"
 n_likings:NoAttr K 240 "likings"
 n_shuns:NoAttr K 240 "shuns"
 n_wish_ranks:NoAttr K 240 "wish_ranks"
 n_guild:NoAttr K 412 "guild"
 n_roads:NoAttr K 412 "roads"
 n_told_last:NoAttr K 412 "told_last"
 n_written_last:NoAttr K 412 "written_last"
 n_letters:NoAttr K 412 "letters"
 n_standings:NoAttr K 412 "standings"
def tx0{K:F0}(T:dq K mg):Tx0 K mg:=⟨T.tm 26 rfl rfl,T.tm 27 rfl rfl,T.tz 28 rfl rfl,T.tz 29 rfl rfl,T.tz 30 rfl rfl,T.tz 31 rfl rfl,T.tz 32 rfl rfl,T.tz 33 rfl rfl,T.tz 34 rfl rfl,T.tz 35 rfl rfl,T.tz 36 rfl rfl,T.tz 37 rfl rfl,T.tz 38 rfl rfl,T.tcl 0 31 rfl rfl rfl rfl,T.tcl 1 32 rfl rfl rfl rfl,T.ta 33 rfl rfl,T.ta 34 rfl rfl,T.ta 35 rfl rfl,T.ta 36 rfl rfl,T.ta 37 rfl rfl,T.ta 38 rfl rfl,T.ta 39 rfl rfl,T.ta 40 rfl rfl,T.ta 41 rfl rfl,T.ta 42 rfl rfl,T.ta 43 rfl rfl⟩
def d5(K:F0):Mi.Cm:=⟨λc=>match c with|0=>240|1=>412|_=>0,K,[]⟩
abbrev f7(K:F0)(M:List Mi.Md)(m:List Mi.D->Mi.Out Mi.D):=Mi.gc (d5 K) M (Mi.KR (d5 K) .F) m
def b8:List (Str×Sh):=[("ways",.ct .fz),("likings",.ct .fz),("shuns",.ct .fz),("wish_ranks",.ct .fz)]
def cG:List (Str×Sh):=[("guild",.ob b8),("roads",.ct .fz),("told_last",.ct .fz),("written_last",.ct .fz),("letters",.ct .fz),("standings",.ct (.ct .fz))]
def V9:List Md:=[.O (.ob b8),.F]
def NO:P1->SO:=ai (fi (ar (yq (b6 (bn G4 (vr 1) (ax (.int 1)))) (b6 (bn DS (vr 1) (ax (.int 60))))))
 (λ_=>.bad)
 aV)
 (ai (cz 0 "house_count" 0 (ar (vr 1)))
 (ai (cz 0 "ways" 0 (ar (ax (.dT [] []))))
 (ai (cz 0 "likings" 0 (ar (ax (.dT [] []))))
 (ai (cz 0 "shuns" 0 (ar (ax (.dT [] []))))
 (cz 0 "wish_ranks" 0 (ar (ax (.dT [] []))))))))
def CV:List D->Out D:=run 2 NO
def GC:NO=(ai (fi (ar (yq (b6 (bn G4 (vr 1) (ax (.int 1)))) (b6 (bn DS (vr 1) (ax (.int 60))))))
 (λ_=>.bad)
 aV)
 (ai (cz 0 "house_count" 0 (ar (vr 1)))
 (ai (cz 0 "ways" 0 (ar (ax (.dT [] []))))
 (ai (cz 0 "likings" 0 (ar (ax (.dT [] []))))
 (ai (cz 0 "shuns" 0 (ar (ax (.dT [] []))))
 (cz 0 "wish_ranks" 0 (ar (ax (.dT [] []))))))))):=rfl
def V8:List Md:=[.R,.R,.F]
def NN:P1->SO:=bp (ar (eJ (dR (un (bA 0 "house_count") (vr 0))) [1,2] (b6 (bn (mh false) (iW (aj (vr 2) (aj (vr 0) aB))) (vr 1))) (vr 0)))
def RG:List D->Out D:=iN 3 NN
def VX:List Md:=[.R,.F,.R]
def NB:P1->SO:=bp (ar (un re (eJ (fJ (vr 2)) [1,0] (λ_=>.ok true) (bn (mh false) (iW (aj (vr 1) (aj (lO (vr 0)) aB))) (un (bA 0 "shuns") (vr 2))))))
def Ry:List D->Out D:=run 3 NB
def VW:List Md:=[.R]
def NA:P1->SO:=bp (ar (lO (un (bA 0 "house_count") (vr 0))))
def lT:List D->Out D:=run 1 NA
def VO:List Md:=[.R]
def Nr:P1->SO:=ai (l4 1 "letters" 0 1)
 (λ_=>.bad)
def Rs:List D->Out D:=run 2 Nr
def VN:List Md:=[.O (.ob cG),.F,.F]
def Nq:P1->SO:=ai (aE (i4 (dY 1 "letters" 0) (du "letters" 0) (iW (aj (vr 1) (aj (vr 2) aB)))))
 (ai (aE (i4 (dY 1 "told_last" 0) (du "told_last" 0) (iW (aj (vr 1) (aj (vr 2) aB)))))
 (ai (aE (i4 (dY 1 "written_last" 0) (du "written_last" 0) (iW (aj (vr 1) (aj (vr 2) aB)))))
 (aE (oT (kN (iz (b7 0) 1 "standings") (DP 2)) (mB (iz (b7 0) 1 "standings") (mC (b7 0) (cZ 0) "standings") (DP 2)) (vr 1)))))
def LC:List D->Out D:=run 3 Nq
def Rj:List Md:=[.O (.ob cG),.F,.F]
def Gy:P1->SO:=ai (a7 3 (ar (bn ki (un (bA 1 "roads") (vr 0)) (vr 1))))
 (ai (fi (ar (b6 (bn (L4 false) (sj (un (bA 1 "written_last") (vr 0)) (iW (aj (vr 1) (aj (vr 2) aB)))) (vr 3))))
 Kk
 aV)
 (ai (fo (dY 1 "written_last" 0) (du "written_last" 0) (iW (aj (vr 1) (aj (vr 2) aB))) (ar (vr 3)))
 (fo (dY 1 "letters" 0) (du "letters" 0) (iW (aj (vr 1) (aj (vr 2) aB))) (ar (vr 3)))))
def vK:List D->Out D:=run 4 Gy
def Q9:List Md:=[.R,.F]
def Gm:P1->SO:=ai (fi (ar (b6 (bn G4 (vr 1) (un gq (vr 0)))))
 (bp (ar (lO (bn ki (vr 0) (vr 1)))))
 aV)
 (bp (ar (ax (.int 0))))
def og:List D->Out D:=run 2 Gm
def Q6:List Md:=[.F,.F]
abbrev Ho:P1->SO:=(ai (a7 0 (ar (bn cX (bn lF (bn tP (vr 0) (ax (.int 48271))) (ax (.int 11))) (ax (.int 2147483647)))))
 (fo (b7 2) (cZ 2) (iW (aj (bn cX (vr 0) (vr 1)) (aj (bn cX (bn eC (vr 0) (ax (.int 7))) (vr 1)) aB))) (ar (bn sX (bn cX (bn eC (vr 0) (ax (.int 49))) (ax (.int 7))) (ax (.int 3))))))
def Gi:P1->SO:=ai (a7 2 (ar (ax (.dT [] []))))
 (ai (cW (ar (dR (bn cX (vr 0) (ax (.int 5))))) (rn 3)
 Ho)
 (bp (xM 2)))
def GP:List D->Out D:=iN 4 Gi
def Q4:List Md:=[.R,.R,.F]
def Gg:P1->SO:=ai (a7 3 (ar (lO (vW (vr 0) (iW (aj (bn ki (vr 2) (ax (.int 0))) (aj (bn ki (vr 2) (ax (.int 1))) aB))) (ax (.int 0))))))
 (ai (fi (ar (b6 (bn (mh false) (un xT (vr 2)) (vr 1))))
 (a7 3 (ar (lO (bn k6 (vr 1) (un xT (vr 2))))))
 aV)
 (bp (ar (iW (aj (bn sX (ax (.int 0)) (vr 3)) (aj (un gq (vr 2)) (aj (vr 2) aB)))))))
def AG:List D->Out D:=run 4 Gg
def Q3:List Md:=[.F,.F,.F]
abbrev Hi:P1->SO:=(ai (aE (DD 4 (kG (b7 3) (cZ 3) Fa (bn cX (vr 0) (un gq (vr 3))))))
 (ai (a7 0 (ar (bn eC (vr 0) (ax (.int 5)))))
 (a7 5 (ar (bn sX (vr 5) (ax (.int 1)))))))
def Gf:P1->SO:=ai (a7 3 (ar (eJ (yb (ax (.int 1)) (vr 2)) [1] (b6 (bn (sn true) (vr 0) (vr 1))) (vr 0))))
 (ai (a7 4 (ar (jL (aj (vr 1) aB))))
 (ai (a7 5 (ar (bn cX (vr 0) (ax (.int 4)))))
 (ai (fi (ar (b6 (bn (sn false) (bn cX (bn eC (vr 0) (ax (.int 4))) (ax (.int 8))) (ax (.int 3)))))
 (a7 5 (ar (vr 2)))
 aV)
 (ai (a7 0 (ar (bn eC (vr 0) (ax (.int 4)))))
 (ai (xJ (ar (uX (b6 (bn DS (vr 5) (ax (.int 0)))) (b6 (bn DS (un gq (vr 3)) (ax (.int 0))))))
 Hi 100000)
 (bp (ar (bn zB (vr 4) (jL (aj (ax (.int 0)) aB))))))))))
def GO:List D->Out D:=iN 6 Gf
def Q0:List Md:=[.F,.F]
abbrev Hg:P1->SO:=(ai (a7 0 (ar (bn cX (bn lF (bn tP (vr 0) (ax (.int 48271))) (ax (.int 23))) (ax (.int 2147483647)))))
 (ai (a7 4 (ar (bn cX (vr 0) (vr 1))))
 (ai (a7 5 (ar (bn cX (bn lF (bn lF (vr 4) (ax (.int 1))) (bn cX (bn eC (vr 0) (ax (.int 7))) (bn sX (vr 1) (ax (.int 1))))) (vr 1))))
 (fi (ar (b6 (bn yx (iW (aj (vr 4) (aj (vr 5) aB))) (vr 2))))
 (aE (kG (b7 2) (cZ 2) lE (iW (aj (vr 4) (aj (vr 5) aB)))))
 aV))))
def Gc:P1->SO:=ai (a7 2 (ar (jL aB)))
 (ai (fi (ar (b6 (bn G4 (vr 1) (ax (.int 2)))))
 (bp (xM 2))
 aV)
 (ai (cW (ar (dR (bn cX (vr 0) (ax (.int 3))))) (rn 3)
 Hg)
 (bp (xM 2))))
def GN:List D->Out D:=iN 6 Gc
def QZ:List Md:=[.R,.F,.F]
def Gb:P1->SO:=bp (ar (eJ (dR (vr 1)) [0,2] (b6 (bn DQ (iW (aj (bn tQ (vr 2) (vr 0)) (aj (bn tR (vr 2) (vr 0)) aB))) (vr 1))) (vr 0)))
def GM:List D->Out D:=iN 3 Gb
def QY:List Md:=[.F,.F]
abbrev yI:P1->SO:=(ai (fi (ar (b6 (bn (sn false) (bn cX (bn En (vr 2) (bn cX (vr 4) (ax (.int 29)))) (ax (.int 2))) (ax (.int 1)))))
 (aE (kG (b7 3) (cZ 3) lE (iW (aj (vr 5) (aj (vr 6) aB)))))
 aV)
 (a7 4 (ar (bn lF (vr 4) (ax (.int 1))))))
abbrev Hf:P1->SO:=(cW (ar (yb (bn lF (vr 5) (ax (.int 1))) (vr 1))) (rn 6)
 yI)
def Ga:P1->SO:=ai (a7 2 (ar (bn cX (bn tP (bn cX (bn tP (bn lF (vr 0) (ax (.int 1))) (ax (.int 48271))) (ax (.int 2147483647))) (ax (.int 16807))) (ax (.int 2147483647)))))
 (ai (a7 3 (ar (jL aB)))
 (ai (a7 4 (ar (ax (.int 0))))
 (ai (cW (ar (dR (vr 1))) (rn 5)
 Hf)
 (bp (xM 3)))))
def GL:List D->Out D:=iN 7 Ga
def QX:List Md:=[.F]
def F9:P1->SO:=bp (ar (Jd (bn HE (vr 0) (ax (.ty "int"))) (un Ln (bn HE (vr 0) (ax (.ty "bool"))))))
def GK:List D->Out D:=run 1 F9
def Rh:List Md:=[.F,.F]
def Gv:P1->SO:=ai (fi (ar (b6 (bn (sn false) (vr 0) (ax (.int 0)))))
 (bp (ar (jL (aj (ax (.int 0)) aB))))
 aV)
 (ai (a7 2 (ar (bn vE (vr 1) (ax .non))))
 (ai (fi (ar (b6 (bn (gS false) (vr 2) (ax .non))))
 (bp (ar (ax .non)))
 aV)
 (bp (ar (bn r6 (vr 2) (ax (.int 2)))))))
def AK:List D->Out D:=run 3 Gv
def Rf:List Md:=[.R]
def Gs:P1->SO:=ai (fi (ar (b6 (bn (gS false) (vr 0) (ax .non))))
 (bp (ar (ax .non)))
 aV)
 (bp (ar (un lU (nk (vr 0)))))
def vJ:List D->Out D:=run 1 Gs
def QU:List Md:=[.R,.F]
def F6:P1->SO:=fi (ar (yq (b6 (bn G4 (bn (oM da) (vr 0) (ax (.int 0))) (ax (.int 0)))) (b6 (bn XC (bn (oM gj) (vr 0) (ax (.int 0))) (vr 1)))))
 (λ_=>.bad)
 aV
def vI:List D->Out D:=run 2 F6
def V1:List Md:=[.R,.R]
def NF:P1->SO:=aE (ar (pc vI (aj (vr 1) (aj (lO (un (bA 0 "house_count") (vr 0))) aB))))
def tS:List D->Out D:=run 2 NF
def Rl:List Md:=[.R]
def GA:P1->SO:=bp (ar (eJ (fJ (un (bA 1 "roads") (vr 0))) [] (λ_=>.ok true) (pc vJ (aj (vr 0) aB))))
def GX:List D->Out D:=iN 1 GA
def Rk:List Md:=[.R]
def Gz:P1->SO:=bp (ar (eJ (Cg (un (bA 1 "letters") (vr 0))) [0] (λ_=>.ok true) (iW (aj (bn r6 (vr 0) (ax (.int 0))) (aj (bn r6 (vr 0) (ax (.int 1))) (aj (pc vJ (aj (bn k6 (un (bA 1 "letters") (vr 1)) (vr 0)) aB)) aB))))))
def vL:List D->Out D:=iN 1 Gz
def Rb:List Md:=[.R,.R,.R,.F,.F]
abbrev Ht:P1->SO:=(ai (fi (ar (yq (b6 (bn (gS false) (vr 6) (ax .non))) (b6 (bn DQ (vr 3) (vr 6)))))
 Iq
 aV)
 (ai (fi (ar (b6 (bn DS (un gq (eJ (fJ (vr 6)) [2,3] (b6 (bn DQ (iW (aj (vr 2) (aj (vr 0) aB))) (vr 1))) (vr 0))) (ax (.int 0)))))
 Iq
 aV)
 (ai (a7 7 (ar (bn zB (jL (aj (vr 3) aB)) (vr 6))))
 (fi (ar (yq (b6 (bn (gS false) (vr 5) (ax .non))) (b6 (bn TN (pc AG (aj (vr 0) (aj (vr 1) (aj (vr 7) aB)))) (pc AG (aj (vr 0) (aj (vr 1) (aj (vr 5) aB))))))))
 (a7 5 (ar (vr 7)))
 aV))))
def Go:P1->SO:=ai (fi (ar (b6 (bn (sn false) (vr 3) (ax (.int 0)))))
 (bp (ar (jL (aj (ax (.int 0)) aB))))
 aV)
 (ai (a7 5 (ar (ax .non)))
 (ai (cW (ar (fJ (vr 4))) (rn 6)
 Ht)
 (bp (ar (vr 5)))))
def GT:List D->Out D:=run 8 Go
def Q8:List Md:=[.F,.F]
abbrev Hq:P1->SO:=(ai (a7 0 (ar (bn cX (bn lF (bn tP (vr 0) (ax (.int 48271))) (ax (.int 17))) (ax (.int 2147483647)))))
 (ai (a7 4 (ar (pc GO (aj (bn eC (vr 0) (ax (.int 9))) (aj (bn lF (ax (.int 1)) (bn cX (vr 0) (bn sX (vr 1) (ax (.int 1))))) (aj (vr 1) aB))))))
 (fo (b7 2) (cZ 2) (un xT (vr 4)) (ar (bn sX (bn cX (bn eC (vr 0) (ax (.int 5))) (ax (.int 9))) (ax (.int 4)))))))
def Gk:P1->SO:=ai (a7 2 (ar (ax (.dT [] []))))
 (ai (fi (ar (b6 (bn G4 (vr 1) (ax (.int 2)))))
 (bp (xM 2))
 aV)
 (ai (cW (ar (dR (bn cX (vr 0) (ax (.int 4))))) (rn 3)
 Hq)
 (bp (xM 2))))
def GR:List D->Out D:=iN 5 Gk
def Q2:List Md:=[.F,.F]
abbrev Hh:P1->SO:=(fi (ar (qU (b6 (pc GK (aj (vr 2) aB)))))
 (bp (ar (ax (.bl false))))
 aV)
def Ge:P1->SO:=ai (fi (ar (b6 (bn (gS false) (vr 1) (ax .non))))
 (bp (ar (bn (gS false) (vr 0) (ax .non))))
 aV)
 (ai (fi (ar (yq (qU (b6 (bn HE (vr 0) (ax (.ty "list"))))) (b6 (bn (sn true) (un gq (vr 0)) (un gq (vr 1))))))
 (bp (ar (ax (.bl false))))
 aV)
 (ai (cW (ar (fJ (vr 0))) (rn 2)
 Hh)
 (bp (ar (bn (L4 false) (vr 0) (vr 1))))))
def rQ:List D->Out D:=run 3 Ge
def QW:List Md:=[.R,.F,.R]
def F8:P1->SO:=ai (fi (ar (yq (b6 (bn (gS false) (vr 2) (ax .non))) (yq (b6 (bn (sn false) (vr 1) (ax (.int 0)))) (b6 (bn DQ (vr 1) (vr 2))))))
 (bp (ar (ax (.bl false))))
 aV)
 (bp (ar (un Ln (pm 0 "shuns_one_of" Ry (vr 0) (aj (vr 1) (aj (vr 2) aB))))))
def AF:List D->Out D:=run 3 F8
def QV:List Md:=[.R,.F]
abbrev He:P1->SO:=(fi (ar (b6 (bn (gS true) (vr 2) (ax .non))))
 (aE (ar (pc vI (aj (vr 2) (aj (vr 1) aB)))))
 aV)
def F7:P1->SO:=cW (ar (fJ (vr 0))) (rn 2)
 He
def AE:List D->Out D:=run 3 F7
def V5:List Md:=[.O (.ob b8),.F,.F,.F]
def NK:P1->SO:=ai (aE (ar (pm 0 "require_houses" tS (vr 0) (aj (jL (aj (vr 1) (aj (vr 2) aB))) aB))))
 (fo (dY 0 "likings" 0) (du "likings" 0) (iW (aj (vr 1) (aj (vr 2) aB))) (ar (vr 3)))
def RC:List D->Out D:=run 4 NK
def V4:List Md:=[.R,.F,.F]
def NI:P1->SO:=ai (aE (ar (pm 0 "require_houses" tS (vr 0) (aj (jL (aj (vr 1) (aj (vr 2) aB))) aB))))
 (bp (ar (lO (vW (un (bA 0 "likings") (vr 0)) (iW (aj (vr 1) (aj (vr 2) aB))) (ax (.int 0))))))
def RB:List D->Out D:=run 3 NI
def V3:List Md:=[.R,.F]
def NH:P1->SO:=ai (aE (ar (pm 0 "require_houses" tS (vr 0) (aj (jL (aj (vr 1) aB)) aB))))
 (bp (ar (pm 0 "houses_paired" RG (vr 0) (aj (un (bA 0 "ways") (vr 0)) (aj (vr 1) aB)))))
def LJ:List D->Out D:=iN 2 NH
def V0:List Md:=[.R,.R]
def NE:P1->SO:=ai (aE (ar (pm 0 "require_houses" tS (vr 0) (aj (vr 1) aB))))
 (ai (fi (ar (b6 (bn G4 (un gq (vr 1)) (ax (.int 2)))))
 (λ_=>.bad)
 aV)
 (ai (fi (ar (b6 (bn (sn true) (bn ki (vr 1) (un CJ (ax (.int 1)))) (ax (.int 0)))))
 (λ_=>.bad)
 aV)
 (fi (ar (b6 (bn (sn true) (un ot (vr 1)) (un gq (vr 1)))))
 (λ_=>.bad)
 aV)))
def LI:List D->Out D:=run 2 NE
def VZ:List Md:=[.R,.F,.F]
def ND:P1->SO:=ai (aE (ar (pm 0 "require_houses" tS (vr 0) (aj (jL (aj (vr 1) (aj (vr 2) aB))) aB))))
 (fi (ar (b6 (bn (sn false) (vr 1) (vr 2))))
 (λ_=>.bad)
 aV)
def GH:List D->Out D:=run 3 ND
def VV:List Md:=[.R]
def Nz:P1->SO:=ai (a7 1 (ar (pk 0 CV (aj (lO (un (bA 0 "house_count") (vr 0))) aB))))
 (ai (aE (sS (dY 0 "ways" 1) (du "ways" 1) (un (bA 0 "ways") (vr 0))))
 (ai (aE (sS (dY 0 "likings" 1) (du "likings" 1) (un (bA 0 "likings") (vr 0))))
 (ai (aE (sS (dY 0 "shuns" 1) (du "shuns" 1) (un (bA 0 "shuns") (vr 0))))
 (ai (aE (sS (dY 0 "wish_ranks" 1) (du "wish_ranks" 1) (un (bA 0 "wish_ranks") (vr 0))))
 (bp (xM 1))))))
def yF:List D->Out D:=iN 2 Nz
def VJ:List Md:=[.R,.F]
def Nn:P1->SO:=ai (aE (ar (pm 0 "require_houses" tS (un (bA 1 "guild") (vr 0)) (aj (jL (aj (vr 1) aB)) aB))))
 (bp (ar (pc vJ (aj (bn ki (un (bA 1 "roads") (vr 0)) (vr 1)) aB))))
def LB:List D->Out D:=run 2 Nn
def QS:List Md:=[.R,.F]
abbrev Hd:P1->SO:=(ai (a7 3 (ar (bn ki (vr 0) (bn ki (vr 2) (un CJ (ax (.int 1)))))))
 (ai (fi (ar (b6 (bn (gS false) (vr 3) (ax .non))))
 (bp (TK (ar (ax (.str ("stops" : Str)))) (xM 2)))
 aV)
 (ai (fi (ar (b6 (bn DQ (bn ki (vr 3) (ax (.int 1))) (vr 2))))
 (bp (TK (ar (ax (.str ("rings" : Str)))) (xM 2)))
 aV)
 (aE (kG (b7 2) (cZ 2) lE (lO (bn ki (vr 3) (ax (.int 1)))))))))
def F4:P1->SO:=ai (aE (ar (pc vI (aj (jL (aj (vr 1) aB)) (aj (un gq (vr 0)) aB)))))
 (ai (aE (ar (pc AE (aj (vr 0) (aj (un gq (vr 0)) aB)))))
 (ai (a7 2 (ar (jL (aj (vr 1) aB))))
 (ai (xJ (ar (b6 (bn (sn true) (bn ki (vr 2) (un CJ (ax (.int 1)))) (ax (.int 0)))))
 Hd 100000)
 (bp (TK (ar (ax (.str ("comes" : Str)))) (xM 2))))))
def GJ:List D->Out D:=run 4 F4
def V7:List Md:=[.O (.ob b8),.F,.F]
def NM:P1->SO:=ai (aE (ar (pm 0 "require_two_houses" GH (vr 0) (aj (vr 1) (aj (vr 2) aB)))))
 (ai (fi (ar (b6 (bn (mh false) (iW (aj (vr 1) (aj (vr 2) aB))) (un (bA 0 "ways") (vr 0)))))
 (λ_=>.bad)
 aV)
 (ai (fo (dY 0 "ways" 0) (du "ways" 0) (iW (aj (vr 1) (aj (vr 2) aB))) (ar (ax (.bl true))))
 (fo (dY 0 "ways" 0) (du "ways" 0) (iW (aj (vr 2) (aj (vr 1) aB))) (ar (ax (.bl true))))))
def LL:List D->Out D:=run 3 NM
def V6:List Md:=[.O (.ob b8),.F,.F]
def NL:P1->SO:=ai (aE (ar (pm 0 "require_two_houses" GH (vr 0) (aj (vr 1) (aj (vr 2) aB)))))
 (ai (fi (ar (b6 (bn (mh true) (iW (aj (vr 1) (aj (vr 2) aB))) (un (bA 0 "ways") (vr 0)))))
 (λ_=>.bad)
 aV)
 (ai (aE (mT (dY 0 "ways" 0) (du "ways" 0) (iW (aj (vr 1) (aj (vr 2) aB)))))
 (aE (mT (dY 0 "ways" 0) (du "ways" 0) (iW (aj (vr 2) (aj (vr 1) aB)))))))
def RE:List D->Out D:=run 3 NL
def V2:List Md:=[.R,.R]
def NG:P1->SO:=ai (aE (ar (pm 0 "require_long_road" LI (vr 0) (aj (vr 1) aB))))
 (ai (a7 2 (ar (lO (sj (un (bA 0 "wish_ranks") (vr 0)) (un xT (nk (vr 1)))))))
 (ai (fi (ar (b6 (bn (gS false) (vr 2) (ax .non))))
 (bp (ar (pm 0 "liking" RB (vr 0) (aj (lO (bn ki (vr 1) (ax (.int 0)))) (aj (lO (bn ki (vr 1) (ax (.int 1)))) aB)))))
 aV)
 (bp (ar (vr 2)))))
def RA:List D->Out D:=run 3 NG
def VY:List Md:=[.O (.ob b8),.F,.F]
def NC:P1->SO:=ai (aE (ar (pm 0 "require_two_houses" GH (vr 0) (aj (vr 1) (aj (vr 2) aB)))))
 (fo (dY 0 "shuns" 0) (du "shuns" 0) (iW (aj (vr 1) (aj (vr 2) aB))) (ar (ax (.bl true))))
def Rz:List D->Out D:=run 3 NC
def VU:List Md:=[.O (.ob b8),.R,.F]
def Ny:P1->SO:=ai (aE (ar (pm 0 "require_long_road" LI (vr 0) (aj (vr 1) aB))))
 (fo (dY 0 "wish_ranks" 0) (du "wish_ranks" 0) (un xT (nk (vr 1))) (ar (vr 2)))
def Rw:List D->Out D:=run 3 Ny
def Ri:List Md:=[.O (.ob cG),.F]
abbrev Hw:P1->SO:=(aE (mm 1 "write_road" [(.O 0),.F,.F] vK (vr 0) (aj (vr 1) (aj (vr 2) aB))))
def Gx:P1->SO:=cW (ar (fJ (pm 0 "neighbours" LJ (un (bA 1 "guild") (vr 0)) (aj (vr 1) aB)))) (rn 2)
 Hw
def iy:List D->Out D:=run 3 Gx
def VT:List Md:=[.O (.ob cG),.R]
def Nx:P1->SO:=ai (cz 1 "guild" 0 (ar (pm 0 "twin" yF (vr 1) aB)))
 (ai (cz 1 "roads" 0 (ar (bn yk (jL (aj (ax .non) aB)) (pm 0 "size" lT (vr 1) aB))))
 (ai (mH (dY 1 "roads" 0) (du "roads" 0) (ax (.int 0)) (ar (jL (aj (ax (.int 0)) aB))))
 (ai (cz 1 "told_last" 0 (ar (ax (.dT [] []))))
 (ai (cz 1 "written_last" 0 (ar (ax (.dT [] []))))
 (ai (cz 1 "letters" 0 (ar (ax (.dT [] []))))
 (ai (cz 1 "standings" 0 (ar (eJ (dR (pm 0 "size" lT (vr 1) aB)) [] (λ_=>.ok true) (ax (.dK [] [])))))
 (aE (mm 1 "write_to_all" [(.O 0),.F] iy (vr 0) (aj (ax (.int 0)) aB)))))))))
def yE:List D->Out D:=run 2 Nx
def vH:Nx=(ai (cz 1 "guild" 0 (ar (pm 0 "twin" yF (vr 1) aB)))
 (ai (cz 1 "roads" 0 (ar (bn yk (jL (aj (ax .non) aB)) (pm 0 "size" lT (vr 1) aB))))
 (ai (mH (dY 1 "roads" 0) (du "roads" 0) (ax (.int 0)) (ar (jL (aj (ax (.int 0)) aB))))
 (ai (cz 1 "told_last" 0 (ar (ax (.dT [] []))))
 (ai (cz 1 "written_last" 0 (ar (ax (.dT [] []))))
 (ai (cz 1 "letters" 0 (ar (ax (.dT [] []))))
 (ai (cz 1 "standings" 0 (ar (eJ (dR (pm 0 "size" lT (vr 1) aB)) [] (λ_=>.ok true) (ax (.dK [] [])))))
 (aE (mm 1 "write_to_all" [(.O 0),.F] iy (vr 0) (aj (ax (.int 0)) aB)))))))))):=rfl
def VQ:List Md:=[.O (.ob cG),.F]
def Nu:P1->SO:=ai (a7 2 (ar (pc AK (aj (vr 1) (aj (un DW (TH (kN (iz (b7 0) 1 "standings") (DP 1)))) aB)))))
 (ai (fi (ar (b6 (bn (L4 false) (vr 2) (bn ki (un (bA 1 "roads") (vr 0)) (vr 1)))))
 (bp (ar (ax (.bl false))))
 aV)
 (ai (mH (dY 1 "roads" 0) (du "roads" 0) (vr 1) (ar (vr 2)))
 (ai (aE (mm 1 "write_to_all" [(.O 0),.F] iy (vr 0) (aj (vr 1) aB)))
 (bp (ar (ax (.bl true)))))))
def GF:List D->Out D:=run 3 Nu
def VL:List Md:=[.O (.ob cG),.F,.F]
def No:P1->SO:=ai (aE (Lw 0 "lay_way" (iz (b7 0) 1 "guild") (mC (b7 0) (cZ 0) "guild") LL (aj (vr 1) (aj (vr 2) aB))))
 (ai (aE (mm 1 "write_road" [(.O 0),.F,.F] vK (vr 0) (aj (bn tQ (vr 1) (vr 2)) (aj (bn tR (vr 1) (vr 2)) aB))))
 (aE (mm 1 "write_road" [(.O 0),.F,.F] vK (vr 0) (aj (bn tR (vr 1) (vr 2)) (aj (bn tQ (vr 1) (vr 2)) aB)))))
def Rq:List D->Out D:=run 3 No
def Q5:List Md:=[.F,.R,.R,.R,.R]
abbrev Hn:P1->SO:=(aE (mm 0 "lay_way" [(.O 5),.F,.F] LL (vr 5) (aj (lO (vr 6)) (aj (lO (vr 7)) aB))))
abbrev Hl:P1->SO:=(aE (mm 0 "like" [(.O 5),.F,.F,.F] RC (vr 5) (aj (lO (bn r6 (vr 8) (ax (.int 0)))) (aj (lO (bn r6 (vr 8) (ax (.int 1)))) (aj (lO (bn k6 (vr 2) (vr 8))) aB)))))
abbrev Hk:P1->SO:=(aE (mm 0 "wish" [(.O 5),.F,.F] Rw (vr 5) (aj (un lU (nk (vr 9))) (aj (lO (bn k6 (vr 3) (vr 9))) aB))))
abbrev Hj:P1->SO:=(aE (mm 0 "shun" [(.O 5),.F,.F] Rz (vr 5) (aj (lO (vr 6)) (aj (lO (vr 7)) aB))))
def Gh:P1->SO:=ai (a7 5 (ar (pk 0 CV (aj (vr 0) aB))))
 (ai (cW (ar (fJ (vr 1))) (JH 6 7)
 Hn)
 (ai (cW (ar (fJ (un AO (vr 2)))) (rn 8)
 Hl)
 (ai (cW (ar (fJ (un AO (vr 3)))) (rn 9)
 Hk)
 (ai (cW (ar (fJ (vr 4))) (JH 6 7)
 Hj)
 (bp (xM 5))))))
def AH:List D->Out D:=iN 10 Gh
def QT:List Md:=[.R,.F]
def F5:P1->SO:=bp (ar (iW (aj (un CJ (pm 0 "rank_of" RA (vr 0) (aj (vr 1) aB))) (aj (un gq (vr 1)) (aj (vr 1) aB)))))
def AD:List D->Out D:=run 2 F5
def VP:List Md:=[.O (.ob cG),.F,.F]
def Nt:P1->SO:=ai (aE (Lw 0 "lift_way" (iz (b7 0) 1 "guild") (mC (b7 0) (cZ 0) "guild") RE (aj (vr 1) (aj (vr 2) aB))))
 (ai (aE (mm 1 "forget" [(.O 0),.F,.F] LC (vr 0) (aj (vr 1) (aj (vr 2) aB))))
 (ai (aE (mm 1 "forget" [(.O 0),.F,.F] LC (vr 0) (aj (vr 2) (aj (vr 1) aB))))
 (ai (aE (mm 1 "choose_anew" [(.O 0),.F] GF (vr 0) (aj (bn tQ (vr 1) (vr 2)) aB)))
 (aE (mm 1 "choose_anew" [(.O 0),.F] GF (vr 0) (aj (bn tR (vr 1) (vr 2)) aB))))))
def Rt:List D->Out D:=run 3 Nt
def VM:List Md:=[.O (.ob cG),.F,.F,.F]
def Np:P1->SO:=ai (fo (dY 1 "told_last" 0) (du "told_last" 0) (iW (aj (vr 1) (aj (vr 2) aB))) (ar (vr 3)))
 (fi (ar (b6 (pc AF (aj (un (bA 1 "guild") (vr 0)) (aj (vr 2) (aj (vr 3) aB))))))
 (fo (kN (iz (b7 0) 1 "standings") (DP 2)) (mB (iz (b7 0) 1 "standings") (mC (b7 0) (cZ 0) "standings") (DP 2)) (vr 1) (ar (pc AD (aj (un (bA 1 "guild") (vr 0)) (aj (bn zB (jL (aj (vr 2) aB)) (vr 3)) aB)))))
 (aE (oT (kN (iz (b7 0) 1 "standings") (DP 2)) (mB (iz (b7 0) 1 "standings") (mC (b7 0) (cZ 0) "standings") (DP 2)) (vr 1))))
def Rr:List D->Out D:=run 4 Np
def Rg:List Md:=[.R,.F,.R]
def Gu:P1->SO:=ai (a7 3 (ar (eJ (fJ (vr 2)) [0,1] (b6 (pc AF (aj (vr 1) (aj (vr 2) (aj (vr 0) aB))))) (pc AD (aj (vr 1) (aj (bn zB (jL (aj (vr 2) aB)) (nk (vr 0))) aB))))))
 (bp (ar (pc AK (aj (vr 1) (aj (vr 3) aB)))))
def GW:List D->Out D:=run 4 Gu
def VS:List Md:=[.O (.ob cG),.F,.F]
def Nw:P1->SO:=ai (aE (ar (pm 0 "require_houses" tS (un (bA 1 "guild") (vr 0)) (aj (jL (aj (vr 1) (aj (vr 2) aB))) aB))))
 (ai (fi (ar (b6 (bn (mh true) (iW (aj (vr 1) (aj (vr 2) aB))) (un (bA 1 "letters") (vr 0)))))
 (λ_=>.bad)
 aV)
 (ai (aE (Nl 1 "hear" 0 Rr (vr 1) (vr 2) (mT (dY 1 "letters" 0) (du "letters" 0) (iW (aj (vr 1) (aj (vr 2) aB))))))
 (bp (mm 1 "choose_anew" [(.O 0),.F] GF (vr 0) (aj (vr 2) aB)))))
def LD:List D->Out D:=run 3 Nw
def Re:List Md:=[.R,.R]
abbrev Hv:P1->SO:=(ai (a7 3 (ar (eJ (fJ (pm 0 "neighbours" LJ (vr 0) (aj (vr 2) aB))) [1] (λ_=>.ok true) (bn ki (vr 1) (vr 0)))))
 (fi (ar (b6 (bn (L4 true) (pc GW (aj (vr 0) (aj (vr 2) (aj (vr 3) aB)))) (bn ki (vr 1) (vr 2)))))
 (bp (ar (vr 2)))
 aV))
def Gr:P1->SO:=ai (aE (ar (pc AE (aj (vr 1) (aj (pm 0 "size" lT (vr 0) aB) aB)))))
 (ai (cW (ar (dR (pm 0 "size" lT (vr 0) aB))) (rn 2)
 Hv)
 (bp (ar (ax .non))))
def GV:List D->Out D:=run 4 Gr
def VR:List Md:=[.O (.ob cG)]
def Nv:P1->SO:=ai (a7 1 (ar (pm 1 "first_of_line" Rs (vr 0) aB)))
 (bp (mm 1 "carry" [(.O 0),.F,.F] LD (vr 0) (aj (bn r6 (vr 1) (ax (.int 0))) (aj (bn r6 (vr 1) (ax (.int 1))) aB))))
def Rv:List D->Out D:=run 2 Nv
def Ra:List Md:=[.R,.F,.R,.F]
abbrev Hr:P1->SO:=(ai (a7 6 (ar (eJ (fJ (pc GM (aj (vr 2) (aj (vr 3) (aj (vr 5) aB))))) [0] (λ_=>.ok true) (pm 1 "road" LB (vr 1) (aj (vr 0) aB)))))
 (ai (a7 7 (ar (pc GT (aj (bn ki (vr 1) (ax (.int 0))) (aj (bn ki (vr 1) (ax (.int 1))) (aj (bn ki (vr 1) (ax (.int 2))) (aj (vr 5) (aj (vr 6) aB))))))))
 (ai (fi (ar (yq (qU (b6 (pc rQ (aj (pm 1 "road" LB (vr 0) (aj (vr 5) aB)) (aj (vr 7) aB))))) (qU (b6 (pc rQ (aj (bn ki (vr 4) (vr 5)) (aj (vr 7) aB)))))))
 (bp (ar (ax (.bl false))))
 aV)
 (ai (a7 8 (ar (pc GJ (aj (vr 4) (aj (vr 5) aB)))))
 (ai (fi (ar (uX (b6 (bn (gS false) (vr 7) (ax .non))) (yq (b6 (bn (sn true) (bn r6 (vr 8) (ax (.int 0))) (ax (.str ("stops" : Str))))) (qU (b6 (pc rQ (aj (bn r6 (vr 8) (ax (.int 1))) (aj (jL (aj (vr 5) aB)) aB))))))))
 (bp (ar (ax (.bl false))))
 aV)
 (fi (ar (uX (b6 (bn (gS true) (vr 7) (ax .non))) (yq (b6 (bn (sn true) (bn r6 (vr 8) (ax (.int 0))) (ax (.str ("comes" : Str))))) (qU (b6 (pc rQ (aj (bn r6 (vr 8) (ax (.int 1))) (aj (vr 7) aB))))))))
 (bp (ar (ax (.bl false))))
 aV))))))
def Gn:P1->SO:=ai (a7 4 (ar (pm 1 "table" GX (vr 0) aB)))
 (ai (cW (ar (dR (vr 3))) (rn 5)
 Hr)
 (ai (a7 9 (ar (pc AH (aj (vr 3) (aj (vr 2) (aj (bn ki (vr 1) (ax (.int 0))) (aj (bn ki (vr 1) (ax (.int 1))) (aj (bn ki (vr 1) (ax (.int 2))) aB))))))))
 (bp (ar (bn (gS false) (pc GV (aj (vr 9) (aj (vr 4) aB))) (ax .non))))))
def AI:List D->Out D:=run 10 Gn
def Q7:List Md:=[.O (.ob cG),.O (.ct .fz),.F,.F]
def Gj:P1->SO:=ai (a7 4 (ar (bn cX (bn eC (vr 3) (ax (.int 5))) (vr 2))))
 (ai (a7 5 (ar (bn cX (bn eC (bn eC (vr 3) (ax (.int 5))) (vr 2)) (vr 2))))
 (ai (a7 6 (ar (pm 1 "waiting" vL (vr 0) aB)))
 (fi (ar (uX (b6 (bn DS (bn cX (vr 3) (ax (.int 5))) (ax (.int 2)))) (b6 (bn (sn true) (vr 4) (vr 5)))))
 (ai (a7 7 (ar (iW (aj (bn tQ (vr 4) (vr 5)) (aj (bn tR (vr 4) (vr 5)) aB)))))
 (fi (ar (b6 (bn DQ (vr 7) (vr 1))))
 (ai (aE (mm 1 "fall" [(.O 0),.F,.F] Rt (vr 0) (aj (vr 4) (aj (vr 5) aB))))
 (aE (kG (b7 1) (cZ 1) Cq (vr 7))))
 (ai (aE (mm 1 "rise" [(.O 0),.F,.F] Rq (vr 0) (aj (vr 4) (aj (vr 5) aB))))
 (aE (kG (b7 1) (cZ 1) lE (vr 7))))))
 (fi (ar (b6 (bn DS (un gq (vr 6)) (ax (.int 0)))))
 (ai (a7 8 (ar (bn ki (vr 6) (bn cX (bn eC (vr 3) (ax (.int 5))) (un gq (vr 6))))))
 (aE (mm 1 "carry" [(.O 0),.F,.F] LD (vr 0) (aj (bn r6 (vr 8) (ax (.int 0))) (aj (bn r6 (vr 8) (ax (.int 1))) aB)))))
 aV))))
def GQ:List D->Out D:=run 9 Gj
def Rm:List Md:=[.O (.ob cG),.F]
abbrev Hy:P1->SO:=(ai (aE (mm 1 "carry_next" [(.O 0)] Rv (vr 0) aB))
 (a7 2 (ar (bn lF (vr 2) (ax (.int 1))))))
def GB:P1->SO:=ai (a7 2 (ar (ax (.int 0))))
 (ai (xJ (ar (uX (b6 (bn G4 (vr 2) (vr 1))) (b6 (bn DS (un RK (un (bA 1 "letters") (vr 0))) (ax (.int 0))))))
 Hy 100000)
 (bp (ar (vr 2))))
def GY:List D->Out D:=run 3 GB
def FX:List Md:=[.R]
abbrev Hu:P1->SO:=(ai (fi (ar (uX (b6 (bn (sn false) (un gq (pm 1 "waiting" vL (vr 7) aB)) (ax (.int 0)))) (qU (b6 (pc AI (aj (vr 7) (aj (vr 6) (aj (vr 2) (aj (vr 1) aB)))))))))
 (bp (ar (ax (.bl false))))
 aV)
 (aE (mc [(.O 7),(.O 2),.F,.F] GQ (aj (vr 7) (aj (vr 2) (aj (vr 1) (aj (vr 8) aB)))))))
def Gq:P1->SO:=ai (a7 1 (ar (bn lF (ax (.int 1)) (bn cX (pc og (aj (vr 0) (aj (ax (.int 0)) aB))) (ax (.int 6))))))
 (ai (a7 2 (ar (pc GL (aj (pc og (aj (vr 0) (aj (ax (.int 1)) aB))) (aj (vr 1) aB)))))
 (ai (a7 3 (ar (pc GP (aj (pc og (aj (vr 0) (aj (ax (.int 2)) aB))) (aj (vr 1) aB)))))
 (ai (a7 4 (ar (pc GR (aj (pc og (aj (vr 0) (aj (ax (.int 3)) aB))) (aj (vr 1) aB)))))
 (ai (a7 5 (ar (pc GN (aj (pc og (aj (vr 0) (aj (ax (.int 4)) aB))) (aj (vr 1) aB)))))
 (ai (a7 6 (ar (jL (aj (vr 3) (aj (vr 4) (aj (vr 5) aB))))))
 (ai (a7 7 (ar (pk 1 yE (aj (pc AH (aj (vr 1) (aj (vr 2) (aj (vr 3) (aj (vr 4) (aj (vr 5) aB)))))) aB))))
 (ai (cW (ar (fJ (bn H9 (nk (vr 0)) (ax (.int 5))))) (rn 8)
 Hu)
 (ai (aE (mm 1 "settle" [(.O 7),.F] GY (vr 7) (aj (ax (.int 300)) aB)))
 (bp (ar (U9 (bn DS (un gq (pm 1 "waiting" vL (vr 7) aB)) (ax (.int 0))) (pc AI (aj (vr 7) (aj (vr 6) (aj (vr 2) (aj (vr 1) aB))))))))))))))))
def GU:List D->Out D:=run 9 Gq
section
variable(P:Program)(w:World)(b:Heap){K:F0}{g:Str->Option Value}
set_option compiler.extract_closed false
set_option hygiene false
seal PE PS PSs PT Tw PA PI PG Xj PC PW PK PO jt PySem.binaryOp PySem.compareOp PySem.bootBuiltins XE YA cQ gb TY XG cK tC tB Oz XQ Ot Eb Os D6 D7 Oq Ea D8 JJ D5 Ov xV dg RX AX RV RW qS T3 xU sf HK HJ Ox DM XN D4 nH Et bT aN JI Ou iL cY rA xK D9 Oy sW Eu x5 xZ x9 x8 xY XO MP Op ju LS D3 D2 xW sV Ce xX
local macro_rules | `(tactic| ac_rfl)=>`(tactic| first
 |exact rfl
 |(focus show PE _ _ _;first | exact pv _ | exact Pt | exact Pr | exact UK | exact Fl | exact Pn | ((first | refine UH ?_ ?_ ?_ | refine KW _ ?_ ?_ ?_ | refine UI ?_ ?_ ?_ ?_ | refine Pm ?_ | refine Ps ?_ | refine KY ?_ ?_ ?_ ?_ | refine K0 ?_ ?_ ?_ ?_ | refine UF ?_ ?_ | refine Fj ?_ ?_ ?_ ?_ | refine Cz ?_ ?_ ?_ ?_ ?_ | refine Fo ?_ ?_ ?_ ?_ | refine Fn ?_ ?_ ?_ ?_ ?_ | refine Fk ?_ ?_ ?_ ?_ | refine Pq ?_ | refine Pw ?_ ?_ | refine UG ?_ ?_ | refine Ff ?_ ?_ ?_ ?_ | refine KP ?_ | refine Pv ?_ | refine Pp ?_ | refine vh ?_ ?_ ?_ ?_ ?_) <;> ac_rfl) | (((first | refine Fg (k:=?_) ?_ ?_ ?_ ?_ ?_ | refine Fp (k:=?_) ?_ ?_ ?_ ?_ | refine UJ (id:=?_) ?_ ?_ ?_ ?_ ?_ ?_ | refine Cy (k:=?_) ?_ ?_ ?_ ?_ | refine KZ (cs:=?_) ?_ ?_ ?_ ?_ (λ_ _ _ _=>?_) (λ_ _ _ _=>?_) | refine Fi (k:=?_) ?_ ?_ ?_ ?_ | refine CB (id:=?_) ?_ ?_ ?_ ?_ ?_ ?_);rotate_left) <;> ac_rfl) | ((refine Fq (id:=?_) ?_ ?_ ?_ ?_ ?_;rotate_left) <;> ac_rfl) | ((refine KU (u:=?_) ?_ ?_ ?_;rotate_left) <;> ac_rfl) | ((refine CA (T:=?_) ?_ ?_ ?_ ?_ ?_;rotate_left) <;> ac_rfl) | ((refine K2 (u:=?_) ?_ ?_ ?_ ?_;rotate_left) <;> ac_rfl) | exact Fm)
 |exact PD
 |(refine K6 ?_ ?_<;>ac_rfl)
 |(focus show PSs _ _ _;first | exact Kw | ((first | refine E6 ?_ ?_ | refine Kv ?_) <;> ac_rfl))
 |(focus show PS _ _ _;first | exact E8 | ((first | refine O7 ?_ | refine Ky ?_ | refine O6 ?_ ?_ ?_ ?_ | refine UC ?_ ?_ ?_ | refine O8 Aj1 ?_ ?_ ?_ ?_ | refine O9 ?_ ?_ ?_ | refine Kz ?_ ?_ ?_ ?_ ?_ | refine E7 Aj1 ?_ ?_ | refine Pb ?_ ?_ | refine KA ?_ ?_ ?_ ?_ | refine E9 Aj1 ?_ ?_ ?_ ?_) <;> ac_rfl) | ((refine yo (cs:=?_) ?_ ?_ ?_ ?_ ?_ ?_ ?_ (λ_ _ _ _=>?_) (λ_ _ _ _=>?_);rotate_left) <;> ac_rfl) | exact vg | exact Kx)
 |exact Ks
 |(refine Kq ?_<;>ac_rfl)
 |exact KN
 |(refine Fe ?_ ?_<;>ac_rfl)
 |exact Pg
 |(refine KH ?_ ?_<;>ac_rfl)
 |(focus show PT _ _ _;first | ((first | refine Ku ?_ ?_ ?_ ?_ | refine O2 ?_ | refine O3 ?_ | refine O4 ?_) <;> ac_rfl) | (refine PW.pt ?_ <;> ac_rfl))
 |(focus show PI _ _ _ _;first | ((first | refine Fd _ ?_ ?_ | refine Cw ?_ ?_ ?_ | refine Pi ?_ | refine Cv ?_ ?_ ?_) <;> ac_rfl))
 |(focus show PG _ _ _;first | ((first | refine tK ?_ ?_ ?_ | refine Pk ?_ ?_ ?_ ?_ | refine Pj ?_ ?_) <;> ac_rfl))
 |(focus show PW _ _ _;first | ((first | refine UA ?_ ?_ | refine OZ ?_ | refine O0 ?_ ?_ | refine Ko ?_) <;> ac_rfl))
 |((first | refine Pz ?_ ?_ ?_ | refine CC ?_ ?_ ?_) <;> ac_rfl)
 |(refine KE ?_<;>ac_rfl)
 |exact KF
 |(focus show jt _ _ _;first | exact Ql | exact P9 | exact Qd | exact Qf | exact Lg | exact Qa | exact Qk | exact Qb | exact Vb | exact Vc | exact Vd | exact Ve | exact Va | exact Qh | exact Lc | (refine Lf _ ?_ ?_ <;> ac_rfl) | (refine yr _ ?_ ?_ <;> ac_rfl) | (refine Lh _ ?_ ?_ <;> ac_rfl) | (refine Ld _ ?_ ?_ <;> ac_rfl) | (refine Le _ ?_ ?_ <;> ac_rfl))
 |(focus show cQ _ _ _;first | (refine qZ _ ?_ <;> ac_rfl) | (refine Dt ?_ <;> ac_rfl) | (refine Du ?_ <;> ac_rfl) | (refine Dx _ ?_ <;> ac_rfl) | (refine Dy _ ?_ ?_ <;> ac_rfl) | exact Dw | exact Dv | (refine qD _ ?_ <;> ac_rfl) | (refine qY _ ?_ <;> ac_rfl) | (refine zD ?_ <;> ac_rfl) | (refine zC _ ?_ ?_ <;> ac_rfl))
 |(focus show gb _ _ _ _;first | (refine zG _ ?_ ?_ <;> ac_rfl) | (refine zF _ ?_ ?_ <;> ac_rfl) | (refine xr _ ?_ ?_ ?_ <;> ac_rfl))
 |assumption
 |exact Room.mm (by assumption)
 |exact Or.inl rfl
 |exact λ_=>rfl
 |exact λ_ _=>rfl
 |exact Wo (by assumption)
 |exact Yq (by assumption)
 |exact Room.units (by assumption)
 |exact Room.u100 (by assumption)
 |exact Yp (by assumption)
 |exact Wp (by assumption)
 |exact Om
 |exact HG
 |exact Eo
 |(refine HC _ ?_<;>ac_rfl)
 |(refine LP _ ?_<;>ac_rfl)
 |(refine El _ ?_<;>ac_rfl)
 |exact Gd.Tc
 |exact Gd.Ta
 |exact Gd.Tb
 |exact Gd.Mg
 |exact Gd.Jc
 |exact Gd.S9
 |exact Gd.Te
 |exact Gd.q8
 |exact Gd.Mh
 |exact Gd.Td
 |exact PySem.F.plainAttrs_list
 |exact ZE
 |exact PySem.F.slot_list_append
 |exact PySem.F.type_list_append
 |exact rN
 |exact PySem.F.slot_dict_update
 |exact PySem.F.type_dict_update
 |exact CN
 |exact PySem.F.slot_list_pop
 |exact PySem.F.type_list_pop
 |exact FW
 |exact Ag9
 |exact PySem.F.type_list_remove
 |(refine CO ?_<;>ac_rfl)
 |exact⟨_,rfl⟩
 |exact⟨rfl,rfl,rfl,rfl⟩
 |with_unfolding_all rfl)
seal SJ MJ PJ AJ A1J Mi.TJ YD KR KC KO KB KL KI S1 S2 ai fi bp aE a7 aV cW fo cz xJ Iq mH l4 Kk xM kG DD sS mT oT i4 TK mc mm Lw Nl ar vr ax un bn pc pm pk iW jL aj aB b6 uX yq qU eJ fJ dR yb Cg lO nk TH vW sj dY du iz mC kN mB b7 cZ DP rn JH Jd U9
local macro_rules | `(tactic| infer_instance)=>`(tactic| first
 |(focus (show F0;assumption))
 |(focus show(_:Type))
 |(focus show PJ _ _ _ _ _ _;first | exact fF _ rfl | exact pI | exact fR _ rfl | exact fC _ rfl | exact rc (fF _ rfl) | exact rc (fR _ rfl) | exact fO _ rfl | exact rc (fO _ rfl) | exact R5 | ((first | refine' L3 ?_ ?_ | refine' UO ?_ | refine' US ?_ | refine' UV ?_ (kx ?_) | refine' UU ?_ (kx ?_) | refine' rSc (kx ?_) | refine' UT (kx ?_) | refine' PP (kx ?_) (kx ?_) | refine' PU (kx ?_) (kx ?_) | refine' cS ?_ | refine' Yo (kx ?_) | refine' Yn (kx ?_) (kx ?_) | refine' UB ?_ ?_ | refine' O5 ?_ ?_ | refine' Kt ?_ | refine' U0 (kx ?_) ?_ | refine' P7 (kx ?_) ?_ | refine' P8 ?_ (kx ?_) | refine' La ?_ (kx ?_) | refine' K9 ?_ (kx ?_) ?_ | refine' U5 ?_ ?_ | refine' K7 ?_ | refine' UW (kx ?_) (kx ?_) | refine' U7 (kx ?_) | refine' PY (kx ?_) | refine' Fu (kx ?_) | refine' PX ?_ | refine' K8 ?_ | refine' PF ?_ | refine' P6 ?_ (kx ?_) | refine' UP ?_ (kx ?_) | refine' PN (kx ?_) (kx ?_) | refine' PQ (kx ?_) (kx ?_) | refine' PM ?_ (kx ?_) | refine' UR (kx ?_) | refine' U8 (kx ?_) ?_ | refine' Ye (kx ?_) ?_) <;> infer_instance) | (refine' PL ?_ (kx ?_) (kx ?_) <;> infer_instance) | (refine' X8 (fx (PL ?_ (kx ?_) (kx ?_))) <;> infer_instance) | (refine' Py (by assumption) ?_ ?_ <;> infer_instance) | (refine' Pe (by assumption) ?_ ?_ ?_ <;> infer_instance) | (refine' X9 (kx ?_) <;> infer_instance) | (refine' UX ?_ ?_ ?_ <;> infer_instance) | exact pN | exact pB | exact pS | exact pT | (refine' P5 ?_ ?_ rfl rfl <;> infer_instance) | (refine' K3 (by assumption) ?_ ?_ <;> infer_instance) | (refine' KG (by assumption) ?_ ?_ ?_ <;> infer_instance) | (refine' Pf (by assumption) ?_ ?_ <;> infer_instance) | (refine' LR ?_ <;> infer_instance) | (refine' AT ?_ <;> infer_instance) | (refine' RU ?_ <;> infer_instance) | exact O1 | exact UY | exact UZ | (refine' Fy ?_ (by decide) ?_ ?_ <;> infer_instance) | (refine' Fv ?_ (by decide) ?_ ?_ <;> infer_instance) | (refine' Fw ?_ (by decide) ?_ ?_ <;> infer_instance) | (refine' Fx ?_ (by decide) ?_ ?_ <;> infer_instance) | (refine' Lb ?_ ?_ rfl (by decide) ?_ ?_ <;> infer_instance) | (refine' UN ?_ (kx ?_) <;> infer_instance) | (refine' UQ ?_ <;> infer_instance) | (refine' oF ?_ <;> infer_instance) | (refine' fu ?_ <;> infer_instance) | (refine' rc ?_ <;> infer_instance))
 |exact Xc
 |(refine' Tj ?_ ?_<;>infer_instance)
 |(focus show SJ _ _ _ _ _ _ _;first | exact Ub | ((first | refine' T8 ?_ ?_ | refine' XV ?_ ?_ ?_ | refine' T9 ?_ | refine' OR ?_ | refine' Um ?_ ?_ ?_ ?_ | refine' OT ?_ (kx ?_) ?_ | refine' OM ?_ (kx ?_) ?_) <;> infer_instance) | (refine' OJ ?_ rfl rfl <;> infer_instance) | (refine' OH ?_ rfl rfl <;> infer_instance) | (refine' OG ?_ rfl rfl <;> infer_instance) | exact Kh | (refine' OO ?_ ?_ rfl rfl ?_ <;> infer_instance) | (refine' OP ?_ ?_ rfl rfl ?_ <;> infer_instance) | (refine' Kg _ ?_ ?_ <;> infer_instance) | exact OU | (refine' Ki ?_ ?_ rfl rfl rfl <;> infer_instance) | exact OK λ_ _ _=>Uu)
 |(focus show MJ _ _ _ _ _ _;first | ((first | refine' upP ?_ | refine' GZ ?_ ?_ | refine' GE ?_ ?_ | refine' RD ?_ (kx ?_) | refine' LK ?_ (kx ?_) | refine' GI ?_ (kx ?_) | refine' Ru ?_ ?_ | refine' LF ?_ (kx ?_) | refine' GG ?_ (kx ?_)) <;> infer_instance) | (refine' Rn (by assumption) ?_ ?_ ?_ (by decide) (by decide) <;> infer_instance) | exact Yl rfl | (refine' CU rfl ?_ <;> infer_instance) | (refine' Ro (by assumption) ?_ ?_ (by decide) (by decide) <;> infer_instance) | (refine' Lu (by assumption) ?_ ?_ ?_ ?_ <;> infer_instance) | (refine' Lr (by assumption) ?_ ?_ ?_ ?_ ?_ <;> infer_instance) | (refine' moF ?_ <;> infer_instance))
 |(focus show TJ _ _ _ _ _ _;first | (refine' tg2 ?_ ?_ <;> infer_instance) | exact tgF rfl rfl | exact tgR rfl rfl | exact XJ rfl rfl)
 |(focus show A1J _ _ _ _ _ _;first | (refine' aK ?_ <;> infer_instance) | (refine' aF ?_ <;> infer_instance) | (refine' aU ?_ <;> infer_instance) | exact aO)
 |(focus show S2 _ _ _;first | exact Uf | exact OQ | exact Us | exact T6 | exact XU | exact XW | exact XT | exact XR | exact XY | exact Ul | exact Ue | exact OS | exact ON | exact XX | (refine' Ui <;> infer_instance) | exact OL | exact T7)
 |((first | refine' Yd ?_ ?_ ?_ ?_ | refine' Yc ?_ ?_) <;> infer_instance)
 |(refine' X7 ?_ ?_ rfl rfl<;>infer_instance)
 |exact X5 rfl
 |(refine' X6 ?_<;>infer_instance)
 |exact Yb rfl
 |exact RQ
 |exact rfl
 |assumption
 |exact trivial
 |exact⟨rfl,trivial⟩
 |exact⟨trivial,trivial⟩
 |exact⟨rfl,trivial,trivial⟩
 |exact⟨rfl,trivial,trivial,trivial⟩
 |exact⟨rfl,trivial,trivial,trivial,trivial⟩
 |exact⟨trivial,trivial,trivial⟩
 |exact⟨rfl,rfl,trivial,trivial,trivial⟩
 |exact Or.inl rfl
 |exact Or.inr rfl
 |exact Ud
 |decide)
local macro_rules | `(tactic| and_intros)=>`(tactic| (have h:=tx0 (by assumption);cases h;refine ⟨?_,?_,show PSs _ (_::_) _ from ?_⟩;rotate_left;infer_instance;ac_rfl))
def Ng(T:dq K g):CalC P w K g b 240 "Guild" 1 (f7 K V9 CV):=
 T.calC 0 0 0 0 rfl (f8 ["self","size"] [] rfl)
abbrev Uq:Stmt:=HD.iC (HD.top PySem.Challenge.pw_heraldways_k18_whole_calm_is_settled 12) 13
def Io:CompSc (aL Uq) (Gd.eI (Gd.km (Gd.nth (bI Uq) 0))) "b" ["pairs","a"]:=by ac_rfl
def Vw(T:dq K g):CalM P w K g b 240 "houses_paired" 1 (gc (d5 K) V8 (KO (d5 K) (.ct .fz)) RG):=by
 have:=Io
 exact T.calM 1 1 rfl (DO ["self","pairs","a"] [] rfl)
abbrev XS:Stmt:=HD.iC (HD.top PySem.Challenge.pw_heraldways_k18_whole_calm_is_settled 12) 15
def Im:CompSc (aL XS) { kind:=.function,names:=[ (".0",.local),("b",.local),("a",.free),("self",.free)],isGenerator:=false,isCoroutine:=false,more:=[]:PySem.Scope } "b" ["a","self"]:=by ac_rfl
def Vq(T:dq K g):CalM P w K g b 240 "shuns_one_of" 1 (f7 K VX Ry):=by
 have:=Im
 exact T.calM 2 2 rfl (f8 ["self","a","houses"] [] rfl)
def Nb(T:dq K g):CalM P w K g b 240 "size" 1 (f7 K VW lT):=
 T.calM 3 3 rfl (f8 ["self"] [] rfl)
def Vk(T:dq K g):CalM P w K g b 412 "first_of_line" 1 (f7 K VO Rs):=
 T.calM 4 4 rfl (f8 ["self","pair"] [.F] rfl)
def Vj(T:dq K g):CalM P w K g b 412 "forget" 1 (f7 K VN LC):=
 T.calM 5 5 rfl (f8 ["self","writer","receiver"] [] rfl)
def FL(T:dq K g):CalM P w K g b 412 "write_road" 1 (f7 K Rj vK):=
 T.calM 6 6 rfl (f8 ["self","writer","receiver","road"] [.F] rfl)
def Qy(T:dq K g):CalN P w K g b "_law_cell_at" 1 (f7 K Q9 og):=
 T.calN 7 2 rfl (f8 ["script","k"] [] rfl)
def Qv(T:dq K g):CalN P w K g b "_law_fond_by" 1 (gc (d5 K) Q6 (KO (d5 K) (.ct .fz)) GP):=
 T.calN 8 3 rfl (DO ["cell","size","fond","k"] [.O (.ct .fz),.F] rfl)
def Qu(T:dq K g):CalN P w K g b "_law_key" 1 (f7 K Q4 AG):=
 T.calN 9 4 rfl (f8 ["fond","dear","road","rank"] [.F] rfl)
abbrev MU:Stmt:=HD.top PySem.Challenge.pw_heraldways_k18_whole_calm_is_settled 29
def Dk:CompSc (aL MU) (Gd.eI (Gd.km (Gd.nth (bI MU) 0))) "far" ["house"]:=by ac_rfl
def Qt(T:dq K g):CalN P w K g b "_law_road_by" 1 (gc (d5 K) Q3 (KO (d5 K) (.ct .fz)) GO):=by
 have:=Dk
 exact T.calN 10 5 rfl (DO ["cell","house","size","rest","road","many"] [.O (.ct .fz),.O (.ct .fz),.F] rfl)
def Qr(T:dq K g):CalN P w K g b "_law_shy_by" 1 (gc (d5 K) Q0 (KO (d5 K) (.ct .fz)) GN):=
 T.calN 11 6 rfl (DO ["cell","size","shy","k","a","b"] [.O (.ct .fz),.F,.F,.F] rfl)
abbrev MT:Stmt:=HD.top PySem.Challenge.pw_heraldways_k18_whole_calm_is_settled 37
def Dj:CompSc (aL MT) (Gd.eI (Gd.km (Gd.nth (bI MT) 0))) "b" ["ways","a"]:=by ac_rfl
def Qq(T:dq K g):CalN P w K g b "_law_ties" 1 (gc (d5 K) QZ (KO (d5 K) (.ct .fz)) GM):=by
 have:=Dj
 exact T.calN 12 7 rfl (DO ["ways","size","a"] [] rfl)
def Qp(T:dq K g):CalN P w K g b "_law_ways_by" 1 (gc (d5 K) QY (KO (d5 K) (.ct .fz)) GL):=
 T.calN 13 8 rfl (DO ["cell","size","seed","ways","k","a","b"] [.F,.O (.ct .fz),.F,.F,.F] rfl)
def Qo(T:dq K g):CalN P w K g b "_law_whole" 1 (f7 K QX GK):=
 T.calN 14 9 rfl (f8 ["found"] [] rfl)
def FJ(T:dq K g):CalN P w K g b "best_road" 1 (f7 K Rh AK):=
 T.calN 15 10 rfl (f8 ["house","standings","best"] [.F] rfl)
def yu(T:dq K g):CalN P w K g b "copied" 1 (f7 K Rf vJ):=
 T.calN 16 11 rfl (f8 ["road"] [] rfl)
def yt(T:dq K g):CalN P w K g b "require_within" 1 (f7 K QU vI):=
 T.calN 17 12 rfl (f8 ["houses","count"] [] rfl)
def nX(T:dq K g):CalM P w K g b 240 "require_houses" 2 (f7 K V1 tS):=by
 have:=yt P w b T
 exact T.calM 18 7 rfl (f8 ["self","houses"] [] rfl)
abbrev MZ:Stmt:=HD.iC (HD.top PySem.Challenge.pw_heraldways_k18_whole_calm_is_settled 22) 2
def Dr:CompSc (aL MZ) (Gd.eI (Gd.km (Gd.nth (bI MZ) 0))) "road" []:=by ac_rfl
def QE(T:dq K g):CalM P w K g b 412 "table" 2 (gc (d5 K) Rl (KO (d5 K) (.ct .fz)) GX):=by
 have:=yu P w b T
 have:=Dr
 exact T.calM 19 8 rfl (DO ["self"] [] rfl)
abbrev MY:Stmt:=HD.iC (HD.top PySem.Challenge.pw_heraldways_k18_whole_calm_is_settled 22) 4
def Dq:CompSc (aL MY) (Gd.eI (Gd.km (Gd.nth (bI MY) 0))) "pair" ["self"]:=by ac_rfl
def FM(T:dq K g):CalM P w K g b 412 "waiting" 2 (gc (d5 K) Rk (KO (d5 K) (.ct .fz)) vL):=by
 have:=yu P w b T
 have:=Dq
 exact T.calM 20 9 rfl (DO ["self"] [] rfl)
abbrev Uo:Stmt:=HD.top PySem.Challenge.pw_heraldways_k18_whole_calm_is_settled 31
def Dm:CompSc (aL Uo) { kind:=.function,names:=[ (".0",.local),("far",.local),("house",.free),("shy",.free)],isGenerator:=false,isCoroutine:=false,more:=[]:PySem.Scope } "far" ["shy","house"]:=by ac_rfl
def QA(T:dq K g):CalN P w K g b "_law_best" 2 (f7 K Rb GT):=by
 have:=Qu P w b T
 have:=Dm
 exact T.calN 21 13 rfl (f8 ["fond","dear","shy","house","told","best","road","mine"] [.F,.F,.F] rfl)
def Qx(T:dq K g):CalN P w K g b "_law_dear_by" 2 (gc (d5 K) Q8 (KO (d5 K) (.ct .fz)) GR):=by
 have:=Qt P w b T
 exact T.calN 22 14 rfl (DO ["cell","size","dear","k","road"] [.O (.ct .fz),.F,.F] rfl)
def Qs(T:dq K g):CalN P w K g b "_law_same_road" 2 (f7 K Q2 rQ):=by
 have:=Qo P w b T
 exact T.calN 23 15 rfl (f8 ["found","due","house"] [.F] rfl)
def FG(T:dq K g):CalN P w K g b "may_take" 2 (f7 K QW AF):=by
 have:=Vq P w b T
 exact T.calN 24 16 rfl (f8 ["guild","house","road"] [] rfl)
def FF(T:dq K g):CalN P w K g b "require_told_houses" 2 (f7 K QV AE):=by
 have:=yt P w b T
 exact T.calN 25 17 rfl (f8 ["told","count","road"] [.R] rfl)
def Vu(T:dq K g):CalM P w K g b 240 "like" 3 (f7 K V5 RC):=by
 have:=nX P w b T
 exact T.calM 26 10 rfl (f8 ["self","a","b","rank"] [] rfl)
def Vt(T:dq K g):CalM P w K g b 240 "liking" 3 (f7 K V4 RB):=by
 have:=nX P w b T
 exact T.calM 27 11 rfl (f8 ["self","a","b"] [] rfl)
def Nd(T:dq K g):CalM P w K g b 240 "neighbours" 3 (gc (d5 K) V3 (KO (d5 K) (.ct .fz)) LJ):=by
 have:=nX P w b T
 have:=Vw P w b T
 exact T.calM 28 12 rfl (DO ["self","a"] [] rfl)
def Nc(T:dq K g):CalM P w K g b 240 "require_long_road" 3 (f7 K V0 LI):=by
 have:=nX P w b T
 exact T.calM 29 13 rfl (f8 ["self","road"] [] rfl)
def FD(T:dq K g):CalM P w K g b 240 "require_two_houses" 3 (f7 K VZ GH):=by
 have:=nX P w b T
 exact T.calM 30 14 rfl (f8 ["self","a","b"] [] rfl)
def Vp(T:dq K g):CalM P w K g b 240 "twin" 3 (gc (d5 K) VV (KO (d5 K) (.ob b8)) yF):=by
 have:=Ng P w b T
 exact T.calM 31 15 rfl (DO ["self","other"] [.O (.ob b8)] rfl)
def Vg(T:dq K g):CalM P w K g b 412 "road" 3 (f7 K VJ LB):=by
 have:=nX P w b T
 have:=yu P w b T
 exact T.calM 32 16 rfl (f8 ["self","a"] [] rfl)
def Qn(T:dq K g):CalN P w K g b "walk" 3 (f7 K QS GJ):=by
 have:=yt P w b T
 have:=FF P w b T
 exact T.calN 33 18 rfl (f8 ["table","house","gone","entry"] [.O (.ct .fz),.R] rfl)
def Nf(T:dq K g):CalM P w K g b 240 "lay_way" 4 (f7 K V7 LL):=by
 have:=FD P w b T
 exact T.calM 34 17 rfl (f8 ["self","a","b"] [] rfl)
def Vv(T:dq K g):CalM P w K g b 240 "lift_way" 4 (f7 K V6 RE):=by
 have:=FD P w b T
 exact T.calM 35 18 rfl (f8 ["self","a","b"] [] rfl)
def Vs(T:dq K g):CalM P w K g b 240 "rank_of" 4 (f7 K V2 RA):=by
 have:=Nc P w b T
 have:=Vt P w b T
 exact T.calM 36 19 rfl (f8 ["self","road","wish_rank"] [.F] rfl)
def Vr(T:dq K g):CalM P w K g b 240 "shun" 4 (f7 K VY Rz):=by
 have:=FD P w b T
 exact T.calM 37 20 rfl (f8 ["self","a","b"] [] rfl)
def Vo(T:dq K g):CalM P w K g b 240 "wish" 4 (f7 K VU Rw):=by
 have:=Nc P w b T
 exact T.calM 38 21 rfl (f8 ["self","road","rank"] [] rfl)
def FK(T:dq K g):CalM P w K g b 412 "write_to_all" 4 (f7 K Ri iy):=by
 have:=Nd P w b T
 have:=FL P w b T
 exact T.calM 39 22 rfl (f8 ["self","writer","receiver"] [.F] rfl)
abbrev Ua:Stmt:=HD.iC (HD.top PySem.Challenge.pw_heraldways_k18_whole_calm_is_settled 22) 0
def Il:CompSc (aL Ua) (Gd.eI (Gd.km (Gd.nth (bI Ua) 6))) "house" []:=by ac_rfl
def Vn(T:dq K g):CalC P w K g b 412 "Post" 5 (f7 K VT yE):=by
 have:=Vp P w b T
 have:=Nb P w b T
 have:=FK P w b T
 have:=Il
 exact T.calC 40 23 1 1 rfl (f8 ["self","guild"] [] rfl)
def M9(T:dq K g):CalM P w K g b 412 "choose_anew" 5 (f7 K VQ GF):=by
 have:=FJ P w b T
 have:=FK P w b T
 exact T.calM 41 24 rfl (f8 ["self","house","road"] [.F] rfl)
def Vh(T:dq K g):CalM P w K g b 412 "rise" 5 (f7 K VL Rq):=by
 have:=Nf P w b T
 have:=FL P w b T
 exact T.calM 42 25 rfl (f8 ["self","a","b"] [] rfl)
def FI(T:dq K g):CalN P w K g b "_law_guild_by" 5 (gc (d5 K) Q5 (KO (d5 K) (.ob b8)) AH):=by
 have:=Ng P w b T
 have:=Nf P w b T
 have:=Vu P w b T
 have:=Vo P w b T
 have:=Vr P w b T
 exact T.calN 43 19 rfl (DO ["size","ways","fond","dear","shy","guild","a","b","pair","key"] [.O (.ob b8),.R,.R,.R,.R] rfl)
def FE(T:dq K g):CalN P w K g b "standing" 5 (f7 K QT AD):=by
 have:=Vs P w b T
 exact T.calN 44 20 rfl (f8 ["guild","road"] [] rfl)
def Vl(T:dq K g):CalM P w K g b 412 "fall" 6 (f7 K VP Rt):=by
 have:=Vv P w b T
 have:=Vj P w b T
 have:=M9 P w b T
 exact T.calM 45 26 rfl (f8 ["self","a","b"] [] rfl)
def Vi(T:dq K g):CalM P w K g b 412 "hear" 6 (f7 K VM Rr):=by
 have:=FG P w b T
 have:=FE P w b T
 exact T.calM 46 27 rfl (f8 ["self","writer","receiver","road"] [] rfl)
abbrev MX:Stmt:=HD.top PySem.Challenge.pw_heraldways_k18_whole_calm_is_settled 17
def Dp:CompSc (aL MX) (Gd.eI (Gd.km (Gd.nth (bI MX) 0))) "road" ["guild","house"]:=by ac_rfl
def QD(T:dq K g):CalN P w K g b "choice_among" 6 (f7 K Rg GW):=by
 have:=FG P w b T
 have:=FE P w b T
 have:=FJ P w b T
 have:=Dp
 exact T.calN 47 21 rfl (f8 ["guild","house","told","standings"] [.F] rfl)
def Na(T:dq K g):CalM P w K g b 412 "carry" 7 (f7 K VS LD):=by
 have:=nX P w b T
 have:=Vi P w b T
 have:=M9 P w b T
 exact T.calM 48 28 rfl (f8 ["self","a","b"] [] rfl)
abbrev MW:Stmt:=HD.top PySem.Challenge.pw_heraldways_k18_whole_calm_is_settled 14
def Do:CompSc (aL MW) (Gd.eI (Gd.km (Gd.nth (Gd.Ec (Gd.nth (bI MW) 1)) 0))) "neighbour" ["table"]:=by ac_rfl
def QC(T:dq K g):CalN P w K g b "first_unsettled" 7 (f7 K Re GV):=by
 have:=FF P w b T
 have:=Nb P w b T
 have:=Nd P w b T
 have:=QD P w b T
 have:=Do
 exact T.calN 49 22 rfl (f8 ["guild","table","house","told"] [.F,.R] rfl)
def Vm(T:dq K g):CalM P w K g b 412 "carry_next" 8 (f7 K VR Rv):=by
 have:=Vk P w b T
 have:=Na P w b T
 exact T.calM 50 29 rfl (f8 ["self","pair"] [.F] rfl)
abbrev MV:Stmt:=HD.top PySem.Challenge.pw_heraldways_k18_whole_calm_is_settled 39
def Dl:CompSc (aL MV) (Gd.eI (Gd.km (Gd.nth (Gd.Ec (Gd.nth (bI MV) 1)) 0))) "b" ["post"]:=by ac_rfl
def Qz(T:dq K g):CalN P w K g b "_law_calm_good" 8 (f7 K Ra AI):=by
 have:=QE P w b T
 have:=Qq P w b T
 have:=Vg P w b T
 have:=QA P w b T
 have:=Qs P w b T
 have:=Qn P w b T
 have:=FI P w b T
 have:=QC P w b T
 have:=Dl
 exact T.calN 51 23 rfl (f8 ["post","said","ways","size","table","a","told","road","found","guild"] [.F,.F,.F,.F,.F,.O (.ob b8)] rfl)
def Qw(T:dq K g):CalN P w K g b "_law_deed_done" 8 (f7 K Q7 GQ):=by
 have:=FM P w b T
 have:=Vl P w b T
 have:=Vh P w b T
 have:=Na P w b T
 exact T.calN 52 24 rfl (f8 ["post","ways","size","cell","a","b","line","pair","pick"] [.F,.F,.F,.F,.F] rfl)
def QF(T:dq K g):CalM P w K g b 412 "settle" 9 (f7 K Rm GY):=by
 have:=Vm P w b T
 exact T.calM 53 30 rfl (f8 ["self","most","carried"] [.F] rfl)
def QB(T:dq K g){d:FuncData}(F:Fun K "law" "law" (HD.top PySem.Challenge.pw_heraldways_k18_whole_calm_is_settled 40) 520 d):FnOk P w K g b u4 10 520 d ["script"] (f7 K FX GU):=by
 have:=Qy P w b T
 have:=Qp P w b T
 have:=Qv P w b T
 have:=Qx P w b T
 have:=Qr P w b T
 have:=Vn P w b T
 have:=FI P w b T
 have:=FM P w b T
 have:=Qz P w b T
 have:=Qw P w b T
 have:=QF P w b T
 exact Wm F (f8 (M:=FX) ["script","size","ways","fond","dear","shy","said","post","cell"] [.F,.O (.ct .fz),.F,.F,.F,.F,.O (.ob cG),.F] rfl)
end
end K18
namespace K18
open PySem L2 Mi Cl
noncomputable section
structure GΩ where
 hω:Int
 U:(DI Bool)
 lω:(DI Int)
 sω:(DI Bool)
 wω:(DI Int)
def ah:GΩ->D:=λg=>.obj 0 ["house_count","ways","likings","shuns","wish_ranks"] [D.int g.hω,(aP D.bl) g.U,(aP D.int) g.lω,(aP D.bl) g.sω,(aP D.int) g.wω]
structure PostT where
 guild:GΩ
 roads:(List (Option (List Int)))
 told_last:(DI (Option (List Int)))
 written_last:(DI (Option (List Int)))
 letters:(DI (Option (List Int)))
 standings:(List (DJ (Int×Int×(List Int))))
def aS:PostT->D:=λg=>.obj 1 ["guild","roads","told_last","written_last","letters","standings"] [ah g.guild,(eL (eO (eL D.int))) g.roads,(aP (eO (eL D.int))) g.told_last,(aP (eO (eL D.int))) g.written_last,(aP (eO (eL D.int))) g.letters,(eL (l7 (u3 D.int D.int (eL D.int)))) g.standings]
def bL(g:GΩ):SimR D.int (bA 0 "house_count" (ah g)) (.ok g.hω):=rfl
def dN(g:GΩ):SimR (aP D.bl) (bA 0 "ways" (ah g)) (.ok g.U):=rfl
def gh(g:GΩ):SimR (aP D.int) (bA 0 "likings" (ah g)) (.ok g.lω):=rfl
def iS(g:GΩ):SimR (aP D.bl) (bA 0 "shuns" (ah g)) (.ok g.sω):=rfl
def mG(g:GΩ):SimR (aP D.int) (bA 0 "wish_ranks" (ah g)) (.ok g.wω):=rfl
def cN(g:PostT):SimR ah (bA 1 "guild" (aS g)) (.ok g.guild):=rfl
def dM(g:PostT):SimR (eL (eO (eL D.int))) (bA 1 "roads" (aS g)) (.ok g.roads):=rfl
def iR(g:PostT):SimR (aP (eO (eL D.int))) (bA 1 "written_last" (aS g)) (.ok g.written_last):=rfl
def cR(g:PostT):SimR (aP (eO (eL D.int))) (bA 1 "letters" (aS g)) (.ok g.letters):=rfl
def gk(size:Int):Res GΩ:=if 1<=size/\size<=60 then .ok ⟨size,[],[],[],[]⟩ else .bad
def jy(size:Int):SimR ah (gm 0 CV [.int size]) (gk size):=by
 unfold gk;by_cases h:1<=size/\size<=60
 · rw[YG h];have b:¬ size<1:=by omega
   have a:¬ 60<size:=by omega
   show gm 0 CV [.int size]=_;unfold gm CV Mi.run;rw[GC];simp[ai,fi,ar,yq,b6,bn,ax,rg,Cc,b,a,aV,cz,mE,ci,lO,aW];rfl
 ·rw[on h];trivial
structure S_b9 where
 vxq:GΩ
 vnq:(DI Bool)
 v0q:Int
def EX:S_b9->P1:=λs=>[some (ah s.vxq),some ((aP D.bl) s.vnq),some (D.int s.v0q)]
abbrev Xh:=S_b9->FlC S_b9 (List Int)
def BJ:Xh:=aZ (aA (cP (aI (gM 0) (aI (λg=>.ok g.hω) (pC (·.vxq)))) (aG (ud false) (aI ce (fe (pC λp=>p.2.v0q) (pC λp=>p.1))) (pC λp=>p.2.vnq)) (pC λp=>p.1)))
def Ja:Xh:=BJ
def MM(b:GΩ)(a:DI Bool)(c:Int):OutC S_b9 (List Int):=bb none (Ja ⟨b,a,c⟩)
def WU:Cl.TJ EX (eL D.int) NN Ja:=aw (ac (dO (fY (aD bL xp)) (am (ae (rL false) (a9 bv (aQ xp xp)) xp)) xp))
def W9(b:GΩ)(a:DI Bool)(c:Int):SimO EX (eL D.int) (RG [ah b,(aP D.bl) a,D.int c]) (MM b a c):=d9 WU rfl
structure S_m9 where
 vxq:GΩ
 v0q:Int
 veq:(List Int)
def EL:S_m9->P1:=λs=>[some (ah s.vxq),some (D.int s.v0q),some ((eL D.int) s.veq)]
abbrev Xf:=S_m9->FlC S_m9 Bool
def Bj:Xf:=aZ (aA (aI Xa (cP (pC (·.veq)) (λ_=>.ok true) (aG (ud false) (aI ce (fe (pC λp=>p.2.v0q) (pC λp=>p.1))) (aI (λg=>.ok g.sω) (pC λp=>p.2.vxq))))))
def IS:Xf:=Bj
def MF(b:GΩ)(c:Int)(a:List Int):OutC S_m9 Bool:=bb none (IS ⟨b,c,a⟩)
def WJ:Cl.TJ EL D.bl NB IS:=aw (ac (aD VH (dO (bZ xp) oO (ae (rL false) (a9 bv (aQ xp (bR (λ_=>rfl) xp))) (aD iS xp)))))
def W3(b:GΩ)(c:Int)(a:List Int):SimO EL D.bl (Ry [ah b,D.int c,(eL D.int) a]) (MF b c a):=cj WJ rfl
structure S_n9 where
 vxq:GΩ
def yj:S_n9->P1:=λs=>[some (ah s.vxq)]
abbrev Xe:=S_n9->FlC S_n9 Int
def Bi:Xe:=aZ (aA (aI (λg=>.ok g.hω) (pC (·.vxq))))
def IR:Xe:=Bi
def Jr(a:GΩ):OutC S_n9 Int:=bb none (IR ⟨a⟩)
def WI:Cl.TJ yj D.int NA IR:=aw (ac (bR (λ_=>rfl) (aD bL xp)))
def Iu(a:GΩ):SimO yj D.int (lT [ah a]) (Jr a):=cj WI rfl
structure S_v9 where
 vxq:PostT
 vmq:Option (List Int)
def ED:S_v9->P1:=λs=>[some (aS s.vxq),s.vmq.map (kY D.int)]
abbrev Xd:=S_v9->FlC S_v9 (List Int)
def Ba:Xd:=yO (λs=>s.vxq.letters) (λk s=>{s with vmq:=some k})
def IJ:Xd:=ag Ba
 q9
def MA(a:PostT):OutC S_v9 (List Int):=bb none (IJ ⟨a,none⟩)
def WB:Cl.TJ ED (kY D.int) Nr IJ:=aa (DZ (λs=>⟨_,rfl,rfl⟩) (λ_=>(by decide:1<2)) (λ_ _=>rfl))
 gL
def WX(a:PostT):SimO ED (kY D.int) (Rs [aS a]) (MA a):=cj WB rfl
structure S_w9 where
 vxq:PostT
 vFq:Int
 vrq:Int
def EC:S_w9->P1:=λs=>[some (aS s.vxq),some (D.int s.vFq),some (D.int s.vrq)]
abbrev Jf:=S_w9->FlC S_w9 Unit
def uq:Jf:=aC (jE (λs=>some s.vxq.letters) (λs y=>{s with vxq:={s.vxq with letters:=y}}) (aI ce (fe (pC (·.vFq)) (pC (·.vrq)))))
def uo:Jf:=aC (jE (λs=>some s.vxq.told_last) (λs y=>{s with vxq:={s.vxq with told_last:=y}}) (aI ce (fe (pC (·.vFq)) (pC (·.vrq)))))
def ul:Jf:=aC (jE (λs=>some s.vxq.written_last) (λs y=>{s with vxq:={s.vxq with written_last:=y}}) (aI ce (fe (pC (·.vFq)) (pC (·.vrq)))))
def uk:Jf:=aC (r0 (gI (λs=>some s.vxq.standings) (λs=>some s.vrq)) (pI (λs=>some s.vxq.standings) (λs y=>{s with vxq:={s.vxq with standings:=y}}) (λs=>some s.vrq)) (pC (·.vFq)))
def II:Jf:=ag uq
 (ag uo
 (ag ul
 uk))
def Jo(c:PostT)(b:Int)(a:Int):OutC S_w9 Unit:=bb (some ()) (II ⟨c,b,a⟩)
def WA:Cl.TJ EC eN Nq II:=aa (ak (n5 (λ_=>rfl) (λ_ _=>rfl) (a9 bv (aQ xp xp))))
 (aa (ak (n5 (λ_=>rfl) (λ_ _=>rfl) (a9 bv (aQ xp xp))))
 (aa (ak (n5 (λ_=>rfl) (λ_ _=>rfl) (a9 bv (aQ xp xp))))
 (ak (Ay (Xz (λ_=>rfl) (oA (λ_=>rfl))) (Yr (λ_=>rfl) (λ_ _=>rfl) (oA (λ_=>rfl))) xp))))
def N0(c:PostT)(b:Int)(a:Int):SimO EC eN (LC [aS c,D.int b,D.int a]) (Jo c b a):=cF (d:=()) rfl WA rfl
structure S_bd9 where
 vxq:PostT
 vFq:Int
 vrq:Int
 vtq:Option (Option (List Int))
def Ao:S_bd9->P1:=λs=>[some (aS s.vxq),some (D.int s.vFq),some (D.int s.vrq),s.vtq.map (eO (eL D.int))]
abbrev sL:=S_bd9->FlC S_bd9 Unit
def qo:sL:=a8 (λa s=>{s with vtq:=some a}) (aA (aG jr (aI (λg=>.ok g.roads) (pC (·.vxq))) (pC (·.vFq))))
def lx:sL:=M0 ()
def qm:sL:=fX (aA (aG (nB false) (aG NX (aI (λg=>.ok g.written_last) (pC (·.vxq))) (aI ce (fe (pC (·.vFq)) (pC (·.vrq))))) (vC (·.vtq))))
 lx
 bc
def xf:sL:=i3 (λs=>some s.vxq.written_last) (λs y=>{s with vxq:={s.vxq with written_last:=y}}) (aI ce (fe (pC (·.vFq)) (pC (·.vrq)))) (aA (vC (·.vtq)))
def xc:sL:=i3 (λs=>some s.vxq.letters) (λs y=>{s with vxq:={s.vxq with letters:=y}}) (aI ce (fe (pC (·.vFq)) (pC (·.vrq)))) (aA (vC (·.vtq)))
def zu:sL:=ag qo
 (ag qm
 (ag xf
 xc))
def sP(c:PostT)(b:Int)(a:Int):OutC S_bd9 Unit:=bb (some ()) (zu ⟨c,b,a,none⟩)
def SI:Cl.TJ Ao eN Gy zu:=aa (xs (ac (ae dW (aD dM xp) xp)))
 (aa (a6 (ac (am (ae (Aw (A7 (wc d4) (k8 _)) (by decide) false) (HY (aD iR xp) (a9 bv (aQ xp xp))) xv)))
 (JE rfl)
 az)
 (aa (dI (λ_=>rfl) (λ_ _=>rfl) (a9 bv (aQ xp xp)) (ac xv))
 (dI (λ_=>rfl) (λ_ _=>rfl) (a9 bv (aQ xp xp)) (ac xv))))
def yX(c:PostT)(b:Int)(a:Int):SimO Ao eN (vK [aS c,D.int b,D.int a]) (sP c b a):=cF (d:=()) rfl SI rfl
structure S_bm9 where
 vvq:(List Int)
 vfq:Int
def Af:S_bm9->P1:=λs=>[some (eS s.vvq),some (D.int s.vfq)]
abbrev BP:=S_bm9->FlC S_bm9 Int
def lj:BP:=aZ (aA (aG jr (pC (·.vvq)) (pC (·.vfq))))
def wV:BP:=fX (aA (aG LM (pC (·.vfq)) (aI gr (pC (·.vvq)))))
 lj
 bc
def wU:BP:=aZ (aA (kC (0:Int)))
def zj:BP:=ag wV
 wU
def lH(a:List Int)(b:Int):OutC S_bm9 Int:=bb none (zj ⟨a,b⟩)
def Sz:Cl.TJ Af D.int Gm zj:=aa (a6 (ac (am (ae CH xp (aD QN xp))))
 (aw (ac (bR (λ_=>rfl) (ae VD xp xp))))
 az)
 (aw (ac xk))
def qB(a:List Int)(b:Int):SimO Af D.int (og [eS a,D.int b]) (lH a b):=cj Sz rfl
structure S_bp9 where
 v4q:Int
 vzq:Int
 v9q:Option (DI Int)
 vfq:Option Int
def Ac:S_bp9->P1:=λs=>[some (D.int s.v4q),some (D.int s.vzq),s.v9q.map (aP D.int),s.vfq.map D.int]
abbrev qK:=S_bp9->FlC S_bp9 (DI Int)
def wR:qK:=a8 (λa s=>{s with v9q:=some a}) (aA (kC ([]:DI Int)))
def pD:qK:=a8 (λa s=>{s with v4q:=a}) (aA (aG dC (aG mw (aG CM (pC (·.v4q)) (kC (48271:Int))) (kC (11:Int))) (kC (2147483647:Int))))
def pA:qK:=i3 (λs=>s.v9q) (λs y=>{s with v9q:=some y}) (aI ce (fe (aG dC (pC (·.v4q)) (pC (·.vzq))) (aG dC (aG gy (pC (·.v4q)) (kC (7:Int))) (pC (·.vzq))))) (aA (aG ya (aG dC (aG gy (pC (·.v4q)) (kC (49:Int))) (kC (7:Int))) (kC (3:Int))))
def qx:qK:=ag pD
 pA
def wQ:qK:=c9 (aI (gM 0) (aG dC (pC (·.v4q)) (kC (5:Int)))) (λa s=>{s with vfq:=some a})
 qx
def wP:qK:=aZ (CL (λs=>s.v9q) (λs=>{s with v9q:=none}))
def zh:qK:=ag wR
 (ag wQ
 wP)
def BX(b:Int)(a:Int):OutC S_bp9 (DI Int):=bb none (zh ⟨b,a,none,none⟩)
def Sw:Cl.TJ Ac (aP D.int) Gi zh:=aa (xs (ac (t9 rfl)))
 (aa (bO (fY (ae bU xp xk)) (λ_ _=>rfl)
 (aa (xs (ac (ae bU (ae iT (ae vm xp xk) xk) xk)))
 (dI (λ_=>rfl) (λ_ _=>rfl) (a9 bv (aQ (ae bU xp xp) (ae bU (ae d7 xp xk) xp))) (ac (ae rJ (ae bU (ae d7 xp xk) xk) xk)))))
 (aw (iU (λ_=>rfl) (λ_=>rfl))))
def SX(b:Int)(a:Int):SimO Ac (aP D.int) (GP [D.int b,D.int a]) (BX b a):=d9 Sw rfl
structure S_br9 where
 v9q:(DI Int)
 v6q:(DI Int)
 vtq:(List Int)
 vqq:Option Int
def Aa:S_br9->P1:=λs=>[some ((aP D.int) s.v9q),some ((aP D.int) s.v6q),some ((eL D.int) s.vtq),s.vqq.map D.int]
abbrev xx:=S_br9->FlC S_br9 (Int×Int×(List Int))
def pq:xx:=a8 (λa s=>{s with vqq:=some a}) (aA (HN (pC (·.v9q)) (aI ce (fe (aG jr (pC (·.vtq)) (kC (0:Int))) (aG jr (pC (·.vtq)) (kC (1:Int))))) (kC (0:Int))))
def hZ:xx:=a8 (λa s=>{s with vqq:=some a}) (aA (aG Sa (pC (·.v6q)) (aI Jz (pC (·.vtq)))))
def pp:xx:=fX (aA (aG (ud false) (aI Jz (pC (·.vtq))) (pC (·.v6q))))
 hZ
 bc
def ph:xx:=aZ (aA (fe (aG ya (kC (0:Int)) (vC (·.vqq))) (fe (aI gr (pC (·.vtq))) (pC (·.vtq)))))
def zf:xx:=ag pq
 (ag pp
 ph)
def xB(b:DI Int)(c:DI Int)(a:List Int):OutC S_br9 (Int×Int×(List Int)):=bb none (zf ⟨b,c,a,none⟩)
def Su:Cl.TJ Aa (u3 D.int D.int (eL D.int)) Gg zf:=aa (xs (ac (bR (λ_=>rfl) (AY xp (a9 bv (aQ (ae dW xp xk) (ae dW xp xk))) xk))))
 (aa (a6 (ac (am (ae (rL false) (aD vk xp) xp)))
 (xs (ac (bR (λ_=>rfl) (ae tM xp (aD vk xp)))))
 az)
 (aw (ac (t8 (ae rJ xk xv) (aD cT xp) xp))))
def IA(b:DI Int)(c:DI Int)(a:List Int):SimO Aa (u3 D.int D.int (eL D.int)) (AG [(aP D.int) b,(aP D.int) c,(eL D.int) a]) (xB b c a):=cj Su rfl
structure S_bs9 where
 v4q:Int
 vdq:Int
 vzq:Int
 vsq:Option (List Int)
 vtq:Option (List Int)
 viq:Option Int
def tE:S_bs9->P1:=λs=>[some (D.int s.v4q),some (D.int s.vdq),some (D.int s.vzq),s.vsq.map (eL D.int),s.vtq.map (eL D.int),s.viq.map D.int]
abbrev gK:=S_bs9->FlC S_bs9 (List Int)
def pf:gK:=a8 (λa s=>{s with vsq:=some a}) (aA (cP (aG gM (kC (1:Int)) (pC (·.vzq))) (aG (nB true) (pC λp=>p.1) (pC λp=>p.2.vdq)) (pC λp=>p.1)))
def pe:gK:=a8 (λa s=>{s with vtq:=some a}) (aA (qR (cw (pC (·.vdq)) (fL:_->Res (List Int)))))
def pd:gK:=a8 (λa s=>{s with viq:=some a}) (aA (aG dC (pC (·.v4q)) (kC (4:Int))))
def lh:gK:=a8 (λa s=>{s with viq:=some a}) (aA (pC (·.vzq)))
def o9:gK:=fX (aA (aG (nB false) (aG dC (aG gy (pC (·.v4q)) (kC (4:Int))) (kC (8:Int))) (kC (3:Int))))
 lh
 bc
def o8:gK:=a8 (λa s=>{s with v4q:=a}) (aA (aG gy (pC (·.v4q)) (kC (4:Int))))
def o7:gK:=aC (Tg (λs=>s.vtq) (λs y=>{s with vtq:=some y}) (NR (λs=>s.vsq) (λs y=>{s with vsq:=some y}) Fb (aG dC (pC (·.v4q)) (aI gr (vC (·.vsq))))))
def o6:gK:=a8 (λa s=>{s with v4q:=a}) (aA (aG gy (pC (·.v4q)) (kC (5:Int))))
def o5:gK:=a8 (λa s=>{s with viq:=some a}) (aA (aG ya (vC (·.viq)) (kC (1:Int))))
def qv:gK:=ag o7
 (ag o6
 o5)
def wJ:gK:=uZ (aA (nq (aG Db (vC (·.viq)) (kC (0:Int))) (aG Db (aI gr (vC (·.vsq))) (kC (0:Int)))))
 qv 100000
def wI:gK:=aZ (aA (aG qW (vC (·.vtq)) (qR (cw (kC (0:Int)) (fL:_->Res (List Int))))))
def ze:gK:=ag pf
 (ag pe
 (ag pd
 (ag o9
 (ag o8
 (ag wJ
 wI)))))
def BW(c:Int)(a:Int)(b:Int):OutC S_bs9 (List Int):=bb none (ze ⟨c,a,b,none,none,none⟩)
def Ss:Cl.TJ tE (eL D.int) Gf ze:=aa (xs (ac (dO (yR xk xp) (am (ae (gi true) xp xp)) xp)))
 (aa (xs (ac (cu (bB xp cq))))
 (aa (xs (ac (ae bU xp xk)))
 (aa (a6 (ac (am (ae (gi false) (ae bU (ae d7 xp xk) xk) xk)))
 (xs (ac xp))
 az)
 (aa (xs (ac (ae d7 xp xk)))
 (aa (u7 (rep:=tE) (ac (jn (am (ae yw xv xk)) (am (ae yw (aD cT xv) xk))))
 (aa (ak (QR (λ_=>rfl) (λ_ _=>rfl) (rM (λ_=>rfl) (λ_ _=>rfl) Ws (ae bU xp (aD cT xv)))))
 (aa (xs (ac (ae d7 xp xk)))
 (xs (ac (ae rJ xv xk))))) 100000)
 (aw (ac (ae Ax xv (cu (bB xk cq))))))))))
def SW(c:Int)(a:Int)(b:Int):SimO tE (eL D.int) (GO [D.int c,D.int a,D.int b]) (BW c a b):=d9 Ss rfl
structure S_bu9 where
 v4q:Int
 vzq:Int
 vyq:Option P0
 vfq:Option Int
 v0q:Option Int
 v1q:Option Int
def z8:S_bu9->P1:=λs=>[some (D.int s.v4q),some (D.int s.vzq),s.vyq.map (eL (js D.int D.int)),s.vfq.map D.int,s.v0q.map D.int,s.v1q.map D.int]
abbrev iD:=S_bu9->FlC S_bu9 P0
def o0:iD:=a8 (λa s=>{s with vyq:=some a}) (aA (qR (fL:_->Res P0)))
def lb:iD:=aZ (CL (λs=>s.vyq) (λs=>{s with vyq:=none}))
def oZ:iD:=fX (aA (aG LM (pC (·.vzq)) (kC (2:Int))))
 lb
 bc
def jY:iD:=a8 (λa s=>{s with v4q:=a}) (aA (aG dC (aG mw (aG CM (pC (·.v4q)) (kC (48271:Int))) (kC (23:Int))) (kC (2147483647:Int))))
def jX:iD:=a8 (λa s=>{s with v0q:=some a}) (aA (aG dC (pC (·.v4q)) (pC (·.vzq))))
def jW:iD:=a8 (λa s=>{s with v1q:=some a}) (aA (aG dC (aG mw (aG mw (vC (·.v0q)) (kC (1:Int))) (aG dC (aG gy (pC (·.v4q)) (kC (7:Int))) (aG ya (pC (·.vzq)) (kC (1:Int))))) (pC (·.vzq))))
def jc:iD:=aC (NR (λs=>s.vyq) (λs y=>{s with vyq:=some y}) nl (fe (vC (·.v0q)) (vC (·.v1q))))
def jV:iD:=fX (aA (aG (HI true) (fe (vC (·.v0q)) (vC (·.v1q))) (vC (·.vyq))))
 jc
 bc
def lA:iD:=ag jY
 (ag jX
 (ag jW
 jV))
def wE:iD:=c9 (aI (gM 0) (aG dC (pC (·.v4q)) (kC (3:Int)))) (λa s=>{s with vfq:=some a})
 lA
def wD:iD:=aZ (CL (λs=>s.vyq) (λs=>{s with vyq:=none}))
def uQ:iD:=ag o0
 (ag oZ
 (ag wE
 wD))
def xA(b:Int)(a:Int):OutC S_bu9 P0:=bb none (uQ ⟨b,a,none,none,none,none⟩)
def Sq:Cl.TJ z8 (eL (js D.int D.int)) Gc uQ:=aa (xs (ac (cu cq)))
 (aa (a6 (ac (am (ae CH xp xk)))
 (aw (iU (λ_=>rfl) (λ_=>rfl)))
 az)
 (aa (bO (fY (ae bU xp xk)) (λ_ _=>rfl)
 (aa (xs (ac (ae bU (ae iT (ae vm xp xk) xk) xk)))
 (aa (xs (ac (ae bU xp xp)))
 (aa (xs (ac (ae bU (ae iT (ae iT xv xk) (ae bU (ae d7 xp xk) (ae rJ xp xk))) xp)))
 (a6 (ac (am (ae (QI (oU d4 d4) (by decide)) (aQ xv xv) xv)))
 (ak (rM (λ_=>rfl) (λ_ _=>rfl) vZ (aQ xv xv)))
 az)))))
 (aw (iU (λ_=>rfl) (λ_=>rfl)))))
def SV(b:Int)(a:Int):SimO z8 (eL (js D.int D.int)) (GN [D.int b,D.int a]) (xA b a):=d9 Sq rfl
structure S_bv9 where
 vDq:P0
 vzq:Int
 v0q:Int
def z7:S_bv9->P1:=λs=>[some ((eL (js D.int D.int)) s.vDq),some (D.int s.vzq),some (D.int s.v0q)]
abbrev Of:=S_bv9->FlC S_bv9 (List Int)
def wC:Of:=aZ (aA (cP (aI (gM 0) (pC (·.vzq))) (aG (HI false) (fe (aG yz (pC λp=>p.2.v0q) (pC λp=>p.1)) (aG yA (pC λp=>p.2.v0q) (pC λp=>p.1))) (pC λp=>p.2.vDq)) (pC λp=>p.1)))
def zd:Of:=wC
def xz(a:P0)(b:Int)(c:Int):OutC S_bv9 (List Int):=bb none (zd ⟨a,b,c⟩)
def Sn:Cl.TJ z7 (eL D.int) Gb zd:=aw (ac (dO (fY xp) (am (ae (rK (oU d4 d4) (by decide)) (aQ (ae vn xp xp) (ae vp xp xp)) xp)) xp))
def SU(a:P0)(b:Int)(c:Int):SimO z7 (eL D.int) (GM [(eL (js D.int D.int)) a,D.int b,D.int c]) (xz a b c):=d9 Sn rfl
structure S_bw9 where
 v4q:Int
 vzq:Int
 vwq:Option Int
 vDq:Option P0
 vfq:Option Int
 v0q:Option Int
 v1q:Option Int
def z6:S_bw9->P1:=λs=>[some (D.int s.v4q),some (D.int s.vzq),s.vwq.map D.int,s.vDq.map (eL (js D.int D.int)),s.vfq.map D.int,s.v0q.map D.int,s.v1q.map D.int]
abbrev jf:=S_bw9->FlC S_bw9 P0
def wB:jf:=a8 (λa s=>{s with vwq:=some a}) (aA (aG dC (aG CM (aG dC (aG CM (aG mw (pC (·.v4q)) (kC (1:Int))) (kC (48271:Int))) (kC (2147483647:Int))) (kC (16807:Int))) (kC (2147483647:Int))))
def wA:jf:=a8 (λa s=>{s with vDq:=some a}) (aA (qR (fL:_->Res P0)))
def wz:jf:=a8 (λa s=>{s with vfq:=some a}) (aA (kC (0:Int)))
def gA:jf:=aC (NR (λs=>s.vDq) (λs y=>{s with vDq:=some y}) nl (fe (vC (·.v0q)) (vC (·.v1q))))
def hV:jf:=fX (aA (aG (nB false) (aG dC (aG T5 (vC (·.vwq)) (aG dC (vC (·.vfq)) (kC (29:Int)))) (kC (2:Int))) (kC (1:Int))))
 gA
 bc
def hE:jf:=a8 (λa s=>{s with vfq:=some a}) (aA (aG mw (vC (·.vfq)) (kC (1:Int))))
def ip:jf:=ag hV
 hE
def jU:jf:=c9 (aG gM (aG mw (vC (·.v0q)) (kC (1:Int))) (pC (·.vzq))) (λa s=>{s with v1q:=some a})
 ip
def wy:jf:=c9 (aI (gM 0) (pC (·.vzq))) (λa s=>{s with v0q:=some a})
 jU
def wx:jf:=aZ (CL (λs=>s.vDq) (λs=>{s with vDq:=none}))
def zc:jf:=ag wB
 (ag wA
 (ag wz
 (ag wy
 wx)))
def BV(b:Int)(a:Int):OutC S_bw9 P0:=bb none (zc ⟨b,a,none,none,none,none,none⟩)
def Sm:Cl.TJ z6 (eL (js D.int D.int)) Ga zc:=aa (xs (ac (ae bU (ae vm (ae bU (ae vm (ae iT xp xk) xk) xk) xk) xk)))
 (aa (xs (ac (cu cq)))
 (aa (xs (ac xk))
 (aa (bO (fY xp) (λ_ _=>rfl)
 (bO (yR (ae iT xv xk) xp) (λ_ _=>rfl)
 (aa (a6 (ac (am (ae (gi false) (ae bU (ae Vy xv (ae bU xv xk)) xk) xk)))
 (ak (rM (λ_=>rfl) (λ_ _=>rfl) vZ (aQ xv xv)))
 az)
 (xs (ac (ae iT xv xk))))))
 (aw (iU (λ_=>rfl) (λ_=>rfl))))))
def SS(b:Int)(a:Int):SimO z6 (eL (js D.int D.int)) (GL [D.int b,D.int a]) (BV b a):=d9 Sm rfl
structure S_bx9 where
 vaq:Int
def z5:S_bx9->P1:=λs=>[some (D.int s.vaq)]
abbrev Oe:=S_bx9->FlC S_bx9 Bool
def wv:Oe:=aZ (aA (nq (aI (Yw true) (pC (·.vaq))) (aI nY (aI (Yw false) (pC (·.vaq))))))
def y9:Oe:=wv
def BU(a:Int):OutC S_bx9 Bool:=bb none (y9 ⟨a⟩)
def Sl:Cl.TJ z5 D.bl F9 y9:=aw (ac (R9 (HX (e:=D.int) (n := "int") (b:=true) (λ_=>rfl) xp) (aD Nh (HX (e:=D.int) (n := "bool") (b:=false) (λ_=>rfl) xp))))
def SR(a:Int):SimO z5 D.bl (GK [D.int a]) (BU a):=cj Sl rfl
structure S_bf9 where
 vdq:Int
 vAq:(List (Int×Int×(List Int)))
 v2q:Option (Option (Int×Int×(List Int)))
def An:S_bf9->P1:=λs=>[some (D.int s.vdq),some ((eL (u3 D.int D.int (eL D.int))) s.vAq),s.v2q.map (eO (u3 D.int D.int (eL D.int)))]
abbrev qL:=S_bf9->FlC S_bf9 (Option (List Int))
def lv:qL:=aZ (λs=>uV ((aA (qR (cw (kC (0:Int)) (fL:_->Res (List Int))))) s) λa s=>bndO (jx a) s λb=>.ok b s)
def lw:qL:=fX (aA (aG (nB false) (pC (·.vdq)) (kC (0:Int))))
 lv
 bc
def ql:qL:=a8 (λa s=>{s with v2q:=some a}) (aA (aI Nm (pC (·.vAq))))
def ik:qL:=aZ (λs=>uV ((aA (kC ())) s) λa s=>bndO ((vq:Unit->Res (Option (List Int))) a) s λb=>.ok b s)
def qk:qL:=fX (aA (aI (kM false kA) (vC (·.v2q))))
 ik
 bc
def xa:qL:=aZ (λs=>uV ((aA (aI D1 (aI fK (vC (·.v2q))))) s) λa s=>bndO (jx a) s λb=>.ok b s)
def zr:qL:=ag lw
 (ag ql
 (ag qk
 xa))
def xH(b:Int)(a:List (Int×Int×(List Int))):OutC S_bf9 (Option (List Int)):=bb (some none) (zr ⟨b,a,none⟩)
def SG:Cl.TJ An (eO (eL D.int)) Gv zr:=aa (a6 (ac (am (ae (gi false) xp xk)))
 (aw (iV iu (ac (cu (bB xk cq)))))
 az)
 (aa (xs (ac (fk QK xp)))
 (aa (a6 (ac (am (dF (gv (λ_=>rfl)) xv)))
 (aw (iV nC (ac xk)))
 az)
 (aw (iV iu (ac (fk Yg (a9 bN xv)))))))
def ID(b:Int)(a:List (Int×Int×(List Int))):SimO An (eO (eL D.int)) (AK [D.int b,(eL (u3 D.int D.int (eL D.int))) a]) (xH b a):=cF (d:=none) rfl SG rfl
structure S_bh9 where
 vtq:(Option (List Int))
def Al:S_bh9->P1:=λs=>[some ((eO (eL D.int)) s.vtq)]
abbrev BQ:=S_bh9->FlC S_bh9 (Option (List Int))
def lu:BQ:=aZ (λs=>uV ((aA (kC ())) s) λa s=>bndO ((vq:Unit->Res (Option (List Int))) a) s λb=>.ok b s)
def qi:BQ:=fX (aA (aI (kM false kA) (pC (·.vtq))))
 lu
 bc
def w8:BQ:=aZ (λs=>uV ((aA (aI Jz (aI fK (pC (·.vtq))))) s) λa s=>bndO (jx a) s λb=>.ok b s)
def zp:BQ:=ag qi
 w8
def ng(a:Option (List Int)):OutC S_bh9 (Option (List Int)):=bb (some none) (zp ⟨a⟩)
def SE:Cl.TJ Al (eO (eL D.int)) Gs zp:=aa (a6 (ac (am (dF (gv (λ_=>rfl)) xp)))
 (aw (iV nC (ac xk)))
 az)
 (aw (iV iu (ac (aD QL (a9 bN (l9 (Ep (tq (λ_=>rfl))) xp))))))
def yW(a:Option (List Int)):SimO Al (eO (eL D.int)) (vJ [(eO (eL D.int)) a]) (ng a):=cF (d:=none) rfl SE rfl
structure S_ca9 where
 veq:(List Int)
 v5q:Int
def zY:S_ca9->P1:=λs=>[some ((eL D.int) s.veq),some (D.int s.v5q)]
abbrev Od:=S_ca9->FlC S_ca9 Unit
def wp:Od:=fX (aA (DN (aG LM (aG Hc (pC (·.veq)) (kC (0:Int))) (kC (0:Int))) (aG geC (aG Nk (pC (·.veq)) (kC (0:Int))) (pC (·.v5q)))))
 q9
 bc
def y6:Od:=wp
def sN(a:List Int)(b:Int):OutC S_ca9 Unit:=bb (some ()) (y6 ⟨a,b⟩)
def Si:Cl.TJ zY eN F6 y6:=a6 (ac (g6 (am (ae CH (ae Lk xp xk) xk)) (am (ae Yj (ae QJ xp xk) xp))))
 gL
 az
def yV(a:List Int)(b:Int):SimO zY eN (vI [(eL D.int) a,D.int b]) (sN a b):=cF (d:=()) rfl Si rfl
structure S_i9 where
 vxq:GΩ
 veq:(List Int)
def EQ:S_i9->P1:=λs=>[some (ah s.vxq),some ((eL D.int) s.veq)]
abbrev Xg:=S_i9->FlC S_i9 Unit
def Bt:Xg:=aC (aA (bK sN (pC (·.veq)) (aI (λg=>.ok g.hω) (pC (·.vxq)))))
def IW:Xg:=Bt
def rj(b:GΩ)(a:List Int):OutC S_i9 Unit:=bb (some ()) (IW ⟨b,a⟩)
def WN:Cl.TJ EQ eN NF IW:=ak (ac (bF (λb a=>yV b a) xp (bR (λ_=>rfl) (aD bL xp))))
def qA(b:GΩ)(a:List Int):SimO EQ eN (tS [ah b,(eL D.int) a]) (rj b a):=cF (d:=()) rfl WN rfl
structure S_bb9 where
 vxq:PostT
def Ar:S_bb9->P1:=λs=>[some (aS s.vxq)]
abbrev Oh:=S_bb9->FlC S_bb9 (List (Option (List Int)))
def xh:Oh:=aZ (aA (cP (aI (λg=>.ok g.roads) (pC (·.vxq))) (λ_=>.ok true) (jI ng (pC λp=>p.1))))
def zx:Oh:=xh
def B6(a:PostT):OutC S_bb9 (List (Option (List Int))):=bb none (zx ⟨a⟩)
def SL:Cl.TJ Ar (eL (eO (eL D.int))) GA zx:=aw (ac (dO (bZ (aD dM xp)) oO (t7 (λa=>yW a) xp)))
def S6(a:PostT):SimO Ar (eL (eO (eL D.int))) (GX [aS a]) (B6 a):=d9 SL rfl
structure S_bc9 where
 vxq:PostT
def Aq:S_bc9->P1:=λs=>[some (aS s.vxq)]
abbrev Og:=S_bc9->FlC S_bc9 (List (Int×Int×(Option (List Int))))
def xg:Og:=aZ (aA (cP (aI rY (aI (λg=>.ok g.letters) (pC (·.vxq)))) (λ_=>.ok true) (fe (aG jr (pC λp=>p.1) (kC (0:Int))) (fe (aG jr (pC λp=>p.1) (kC (1:Int))) (jI ng (aG Sa (aI (λg=>.ok g.letters) (pC λp=>p.2.vxq)) (pC λp=>p.1)))))))
def zw:Og:=xg
def sQ(a:PostT):OutC S_bc9 (List (Int×Int×(Option (List Int)))):=bb none (zw ⟨a⟩)
def SK:Cl.TJ Aq (eL (u3 D.int D.int (eO (eL D.int)))) Gz zw:=aw (ac (dO (L5 (aD cR xp)) oO (t8 (ae lP xp xk) (ae lP xp xk) (t7 (λa=>yW a) (ae tM (aD cR xp) xp)))))
def yY(a:PostT):SimO Aq (eL (u3 D.int D.int (eO (eL D.int)))) (vL [aS a]) (sQ a):=d9 SK rfl
structure S_bk9 where
 v9q:(DI Int)
 v6q:(DI Int)
 vyq:P0
 vdq:Int
 vCq:(List (Option (List Int)))
 v2q:Option (Option (List Int))
 vtq:Option (Option (List Int))
 vjq:Option (List Int)
def Ai:S_bk9->P1:=λs=>[some ((aP D.int) s.v9q),some ((aP D.int) s.v6q),some ((eL (js D.int D.int)) s.vyq),some (D.int s.vdq),some ((eL (eO (eL D.int))) s.vCq),s.v2q.map (eO (eL D.int)),s.vtq.map (eO (eL D.int)),s.vjq.map (eL D.int)]
abbrev iE:=S_bk9->FlC S_bk9 (Option (List Int))
def lq:iE:=aZ (λs=>uV ((aA (qR (cw (kC (0:Int)) (fL:_->Res (List Int))))) s) λa s=>bndO (jx a) s λb=>.ok b s)
def pW:iE:=fX (aA (aG (nB false) (pC (·.vdq)) (kC (0:Int))))
 lq
 bc
def wZ:iE:=a8 (λa s=>{s with v2q:=some a}) (λs=>uV ((aA (kC ())) s) λa s=>bndO ((vq:Unit->Res (Option (List Int))) a) s λb=>.ok b s)
def cU:iE:=fX (aA (DN (aI (kM false kA) (vC (·.vtq))) (aG (HI false) (pC (·.vdq)) (aI fK (vC (·.vtq))))))
 Mf
 bc
def fy:iE:=fX (aA (aG Db (aI gr (cP (aI fK (vC (·.vtq))) (aG (HI false) (fe (pC λp=>p.2.vdq) (pC λp=>p.1)) (pC λp=>p.2.vyq)) (pC λp=>p.1))) (kC (0:Int))))
 Mf
 bc
def ii:iE:=a8 (λa s=>{s with vjq:=some a}) (aA (aG qW (qR (cw (pC (·.vdq)) (fL:_->Res (List Int)))) (aI fK (vC (·.vtq)))))
def ft:iE:=a8 (λa s=>{s with v2q:=some a}) (λs=>uV ((aA (vC (·.vjq))) s) λa s=>bndO (jx a) s λb=>.ok b s)
def ig:iE:=fX (aA (DN (aI (kM false kA) (vC (·.v2q))) (aG Wh (iF xB (pC (·.v9q)) (pC (·.v6q)) (vC (·.vjq))) (iF xB (pC (·.v9q)) (pC (·.v6q)) (aI fK (vC (·.v2q)))))))
 ft
 bc
def je:iE:=ag cU
 (ag fy
 (ag ii
 ig))
def wY:iE:=c9 (pC (·.vCq)) (λa s=>{s with vtq:=some a})
 je
def wX:iE:=aZ (aA (vC (·.v2q)))
def zm:iE:=ag pW
 (ag wZ
 (ag wY
 wX))
def BZ(c:DI Int)(d:DI Int)(e:P0)(a:Int)(b:List (Option (List Int))):OutC S_bk9 (Option (List Int)):=bb (some none) (zm ⟨c,d,e,a,b,none,none,none⟩)
def SB:Cl.TJ Ai (eO (eL D.int)) Go zm:=aa (a6 (ac (am (ae (gi false) xp xk)))
 (aw (iV iu (ac (cu (bB xk cq)))))
 az)
 (aa (xs (iV nC (ac xk)))
 (aa (bO (bZ xp) (λ_ _=>rfl)
 (aa (a6 (ac (g6 (am (dF (gv (λ_=>rfl)) xv)) (am (ae (rK d4 (by decide)) xp (a9 bN xv)))))
 D0
 az)
 (aa (a6 (ac (am (ae yw (aD cT (dO (bZ (a9 bN xv)) (am (ae (rK (oU d4 d4) (by decide)) (aQ xp xp) xp)) xp)) xk)))
 D0
 az)
 (aa (xs (ac (ae Ax (cu (bB xp cq)) (a9 bN xv))))
 (a6 (ac (g6 (am (dF (gv (λ_=>rfl)) xv)) (am (ae VC (jR (λc b a=>IA c b a) xp xp xv) (jR (λc b a=>IA c b a) xp xp (a9 bN xv))))))
 (xs (iV iu (ac xv)))
 az)))))
 (aw (ac xv))))
def S0(c:DI Int)(e:DI Int)(f:P0)(a:Int)(b:List (Option (List Int))):SimO Ai (eO (eL D.int)) (GT [(aP D.int) c,(aP D.int) e,(eL (js D.int D.int)) f,D.int a,(eL (eO (eL D.int))) b]) (BZ c e f a b):=cF (d:=none) rfl SB rfl
structure S_bn9 where
 v4q:Int
 vzq:Int
 v6q:Option (DI Int)
 vfq:Option Int
 vtq:Option (List Int)
def Ae:S_bn9->P1:=λs=>[some (D.int s.v4q),some (D.int s.vzq),s.v6q.map (aP D.int),s.vfq.map D.int,s.vtq.map (eL D.int)]
abbrev jA:=S_bn9->FlC S_bn9 (DI Int)
def pM:jA:=a8 (λa s=>{s with v6q:=some a}) (aA (kC ([]:DI Int)))
def li:jA:=aZ (CL (λs=>s.v6q) (λs=>{s with v6q:=none}))
def pL:jA:=fX (aA (aG LM (pC (·.vzq)) (kC (2:Int))))
 li
 bc
def pK:jA:=a8 (λa s=>{s with v4q:=a}) (aA (aG dC (aG mw (aG CM (pC (·.v4q)) (kC (48271:Int))) (kC (17:Int))) (kC (2147483647:Int))))
def pJ:jA:=a8 (λa s=>{s with vtq:=some a}) (aA (iF BW (aG gy (pC (·.v4q)) (kC (9:Int))) (aG mw (kC (1:Int)) (aG dC (pC (·.v4q)) (aG ya (pC (·.vzq)) (kC (1:Int))))) (pC (·.vzq))))
def pH:jA:=i3 (λs=>s.v6q) (λs y=>{s with v6q:=some y}) (aI Jz (vC (·.vtq))) (aA (aG ya (aG dC (aG gy (pC (·.v4q)) (kC (5:Int))) (kC (9:Int))) (kC (4:Int))))
def qy:jA:=ag pK
 (ag pJ
 pH)
def wT:jA:=c9 (aI (gM 0) (aG dC (pC (·.v4q)) (kC (4:Int)))) (λa s=>{s with vfq:=some a})
 qy
def wS:jA:=aZ (CL (λs=>s.v6q) (λs=>{s with v6q:=none}))
def uS:jA:=ag pM
 (ag pL
 (ag wT
 wS))
def xE(b:Int)(a:Int):OutC S_bn9 (DI Int):=bb none (uS ⟨b,a,none,none,none⟩)
def Sy:Cl.TJ Ae (aP D.int) Gk uS:=aa (xs (ac (t9 rfl)))
 (aa (a6 (ac (am (ae CH xp xk)))
 (aw (iU (λ_=>rfl) (λ_=>rfl)))
 az)
 (aa (bO (fY (ae bU xp xk)) (λ_ _=>rfl)
 (aa (xs (ac (ae bU (ae iT (ae vm xp xk) xk) xk)))
 (aa (xs (ac (jR (λc b a=>SW c b a) (ae d7 xp xk) (ae iT xk (ae bU xp (ae rJ xp xk))) xp)))
 (dI (λ_=>rfl) (λ_ _=>rfl) (aD vk xv) (ac (ae rJ (ae bU (ae d7 xp xk) xk) xk))))))
 (aw (iU (λ_=>rfl) (λ_=>rfl)))))
def SZ(b:Int)(a:Int):SimO Ae (aP D.int) (GR [D.int b,D.int a]) (xE b a):=d9 Sy rfl
structure S_bt9 where
 vaq:(Option (List Int))
 v7q:(Option (List Int))
 vdq:Option Int
def z9:S_bt9->P1:=λs=>[some ((eO (eL D.int)) s.vaq),some ((eO (eL D.int)) s.v7q),s.vdq.map D.int]
abbrev lG:=S_bt9->FlC S_bt9 Bool
def lc:lG:=aZ (aA (aI (kM false kA) (pC (·.vaq))))
def o4:lG:=fX (aA (aI (kM false kA) (pC (·.v7q))))
 lc
 bc
def uN:lG:=aZ (aA (kC false))
def wH:lG:=fX (aA (DN (aI nY (aI (Vx false true) (pC (·.vaq)))) (aG (nB true) (aI gr (aI fK (pC (·.vaq)))) (aI gr (aI fK (pC (·.v7q)))))))
 uN
 bc
def o3:lG:=aZ (aA (kC false))
def jZ:lG:=fX (aA (aI nY (jI BU (vC (·.vdq)))))
 o3
 bc
def wG:lG:=c9 (aI fK (pC (·.vaq))) (λa s=>{s with vdq:=some a})
 jZ
def wF:lG:=aZ (aA (aG (nB false) (pC (·.vaq)) (pC (·.v7q))))
def uR:lG:=ag o4
 (ag wH
 (ag wG
 wF))
def nc(a:Option (List Int))(b:Option (List Int)):OutC S_bt9 Bool:=bb none (uR ⟨a,b,none⟩)
def Sr:Cl.TJ z9 D.bl Ge uR:=aa (a6 (ac (am (dF (gv (λ_=>rfl)) xp)))
 (aw (ac (dF (gv (λ_=>rfl)) xp)))
 az)
 (aa (a6 (ac (g6 (g7 (am (fk (QG (e:=(eL D.int)) rfl (λ_=>rfl)) xp))) (am (ae (gi true) (aD cT (a9 bN xp)) (aD cT (a9 bN xp))))))
 (aw (ac xk))
 az)
 (aa (bO (bZ (a9 bN xp)) (λ_ _=>rfl)
 (a6 (ac (g7 (am (t7 (λa=>SR a) xv))))
 (aw (ac xk))
 az))
 (aw (ac (ae (Aw (A7 (wc d4) (k8 _)) (by decide) false) xp xp)))))
def uP(a:Option (List Int))(b:Option (List Int)):SimO z9 D.bl (rQ [(eO (eL D.int)) a,(eO (eL D.int)) b]) (nc a b):=cj Sr rfl
structure S_by9 where
 vcq:GΩ
 vdq:Int
 vtq:(Option (List Int))
def z0:S_by9->P1:=λs=>[some (ah s.vcq),some (D.int s.vdq),some ((eO (eL D.int)) s.vtq)]
abbrev BO:=S_by9->FlC S_by9 Bool
def di:BO:=aZ (aA (kC false))
def jb:BO:=fX (aA (DN (aI (kM false kA) (pC (·.vtq))) (DN (aG (nB false) (pC (·.vdq)) (kC (0:Int))) (aG (HI false) (pC (·.vdq)) (aI fK (pC (·.vtq)))))))
 di
 bc
def wu:BO:=aZ (aA (aI nY (iF MF (pC (·.vcq)) (pC (·.vdq)) (aI fK (pC (·.vtq))))))
def y8:BO:=ag jb
 wu
def qO(b:GΩ)(a:Int)(c:Option (List Int)):OutC S_by9 Bool:=bb none (y8 ⟨b,a,c⟩)
def Sk:Cl.TJ z0 D.bl F8 y8:=aa (a6 (ac (g6 (am (dF (gv (λ_=>rfl)) xp)) (g6 (am (ae (gi false) xp xk)) (am (ae (rK d4 (by decide)) xp (a9 bN xp))))))
 (aw (ac xk))
 az)
 (aw (ac (aD Nh (l8 (λ_=>rfl) (λc b a=>W3 c b a) xp xp (a9 bN xp)))))
def Iz(b:GΩ)(a:Int)(c:Option (List Int)):SimO z0 D.bl (AF [ah b,D.int a,(eO (eL D.int)) c]) (qO b a c):=cj Sk rfl
structure S_bz9 where
 vCq:(List (Option (List Int)))
 v5q:Int
 vtq:Option (Option (List Int))
def zZ:S_bz9->P1:=λs=>[some ((eL (eO (eL D.int))) s.vCq),some (D.int s.v5q),s.vtq.map (eO (eL D.int))]
abbrev BN:=S_bz9->FlC S_bz9 Unit
def ja:BN:=aC (aA (bK sN (aI fK (vC (·.vtq))) (pC (·.v5q))))
def hC:BN:=fX (aA (aI (kM true kA) (vC (·.vtq))))
 ja
 bc
def wq:BN:=c9 (pC (·.vCq)) (λa s=>{s with vtq:=some a})
 hC
def y7:BN:=wq
def xy(b:List (Option (List Int)))(a:Int):OutC S_bz9 Unit:=bb (some ()) (y7 ⟨b,a,none⟩)
def Sj:Cl.TJ zZ eN F7 y7:=bO (bZ xp) (λ_ _=>rfl)
 (a6 (ac (am (dF (gv (λ_=>rfl)) xv)))
 (ak (ac (bF (λb a=>yV b a) (a9 bN xv) xp)))
 az)
def Iy(b:List (Option (List Int)))(a:Int):SimO zZ eN (AE [(eL (eO (eL D.int))) b,D.int a]) (xy b a):=cF (d:=()) rfl Sj rfl
structure S_e9 where
 vxq:GΩ
 v0q:Int
 v1q:Int
 vqq:Int
def EU:S_e9->P1:=λs=>[some (ah s.vxq),some (D.int s.v0q),some (D.int s.v1q),some (D.int s.vqq)]
abbrev Tt:=S_e9->FlC S_e9 Unit
def Bz:Tt:=aC (aA (bK rj (pC (·.vxq)) (qR (cw (pC (·.v0q)) (cw (pC (·.v1q)) (fL:_->Res (List Int)))))))
def By:Tt:=i3 (λs=>some s.vxq.lω) (λs y=>{s with vxq:={s.vxq with lω:=y}}) (aI ce (fe (pC (·.v0q)) (pC (·.v1q)))) (aA (pC (·.vqq)))
def I0:Tt:=ag Bz
 By
def MK(a:GΩ)(d:Int)(c:Int)(b:Int):OutC S_e9 Unit:=bb (some ()) (I0 ⟨a,d,c,b⟩)
def WR:Cl.TJ EU eN NK I0:=aa (ak (ac (dh (λ_=>rfl) (λb a=>qA b a) xp (cu (bB xp (bB xp cq))))))
 (dI (λ_=>rfl) (λ_ _=>rfl) (a9 bv (aQ xp xp)) (ac xp))
def W7(a:GΩ)(e:Int)(c:Int)(b:Int):SimO EU eN (RC [ah a,D.int e,D.int c,D.int b]) (MK a e c b):=cF (d:=()) rfl WR rfl
structure S_f9 where
 vxq:GΩ
 v0q:Int
 v1q:Int
def ET:S_f9->P1:=λs=>[some (ah s.vxq),some (D.int s.v0q),some (D.int s.v1q)]
abbrev Ts:=S_f9->FlC S_f9 Int
def Bx:Ts:=aC (aA (bK rj (pC (·.vxq)) (qR (cw (pC (·.v0q)) (cw (pC (·.v1q)) (fL:_->Res (List Int)))))))
def Bw:Ts:=aZ (aA (HN (aI (λg=>.ok g.lω) (pC (·.vxq))) (aI ce (fe (pC (·.v0q)) (pC (·.v1q)))) (kC (0:Int))))
def IZ:Ts:=ag Bx
 Bw
def MI(a:GΩ)(c:Int)(b:Int):OutC S_f9 Int:=bb none (IZ ⟨a,c,b⟩)
def WQ:Cl.TJ ET D.int NI IZ:=aa (ak (ac (dh (λ_=>rfl) (λb a=>qA b a) xp (cu (bB xp (bB xp cq))))))
 (aw (ac (bR (λ_=>rfl) (AY (aD gh xp) (a9 bv (aQ xp xp)) xk))))
def W6(a:GΩ)(c:Int)(b:Int):SimO ET D.int (RB [ah a,D.int c,D.int b]) (MI a c b):=cj WQ rfl
structure S_g9 where
 vxq:GΩ
 v0q:Int
def ES:S_g9->P1:=λs=>[some (ah s.vxq),some (D.int s.v0q)]
abbrev Tr:=S_g9->FlC S_g9 (List Int)
def Bv:Tr:=aC (aA (bK rj (pC (·.vxq)) (qR (cw (pC (·.v0q)) (fL:_->Res (List Int))))))
def Bu:Tr:=aZ (aA (iF MM (pC (·.vxq)) (aI (λg=>.ok g.U) (pC (·.vxq))) (pC (·.v0q))))
def IY:Tr:=ag Bv
 Bu
def Jt(a:GΩ)(b:Int):OutC S_g9 (List Int):=bb none (IY ⟨a,b⟩)
def WP:Cl.TJ ES (eL D.int) NH IY:=aa (ak (ac (dh (λ_=>rfl) (λb a=>qA b a) xp (cu (bB xp cq)))))
 (aw (ac (l8 (λ_=>rfl) (λb a c=>W9 b a c) xp (aD dN xp) xp)))
def N7(a:GΩ)(b:Int):SimO ES (eL D.int) (LJ [ah a,D.int b]) (Jt a b):=d9 WP rfl
structure S_j9 where
 vxq:GΩ
 vtq:(List Int)
def EO:S_j9->P1:=λs=>[some (ah s.vxq),some ((eL D.int) s.vtq)]
abbrev Jh:=S_j9->FlC S_j9 Unit
def Bs:Jh:=aC (aA (bK rj (pC (·.vxq)) (pC (·.vtq))))
def Br:Jh:=fX (aA (aG LM (aI gr (pC (·.vtq))) (kC (2:Int))))
 q9
 bc
def Bq:Jh:=fX (aA (aG (nB true) (aG jr (pC (·.vtq)) (aI CK (kC (1:Int)))) (kC (0:Int))))
 q9
 bc
def Bp:Jh:=fX (aA (aG (nB true) (aI tV (pC (·.vtq))) (aI gr (pC (·.vtq)))))
 q9
 bc
def IV:Jh:=ag Bs
 (ag Br
 (ag Bq
 Bp))
def Js(a:GΩ)(b:List Int):OutC S_j9 Unit:=bb (some ()) (IV ⟨a,b⟩)
def WM:Cl.TJ EO eN NE IV:=aa (ak (ac (dh (λ_=>rfl) (λb a=>qA b a) xp xp)))
 (aa (a6 (ac (am (ae CH (aD cT xp) xk)))
 gL
 az)
 (aa (a6 (ac (am (ae (gi true) (ae dW xp (aD Av xk)) xk)))
 gL
 az)
 (a6 (ac (am (ae (gi true) (aD FN xp) (aD cT xp))))
 gL
 az)))
def N6(a:GΩ)(b:List Int):SimO EO eN (LI [ah a,(eL D.int) b]) (Js a b):=cF (d:=()) rfl WM rfl
structure S_k9 where
 vxq:GΩ
 v0q:Int
 v1q:Int
def EN:S_k9->P1:=λs=>[some (ah s.vxq),some (D.int s.v0q),some (D.int s.v1q)]
abbrev Tq:=S_k9->FlC S_k9 Unit
def Bn:Tq:=aC (aA (bK rj (pC (·.vxq)) (qR (cw (pC (·.v0q)) (cw (pC (·.v1q)) (fL:_->Res (List Int)))))))
def Bm:Tq:=fX (aA (aG (nB false) (pC (·.v0q)) (pC (·.v1q))))
 q9
 bc
def IU:Tq:=ag Bn
 Bm
def DK(a:GΩ)(c:Int)(b:Int):OutC S_k9 Unit:=bb (some ()) (IU ⟨a,c,b⟩)
def WL:Cl.TJ EN eN ND IU:=aa (ak (ac (dh (λ_=>rfl) (λb a=>qA b a) xp (cu (bB xp (bB xp cq))))))
 (a6 (ac (am (ae (gi false) xp xp)))
 gL
 az)
def Iv(a:GΩ)(c:Int)(b:Int):SimO EN eN (GH [ah a,D.int c,D.int b]) (DK a c b):=cF (d:=()) rfl WL rfl
structure S_o9 where
 vxq:GΩ
 vlq:Option GΩ
def tu:S_o9->P1:=λs=>[some (ah s.vxq),s.vlq.map ah]
abbrev zK:=S_o9->FlC S_o9 GΩ
def uI:zK:=a8 (λa s=>{s with vlq:=some a}) (aA (KJ gk (aI (λg=>.ok g.hω) (pC (·.vxq)))))
def uH:zK:=aC (sT (λs=>s.vlq.map (·.U)) (λs y=>{s with vlq:=s.vlq.map λo=>{o with U:=y}}) (aI (λg=>.ok g.U) (pC (·.vxq))))
def uG:zK:=aC (sT (λs=>s.vlq.map (·.lω)) (λs y=>{s with vlq:=s.vlq.map λo=>{o with lω:=y}}) (aI (λg=>.ok g.lω) (pC (·.vxq))))
def uF:zK:=aC (sT (λs=>s.vlq.map (·.sω)) (λs y=>{s with vlq:=s.vlq.map λo=>{o with sω:=y}}) (aI (λg=>.ok g.sω) (pC (·.vxq))))
def uE:zK:=aC (sT (λs=>s.vlq.map (·.wω)) (λs y=>{s with vlq:=s.vlq.map λo=>{o with wω:=y}}) (aI (λg=>.ok g.wω) (pC (·.vxq))))
def Me:zK:=aZ (CL (λs=>s.vlq) (λs=>{s with vlq:=none}))
def IQ:zK:=ag uI
 (ag uH
 (ag uG
 (ag uF
 (ag uE
 Me))))
def Jq(a:GΩ):OutC S_o9 GΩ:=bb none (IQ ⟨a,none⟩)
def WH:Cl.TJ tu ah Nz IQ:=aa (xs (ac (yS jy (bR (λ_=>rfl) (aD bL xp)))))
 (aa (ak (tN (λs=>by cases s with|mk b a=>cases a<;>rfl) (λs y=>by cases s with|mk b a=>cases a<;>rfl) (λ_=>rfl) (aD dN xp)))
 (aa (ak (tN (λs=>by cases s with|mk b a=>cases a<;>rfl) (λs y=>by cases s with|mk b a=>cases a<;>rfl) (λ_=>rfl) (aD gh xp)))
 (aa (ak (tN (λs=>by cases s with|mk b a=>cases a<;>rfl) (λs y=>by cases s with|mk b a=>cases a<;>rfl) (λ_=>rfl) (aD iS xp)))
 (aa (ak (tN (λs=>by cases s with|mk b a=>cases a<;>rfl) (λs y=>by cases s with|mk b a=>cases a<;>rfl) (λ_=>rfl) (aD mG xp)))
 (aw (iU (λ_=>rfl) (λ_=>rfl)))))))
def W1(a:GΩ):SimO tu ah (yF [ah a]) (Jq a):=d9 WH rfl
structure S_z9 where
 vxq:PostT
 v0q:Int
def Ez:S_z9->P1:=λs=>[some (aS s.vxq),some (D.int s.v0q)]
abbrev Tk:=S_z9->FlC S_z9 (Option (List Int))
def A9:Tk:=aC (aA (bK rj (aI (λg=>.ok g.guild) (pC (·.vxq))) (qR (cw (pC (·.v0q)) (fL:_->Res (List Int))))))
def A8:Tk:=aZ (aA (jI ng (aG jr (aI (λg=>.ok g.roads) (pC (·.vxq))) (pC (·.v0q)))))
def IF:Tk:=ag A9
 A8
def DG(a:PostT)(b:Int):OutC S_z9 (Option (List Int)):=bb (some none) (IF ⟨a,b⟩)
def Wx:Cl.TJ Ez (eO (eL D.int)) Nn IF:=aa (ak (ac (dh (λ_=>rfl) (λa b=>qA a b) (aD cN xp) (cu (bB xp cq)))))
 (aw (ac (t7 (λa=>yW a) (ae dW (aD dM xp) xp))))
def NZ(a:PostT)(b:Int):SimO Ez (eO (eL D.int)) (LB [aS a,D.int b]) (DG a b):=cF (d:=none) rfl Wx rfl
structure S_cc9 where
 vBq:(List (Option (List Int)))
 vdq:Int
 vbq:Option (List Int)
 v8q:Option (Option (List Int))
def tD:S_cc9->P1:=λs=>[some ((eL (eO (eL D.int))) s.vBq),some (D.int s.vdq),s.vbq.map (eL D.int),s.v8q.map (eO (eL D.int))]
abbrev gJ:=S_cc9->FlC S_cc9 (Str×(List Int))
def oY:gJ:=aC (aA (bK sN (qR (cw (pC (·.vdq)) (fL:_->Res (List Int)))) (aI gr (pC (·.vBq)))))
def oX:gJ:=aC (aA (bK xy (pC (·.vBq)) (aI gr (pC (·.vBq)))))
def oW:gJ:=a8 (λa s=>{s with vbq:=some a}) (aA (qR (cw (pC (·.vdq)) (fL:_->Res (List Int)))))
def jT:gJ:=a8 (λa s=>{s with v8q:=some a}) (aA (aG jr (pC (·.vBq)) (aG jr (vC (·.vbq)) (aI CK (kC (1:Int))))))
def i9:gJ:=aZ (KD (aA (kC ("stops" : Str))) (CL (λs=>s.vbq) (λs=>{s with vbq:=none})))
def g9:gJ:=fX (aA (aI (kM false kA) (vC (·.v8q))))
 i9
 bc
def i8:gJ:=aZ (KD (aA (kC ("rings" : Str))) (CL (λs=>s.vbq) (λs=>{s with vbq:=none})))
def jS:gJ:=fX (aA (aG (HI false) (aG jr (aI fK (vC (·.v8q))) (kC (1:Int))) (vC (·.vbq))))
 i8
 bc
def oV:gJ:=aC (NR (λs=>s.vbq) (λs y=>{s with vbq:=some y}) nl (aG jr (aI fK (vC (·.v8q))) (kC (1:Int))))
def dk:gJ:=ag jT
 (ag g9
 (ag jS
 oV))
def wm:gJ:=uZ (aA (aG (nB true) (aG jr (vC (·.vbq)) (aI CK (kC (1:Int)))) (kC (0:Int))))
 dk 100000
def la:gJ:=aZ (KD (aA (kC ("comes" : Str))) (CL (λs=>s.vbq) (λs=>{s with vbq:=none})))
def yZ:gJ:=ag oY
 (ag oX
 (ag oW
 (ag wm
 la)))
def BS(a:List (Option (List Int)))(b:Int):OutC S_cc9 (Str×(List Int)):=bb none (yZ ⟨a,b,none,none⟩)
def Sf:Cl.TJ tD (js D.str (eL D.int)) F4 yZ:=aa (ak (ac (bF (λb a=>yV b a) (cu (bB xp cq)) (aD cT xp))))
 (aa (ak (ac (bF (λb a=>Iy b a) xp (aD cT xp))))
 (aa (xs (ac (cu (bB xp cq))))
 (aa (u7 (rep:=tD) (ac (am (ae (gi true) (ae dW xv (aD Av xk)) xk)))
 (aa (xs (ac (ae dW xp (ae dW xv (aD Av xk)))))
 (aa (a6 (ac (am (dF (gv (λ_=>rfl)) xv)))
 (aw (FR (ac xk) (iU (λ_=>rfl) (λ_=>rfl))))
 az)
 (aa (a6 (ac (am (ae (rK d4 (by decide)) (ae dW (a9 bN xv) xk) xv)))
 (aw (FR (ac xk) (iU (λ_=>rfl) (λ_=>rfl))))
 az)
 (ak (rM (λ_=>rfl) (λ_ _=>rfl) vZ (bR (λ_=>rfl) (ae dW (a9 bN xv) xk))))))) 100000)
 (aw (FR (ac xk) (iU (λ_=>rfl) (λ_=>rfl)))))))
def SQ(a:List (Option (List Int)))(b:Int):SimO tD (js D.str (eL D.int)) (GJ [(eL (eO (eL D.int))) a,D.int b]) (BS a b):=cj Sf rfl
structure S_c9 where
 vxq:GΩ
 v0q:Int
 v1q:Int
def EW:S_c9->P1:=λs=>[some (ah s.vxq),some (D.int s.v0q),some (D.int s.v1q)]
abbrev Jj:=S_c9->FlC S_c9 Unit
def BI:Jj:=aC (aA (iF DK (pC (·.vxq)) (pC (·.v0q)) (pC (·.v1q))))
def BH:Jj:=fX (aA (aG (ud false) (aI ce (fe (pC (·.v0q)) (pC (·.v1q)))) (aI (λg=>.ok g.U) (pC (·.vxq)))))
 q9
 bc
def BG:Jj:=i3 (λs=>some s.vxq.U) (λs y=>{s with vxq:={s.vxq with U:=y}}) (aI ce (fe (pC (·.v0q)) (pC (·.v1q)))) (aA (kC true))
def BF:Jj:=i3 (λs=>some s.vxq.U) (λs y=>{s with vxq:={s.vxq with U:=y}}) (aI ce (fe (pC (·.v1q)) (pC (·.v0q)))) (aA (kC true))
def I9:Jj:=ag BI
 (ag BH
 (ag BG
 BF))
def Ju(a:GΩ)(c:Int)(b:Int):OutC S_c9 Unit:=bb (some ()) (I9 ⟨a,c,b⟩)
def WT:Cl.TJ EW eN NM I9:=aa (ak (ac (l8 (λ_=>rfl) (λc b a=>Iv c b a) xp xp xp)))
 (aa (a6 (ac (am (ae (rL false) (a9 bv (aQ xp xp)) (aD dN xp))))
 gL
 az)
 (aa (dI (λ_=>rfl) (λ_ _=>rfl) (a9 bv (aQ xp xp)) (ac xk))
 (dI (λ_=>rfl) (λ_ _=>rfl) (a9 bv (aQ xp xp)) (ac xk))))
def N8(a:GΩ)(c:Int)(b:Int):SimO EW eN (LL [ah a,D.int c,D.int b]) (Ju a c b):=cF (d:=()) rfl WT rfl
structure S_d9 where
 vxq:GΩ
 v0q:Int
 v1q:Int
def EV:S_d9->P1:=λs=>[some (ah s.vxq),some (D.int s.v0q),some (D.int s.v1q)]
abbrev Ji:=S_d9->FlC S_d9 Unit
def BE:Ji:=aC (aA (iF DK (pC (·.vxq)) (pC (·.v0q)) (pC (·.v1q))))
def BD:Ji:=fX (aA (aG (ud true) (aI ce (fe (pC (·.v0q)) (pC (·.v1q)))) (aI (λg=>.ok g.U) (pC (·.vxq)))))
 q9
 bc
def BC:Ji:=aC (v5 (λs=>some s.vxq.U) (λs y=>{s with vxq:={s.vxq with U:=y}}) (aI ce (fe (pC (·.v0q)) (pC (·.v1q)))))
def BA:Ji:=aC (v5 (λs=>some s.vxq.U) (λs y=>{s with vxq:={s.vxq with U:=y}}) (aI ce (fe (pC (·.v1q)) (pC (·.v0q)))))
def I8:Ji:=ag BE
 (ag BD
 (ag BC
 BA))
def ML(a:GΩ)(c:Int)(b:Int):OutC S_d9 Unit:=bb (some ()) (I8 ⟨a,c,b⟩)
def WS:Cl.TJ EV eN NL I8:=aa (ak (ac (l8 (λ_=>rfl) (λc b a=>Iv c b a) xp xp xp)))
 (aa (a6 (ac (am (ae (rL true) (a9 bv (aQ xp xp)) (aD dN xp))))
 gL
 az)
 (aa (ak (tO (λ_=>rfl) (λ_ _=>rfl) (a9 bv (aQ xp xp))))
 (ak (tO (λ_=>rfl) (λ_ _=>rfl) (a9 bv (aQ xp xp))))))
def W8(a:GΩ)(c:Int)(b:Int):SimO EV eN (RE [ah a,D.int c,D.int b]) (ML a c b):=cF (d:=()) rfl WS rfl
structure S_h9 where
 vxq:GΩ
 vtq:(List Int)
 vEq:Option (Option Int)
def ER:S_h9->P1:=λs=>[some (ah s.vxq),some ((eL D.int) s.vtq),s.vEq.map (eO D.int)]
abbrev DF:=S_h9->FlC S_h9 Int
def uM:DF:=aC (aA (bK Js (pC (·.vxq)) (pC (·.vtq))))
def uL:DF:=a8 (λa s=>{s with vEq:=some a}) (aA (aG Wv (aI (λg=>.ok g.wω) (pC (·.vxq))) (aI Jz (pC (·.vtq)))))
def i7:DF:=aZ (aA (iF MI (pC (·.vxq)) (aG jr (pC (·.vtq)) (kC (0:Int))) (aG jr (pC (·.vtq)) (kC (1:Int)))))
def uK:DF:=fX (aA (aI (kM false kA) (vC (·.vEq))))
 i7
 bc
def uJ:DF:=aZ (λs=>uV ((aA (vC (·.vEq))) s) λa s=>bndO (fK a) s λb=>.ok b s)
def IX:DF:=ag uM
 (ag uL
 (ag uK
 uJ))
def MH(a:GΩ)(b:List Int):OutC S_h9 Int:=bb none (IX ⟨a,b,none⟩)
def WO:Cl.TJ ER D.int NG IX:=aa (ak (ac (dh (λ_=>rfl) (λb a=>N6 b a) xp xp)))
 (aa (xs (ac (bR (HF (λ_=>rfl)) (L7 (aD mG xp) (aD vk (l9 (tq (λ_=>rfl)) xp))))))
 (aa (a6 (ac (am (dF (gv (λ_=>rfl)) xv)))
 (aw (ac (l8 (λ_=>rfl) (λb a c=>W6 b a c) xp (bR (λ_=>rfl) (ae dW xp xk)) (bR (λ_=>rfl) (ae dW xp xk)))))
 az)
 (aw (iV bN (ac xv)))))
def W5(a:GΩ)(b:List Int):SimO ER D.int (RA [ah a,(eL D.int) b]) (MH a b):=cj WO rfl
structure S_l9 where
 vxq:GΩ
 v0q:Int
 v1q:Int
def EM:S_l9->P1:=λs=>[some (ah s.vxq),some (D.int s.v0q),some (D.int s.v1q)]
abbrev To:=S_l9->FlC S_l9 Unit
def Bl:To:=aC (aA (iF DK (pC (·.vxq)) (pC (·.v0q)) (pC (·.v1q))))
def Bk:To:=i3 (λs=>some s.vxq.sω) (λs y=>{s with vxq:={s.vxq with sω:=y}}) (aI ce (fe (pC (·.v0q)) (pC (·.v1q)))) (aA (kC true))
def IT:To:=ag Bl
 Bk
def MG(a:GΩ)(c:Int)(b:Int):OutC S_l9 Unit:=bb (some ()) (IT ⟨a,c,b⟩)
def WK:Cl.TJ EM eN NC IT:=aa (ak (ac (l8 (λ_=>rfl) (λc b a=>Iv c b a) xp xp xp)))
 (dI (λ_=>rfl) (λ_ _=>rfl) (a9 bv (aQ xp xp)) (ac xk))
def W4(a:GΩ)(c:Int)(b:Int):SimO EM eN (Rz [ah a,D.int c,D.int b]) (MG a c b):=cF (d:=()) rfl WK rfl
structure S_p9 where
 vxq:GΩ
 vtq:(List Int)
 vqq:Int
def EI:S_p9->P1:=λs=>[some (ah s.vxq),some ((eL D.int) s.vtq),some (D.int s.vqq)]
abbrev Tn:=S_p9->FlC S_p9 Unit
def Bh:Tn:=aC (aA (bK Js (pC (·.vxq)) (pC (·.vtq))))
def Bg:Tn:=i3 (λs=>some s.vxq.wω) (λs y=>{s with vxq:={s.vxq with wω:=y}}) (aI Jz (pC (·.vtq))) (aA (pC (·.vqq)))
def IP:Tn:=ag Bh
 Bg
def ME(a:GΩ)(b:List Int)(c:Int):OutC S_p9 Unit:=bb (some ()) (IP ⟨a,b,c⟩)
def WG:Cl.TJ EI eN Ny IP:=aa (ak (ac (dh (λ_=>rfl) (λb a=>N6 b a) xp xp)))
 (dI (λ_=>rfl) (λ_ _=>rfl) (aD vk (l9 (tq (λ_=>rfl)) xp)) (ac xp))
def W0(a:GΩ)(b:List Int)(c:Int):SimO EI eN (Rw [ah a,(eL D.int) b,D.int c]) (ME a b c):=cF (d:=()) rfl WG rfl
structure S_be9 where
 vxq:PostT
 vFq:Int
 vrq:Option Int
def nv:S_be9->P1:=λs=>[some (aS s.vxq),some (D.int s.vFq),s.vrq.map D.int]
abbrev Jl:=S_be9->FlC S_be9 Unit
def ka:Jl:=aC (lR sP (λa s=>{s with vxq:=a.vxq}) (pC (·.vxq)) (pC (·.vFq)) (vC (·.vrq)))
def xb:Jl:=c9 (bK Jt (aI (λg=>.ok g.guild) (pC (·.vxq))) (pC (·.vFq))) (λa s=>{s with vrq:=some a})
 ka
def zt:Jl:=xb
def sO(b:PostT)(a:Int):OutC S_be9 Unit:=bb (some ()) (zt ⟨b,a,none⟩)
def SH:Cl.TJ nv eN Gx zt:=bO (bZ (dh (λ_=>rfl) (λb a=>N7 b a) (aD cN xp) xp)) (λ_ _=>rfl)
 (ak (d8 (λ_=>rfl) (λ_ _=>rfl) (λb a c=>yX b a c) xp xp xv))
def IE(b:PostT)(a:Int):SimO nv eN (iy [aS b,D.int a]) (sO b a):=cF (d:=()) rfl SH rfl
def dy(t:GΩ)(n:Nat):PostT:=⟨t,(List.replicate n none).set 0 (some [0]),[],[],[],List.replicate n []⟩
noncomputable def kE(g:GΩ):Res PostT:=match Jq g with
 | .ok t _=>if 1<=g.hω/\g.hω<=60 then (match sO (dy t g.hω.toNat) 0 with
   |.ok _ s=>.ok s.vxq
   |.exc c _=>.exc c
   |.bad=>.bad) else .bad
 |.exc c _=>.exc c
 |.bad=>.bad
def Cp{n:Nat}:∀k,bo (λ_=>.ok true) (ax (.dK [] [])) [] ((List.range k).map λi:Nat=>D.int (n+i))=.ok (List.replicate k (.dK [] [])):=by
 intro k
 have a:∀l:List D,bo (λ_=>.ok true) (ax (.dK [] [])) [] l=.ok (List.replicate l.length (.dK [] [])):=by
  intro l
  induction l with
  |nil=>rfl
  |cons d l b=>rw[bo,b];rfl
 rw[a,YJ,Ad7]
def t4(g:GΩ):SimR aS (gm 1 yE [ah g]) (kE g):=by
 have a:=W1 g;have hsz:lT [ah g]=.ok (.int g.hω) (yj ⟨g⟩):=Iu g;have j:bq 0 "twin" (ah g)=true:=rfl;have b:bq 0 "size" (ah g)=true:=rfl;unfold kE;cases q:Jq g with
 |bad=>trivial
 |exc c s=>
   rw[q]at a;have a:yF [ah g]=.exc c (tu s):=a;show gm 1 yE [ah g]=.exc c;unfold gm yE Mi.run;rw[vH];simp[ai,cz,ar,pm,vr,rg,aB,fG,a,j]
 |ok t s=>
   rw[q]at a;have a:yF [ah g]=.ok (ah t) (tu s):=a;dsimp only;by_cases C:1<=g.hω/\g.hω<=60
   · rw[YG C];obtain⟨n,l⟩:∃n:Nat,g.hω=n:=⟨g.hω.toNat,by omega⟩;have L:1<=n:=by omega
     have K:n<=60:=by omega
     have A:1<=af:=by decide +kernel
     have E:60<af:=by decide +kernel
     have e1:cz 1 "guild" 0 (ar (pm 0 "twin" yF (vr 1) aB)) [some (.obj 1 [] []),some (ah g)]=.nx [some (.obj 1 ["guild"] [ah t]),some (ah g)]:=by
      simp[cz,ar,pm,vr,rg,aB,fG,a,j,mE,ci]
     have X:cz 1 "roads" 0 (ar (bn yk (jL (aj (ax .non) aB)) (pm 0 "size" lT (vr 1) aB))) [some (.obj 1 ["guild"] [ah t]),some (ah g)]=.nx [some (.obj 1 ["guild","roads"] [ah t,.lst (List.replicate n .non)]),some (ah g)]:=by
      have J:yk (.lst [.non]) (.int g.hω)=.ok (.lst (List.replicate n .non)):=by
       have this:=Vz (e:=eN) [()] g.hω;rw[EK (by omega) (by omega) (by rw[Ac0];omega)]at this;have this:yk (.lst [.non]) (.int g.hω)=.ok (eL eN _):=this;rw[this,l];show Res.ok (D.lst _)=Res.ok (D.lst _);rw[show(Int.toNat (n:Int))=n from rfl]
       have r:∀k:Nat,((List.replicate k [()]).flatten.map eN)=List.replicate k D.non:=λk=>by
        induction k with
        |zero=>rfl
        |succ k H=>rw[Zs,ZK,Zr,H];rfl
       rw[r]
      simp[cz,ar,pm,vr,rg,aB,aj,jL,bn,ax,fG,hsz,b,J,mE,ci,A];decide
     have W:mH (dY 1 "roads" 0) (du "roads" 0) (ax (.int 0)) (ar (jL (aj (ax (.int 0)) aB))) [some (.obj 1 ["guild","roads"] [ah t,.lst (List.replicate n .non)]),some (ah g)]=.nx [some (.obj 1 ["guild","roads"] [ah t,.lst ((List.replicate n .non).set 0 (.lst [.int 0]))]),some (ah g)]:=by
      have hi:oB n 0=some 0:=by unfold oB;simp;omega
      have v:¬ (Str.ofString "guild" = Str.ofString "roads"):=by decide
      simp[mH,dY,du,AM,ar,rg,aB,aj,jL,ax,A,bj,c8,v,hi]
     have z:∀(ns:List Str) (vs:List D) (f:Str),ns.length<900->ci ns f=false->cz 1 f 0 (ar (ax (.dT [] []))) [some (.obj 1 ns vs),some (ah g)]=.nx [some (.obj 1 (ns++[f]) (vs++[.dT [] []])),some (ah g)]:=by
      intro ns vs f y w;simp only[cz,ar,ax,Res.up,ge,rg,mE];simp[y,w]
     have V:∀(ns:List Str) (vs:List D) (f:Str),ns.length<900->ci ns f=false->cz 1 f 0 (ar (eJ (dR (pm 0 "size" lT (vr 1) aB)) [] (λ_=>.ok true) (ax (.dK [] [])))) [some (.obj 1 ns vs),some (ah g)]=.nx [some (.obj 1 (ns++[f]) (vs++[.lst (List.replicate n (.dK [] []))])),some (ah g)]:=by
      intro ns vs f y w
      have N:eJ (dR (pm 0 "size" lT (vr 1) aB)) [] (λ_=>.ok true) (ax (.dK [] [])) [some (.obj 1 ns vs),some (ah g)]=.ok (.lst (List.replicate n (.dK [] []))):=by
       have I:dR (pm 0 "size" lT (vr 1) aB) [some (.obj 1 ns vs),some (ah g)]=.ok (rng 0 n):=by
        simp[dR,yb,pm,vr,rg,aB,fG,hsz,b,ax,l];omega
       unfold eJ;rw[I];have M:(rng 0 (n:Int)).length=n:=by unfold rng;simp
       show(if (rng 0 (n:Int)).length<af then (bo _ _ [] (rng 0 (n:Int))).bind λG=>Res.ok (D.lst G) else .bad)=_;rw[M,YG (by omega)]
       have:=Cp (n:=0) n
       unfold rng;rw[show((n:Int)-0).toNat=n by omega];have e0:((List.range n).map λi:Nat=>D.int ((0:Int)+i))=(List.range n).map λi:Nat=>D.int (((0:Nat):Int)+i):=rfl;rw[e0,this];rfl
      simp only[cz,ar,N,Res.up,ge,rg,mE];simp[y,w]
     have P:aS (dy t n)=.obj 1 ["guild","roads","told_last","written_last","letters","standings"] [ah t,.lst ((List.replicate n .non).set 0 (.lst [.int 0])),.dT [] [],.dT [] [],.dT [] [],.lst (List.replicate n (.dK [] []))]:=by
      show D.obj 1 _ [ah t,.lst (((List.replicate n none).set 0 (some [0])).map (eO (eL D.int))),.dT [] [],.dT [] [],.dT [] [],.lst ((List.replicate n []).map (l7 eK))]=_;rw[An4,List.map_replicate,List.map_replicate];rfl
     have m:=IE (dy t n) 0;have p:bq 1 "write_to_all" (aS (dy t n))=true:=rfl
     have Q:∀o x:D,bq 1 "write_to_all" o=true->aE (mm 1 "write_to_all" [(.O 0),.F] iy (vr 0) (aj (ax (.int 0)) aB)) [some o,some x]=(match iy [o,.int 0] with | .ok d T=>.nx (cy [(.O 0),.F] 0 T [some o,some x]) | .exc c T=>.exc c (cy [(.O 0),.F] 0 T [some o,some x]) | .bad=>.bad):=by
      intro o x h;simp[aE,mm,vr,rg,aj,aB,ax,h,bV];cases iy [o,.int 0]<;>rfl
     have U:gm 1 yE [ah g]=(match iy [aS (dy t n),.int 0] with | .ok d T=>(match rg (cy [(.O 0),.F] 0 T [some (aS (dy t n)),some (ah g)]) 0 with|some d=>.ok d|none=>.bad) | .exc c _=>.exc c | .bad=>.bad):=by
      unfold gm yE Mi.run;rw[vH];have S:([D.obj 1 [] [],ah g].map some++List.replicate (2-[D.obj 1 [] [],ah g].length) none)=[some (.obj 1 [] []),some (ah g)]:=rfl;rw[S];simp only[ai,e1,X,W];rw[z _ _ _ (by decide) (by decide)];dsimp only;rw[z _ _ _ (by decide) (by decide)];dsimp only;rw[z _ _ _ (by decide) (by decide)];dsimp only;rw[V _ _ _ (by decide) (by decide)];have R:(D.obj 1 (((((["guild","roads"]:List Str)++[("told_last" : Str)])++[("written_last" : Str)])++[("letters" : Str)])++[("standings" : Str)]) (((([ah t,D.lst ((List.replicate n .non).set 0 (.lst [.int 0]))]++[.dT [] []])++[.dT [] []])++[.dT [] []])++[.lst (List.replicate n (.dK [] []))]))=aS (dy t n):=P.symm;dsimp only;rw[R];rw[Q _ _ p];cases iy [aS (dy t n),.int 0] with
      |ok d T=>rfl
      |exc c T=>rfl
      |bad=>rfl
     rw[U,show g.hω.toNat=n by omega];cases B:sO (dy t n) 0 with
     |bad=>trivial
     |exc c s=>
       rw[B]at m;rw[show iy [aS (dy t n),.int 0]=_ from m];exact rfl
     |ok u s=>
       rw[B]at m;rw[show iy [aS (dy t n),.int 0]=_ from m];exact rfl
   ·rw[on C];trivial
structure S_t9 where
 vxq:PostT
 vdq:Int
 vtq:Option (Option (List Int))
def EF:S_t9->P1:=λs=>[some (aS s.vxq),some (D.int s.vdq),s.vtq.map (eO (eL D.int))]
abbrev zJ:=S_t9->FlC S_t9 Bool
def uz:zJ:=a8 (λa s=>{s with vtq:=some a}) (aA (bK xH (pC (·.vdq)) (aI MN (vC (gI (λs=>some s.vxq.standings) (λs=>some s.vdq))))))
def mX:zJ:=aZ (aA (kC false))
def uy:zJ:=fX (aA (aG (nB false) (vC (·.vtq)) (aG jr (aI (λg=>.ok g.roads) (pC (·.vxq))) (pC (·.vdq)))))
 mX
 bc
def Bd:zJ:=NP (λs=>some s.vxq.roads) (λs y=>{s with vxq:={s.vxq with roads:=y}}) (pC (·.vdq)) (aA (vC (·.vtq)))
def Bc:zJ:=aC (CT sO (λa s=>{s with vxq:=a.vxq}) (pC (·.vxq)) (pC (·.vdq)))
def Bb:zJ:=aZ (aA (kC true))
def IL:zJ:=ag uz
 (ag uy
 (ag Bd
 (ag Bc
 Bb)))
def DH(b:PostT)(a:Int):OutC S_t9 Bool:=bb none (IL ⟨b,a,none⟩)
def WD:Cl.TJ EF D.bl Nu IL:=aa (xs (ac (bF (λb a=>ID b a) xp (aD QH (R7 (Xz (λ_=>rfl) (oA (λ_=>rfl))))))))
 (aa (a6 (ac (am (ae (Aw (A7 (wc d4) (k8 _)) (by decide) false) xv (ae dW (aD dM xp) xp))))
 (aw (ac xk))
 az)
 (aa (JF (λ_=>rfl) (λ_ _=>rfl) xp (ac xv))
 (aa (ak (n6 (λ_=>rfl) (λ_ _=>rfl) (λb a=>IE b a) xp xp))
 (aw (ac xk)))))
def Ir(b:PostT)(a:Int):SimO EF D.bl (GF [aS b,D.int a]) (DH b a):=cj WD rfl
structure S_y9 where
 vxq:PostT
 v0q:Int
 v1q:Int
def EA:S_y9->P1:=λs=>[some (aS s.vxq),some (D.int s.v0q),some (D.int s.v1q)]
abbrev Mu:=S_y9->FlC S_y9 Unit
def ug:Mu:=aC (Xw (λs=>some s.vxq.guild) (λs y=>{s with vxq:={s.vxq with guild:=y}}) (λs=>s.vxq) (Ph (λb a=>.ok (b,a)) (pC (·.v0q)) (pC (·.v1q))) (λo r=>Ju o r.1 r.2))
def uf:Mu:=aC (lR sP (λa s=>{s with vxq:=a.vxq}) (pC (·.vxq)) (aG yz (pC (·.v0q)) (pC (·.v1q))) (aG yA (pC (·.v0q)) (pC (·.v1q))))
def ue:Mu:=aC (lR sP (λa s=>{s with vxq:=a.vxq}) (pC (·.vxq)) (aG yA (pC (·.v0q)) (pC (·.v1q))) (aG yz (pC (·.v0q)) (pC (·.v1q))))
def IG:Mu:=ag ug
 (ag uf
 ue)
def My(a:PostT)(c:Int)(b:Int):OutC S_y9 Unit:=bb (some ()) (IG ⟨a,c,b⟩)
def Wy:Cl.TJ EA eN No IG:=aa (ak (Nj (λ_=>rfl) (λ_ _=>rfl) (λ_=>rfl) (Ut (eR:=(λ(r:Int×Int)=>[D.int r.1,D.int r.2])) (k:=.ok) (f:=λe d=>.ok (e,d)) (e0:=D.int) (e1:=D.int) (λ_ _=>rfl) xp xp) (λo r=>N8 o r.1 r.2) (λ_=>rfl)))
 (aa (ak (d8 (λ_=>rfl) (λ_ _=>rfl) (λc b a=>yX c b a) xp (ae vn xp xp) (ae vp xp xp)))
 (ak (d8 (λ_=>rfl) (λ_ _=>rfl) (λc b a=>yX c b a) xp (ae vp xp xp) (ae vn xp xp))))
def WV(a:PostT)(c:Int)(b:Int):SimO EA eN (Rq [aS a,D.int c,D.int b]) (My a c b):=cF (d:=()) rfl Wy rfl
structure S_bq9 where
 vzq:Int
 vDq:P0
 v9q:(DI Int)
 v6q:(DI Int)
 vyq:P0
 vcq:Option GΩ
 v0q:Option Int
 v1q:Option Int
 vmq:Option (List Int)
 vgq:Option (List Int)
def Ab:S_bq9->P1:=λs=>[some (D.int s.vzq),some ((eL (js D.int D.int)) s.vDq),some ((aP D.int) s.v9q),some ((aP D.int) s.v6q),some ((eL (js D.int D.int)) s.vyq),s.vcq.map ah,s.v0q.map D.int,s.v1q.map D.int,s.vmq.map (kY D.int),s.vgq.map (kY D.int)]
abbrev jg:=S_bq9->FlC S_bq9 GΩ
def pz:jg:=a8 (λa s=>{s with vcq:=some a}) (aA (KJ gk (pC (·.vzq))))
def j5:jg:=aC (lR Ju (λa s=>{s with vcq:=some a.vxq}) (vC (·.vcq)) (vC (·.v0q)) (vC (·.v1q)))
def wO:jg:=c9 (pC (·.vDq)) (λa s=>{s with v0q:=some a.1,v1q:=some a.2})
 j5
def j4:jg:=aC (Lz MK (λa s=>{s with vcq:=some a.vxq}) (vC (·.vcq)) (aG jr (vC (·.vmq)) (kC (0:Int))) (aG jr (vC (·.vmq)) (kC (1:Int))) (aG Sa (pC (·.v9q)) (vC (·.vmq))))
def wN:jg:=c9 (aI rY (pC (·.v9q))) (λa s=>{s with vmq:=some a})
 j4
def j3:jg:=aC (lR ME (λa s=>{s with vcq:=some a.vxq}) (vC (·.vcq)) (aI Jz (vC (·.vgq))) (aG Sa (pC (·.v6q)) (vC (·.vgq))))
def wM:jg:=c9 (aI rY (pC (·.v6q))) (λa s=>{s with vgq:=some a})
 j3
def j2:jg:=aC (lR MG (λa s=>{s with vcq:=some a.vxq}) (vC (·.vcq)) (vC (·.v0q)) (vC (·.v1q)))
def wL:jg:=c9 (pC (·.vyq)) (λa s=>{s with v0q:=some a.1,v1q:=some a.2})
 j2
def wK:jg:=aZ (CL (λs=>s.vcq) (λs=>{s with vcq:=none}))
def zg:jg:=ag pz
 (ag wO
 (ag wN
 (ag wM
 (ag wL
 wK))))
def xD(b:Int)(a:P0)(c:DI Int)(d:DI Int)(e:P0):OutC S_bq9 GΩ:=bb none (zg ⟨b,a,c,d,e,none,none,none,none,none⟩)
def Sv:Cl.TJ Ab ah Gh zg:=aa (xs (ac (yS jy xp)))
 (aa (bO (bZ xp) (λ_ _=>rfl)
 (ak (d8 (λ_=>rfl) (λ_ _=>rfl) (λc b a=>N8 c b a) xv (bR (λ_=>rfl) xv) (bR (λ_=>rfl) xv))))
 (aa (bO (bZ (aD FO xp)) (λ_ _=>rfl)
 (ak (QO (λ_=>rfl) (λ_ _=>rfl) (λc b a d=>W7 c b a d) xv (bR (λ_=>rfl) (ae lP xv xk)) (bR (λ_=>rfl) (ae lP xv xk)) (bR (λ_=>rfl) (ae tM xp xv)))))
 (aa (bO (bZ (aD FO xp)) (λ_ _=>rfl)
 (ak (d8 (λ_=>rfl) (λ_ _=>rfl) (λc b a=>W0 c b a) xv (aD Lj (l9 (Kf (λ_=>rfl)) xv)) (bR (λ_=>rfl) (ae tM xp xv)))))
 (aa (bO (bZ xp) (λ_ _=>rfl)
 (ak (d8 (λ_=>rfl) (λ_ _=>rfl) (λc b a=>W4 c b a) xv (bR (λ_=>rfl) xv) (bR (λ_=>rfl) xv))))
 (aw (iU (λ_=>rfl) (λ_=>rfl)))))))
def IB(b:Int)(a:P0)(c:DI Int)(d:DI Int)(e:P0):SimO Ab ah (AH [D.int b,(eL (js D.int D.int)) a,(aP D.int) c,(aP D.int) d,(eL (js D.int D.int)) e]) (xD b a c d e):=d9 Sv rfl
structure S_cb9 where
 vcq:GΩ
 vtq:(List Int)
def zX:S_cb9->P1:=λs=>[some (ah s.vcq),some ((eL D.int) s.vtq)]
abbrev Oc:=S_cb9->FlC S_cb9 (Int×Int×(List Int))
def wn:Oc:=aZ (aA (fe (aI CK (bK MH (pC (·.vcq)) (pC (·.vtq)))) (fe (aI gr (pC (·.vtq))) (pC (·.vtq)))))
def y0:Oc:=wn
def sM(a:GΩ)(b:List Int):OutC S_cb9 (Int×Int×(List Int)):=bb none (y0 ⟨a,b⟩)
def Sg:Cl.TJ zX (u3 D.int D.int (eL D.int)) F5 y0:=aw (ac (t8 (aD Av (dh (λ_=>rfl) (λb a=>W5 b a) xp xp)) (aD cT xp) xp))
def Iw(a:GΩ)(b:List Int):SimO zX (u3 D.int D.int (eL D.int)) (AD [ah a,(eL D.int) b]) (sM a b):=cj Sg rfl
structure S_u9 where
 vxq:PostT
 v0q:Int
 v1q:Int
def EE:S_u9->P1:=λs=>[some (aS s.vxq),some (D.int s.v0q),some (D.int s.v1q)]
abbrev DE:=S_u9->FlC S_u9 Unit
def uw:DE:=aC (Xw (λs=>some s.vxq.guild) (λs y=>{s with vxq:={s.vxq with guild:=y}}) (λs=>s.vxq) (Ph (λb a=>.ok (b,a)) (pC (·.v0q)) (pC (·.v1q))) (λo r=>ML o r.1 r.2))
def uv:DE:=aC (lR Jo (λa s=>{s with vxq:=a.vxq}) (pC (·.vxq)) (pC (·.v0q)) (pC (·.v1q)))
def uu:DE:=aC (lR Jo (λa s=>{s with vxq:=a.vxq}) (pC (·.vxq)) (pC (·.v1q)) (pC (·.v0q)))
def ut:DE:=aC (CT DH (λa s=>{s with vxq:=a.vxq}) (pC (·.vxq)) (aG yz (pC (·.v0q)) (pC (·.v1q))))
def ur:DE:=aC (CT DH (λa s=>{s with vxq:=a.vxq}) (pC (·.vxq)) (aG yA (pC (·.v0q)) (pC (·.v1q))))
def IK:DE:=ag uw
 (ag uv
 (ag uu
 (ag ut
 ur)))
def MB(a:PostT)(c:Int)(b:Int):OutC S_u9 Unit:=bb (some ()) (IK ⟨a,c,b⟩)
def WC:Cl.TJ EE eN Nt IK:=aa (ak (Nj (λ_=>rfl) (λ_ _=>rfl) (λ_=>rfl) (Ut (eR:=(λ(r:Int×Int)=>[D.int r.1,D.int r.2])) (k:=.ok) (f:=λe d=>.ok (e,d)) (e0:=D.int) (e1:=D.int) (λ_ _=>rfl) xp xp) (λo r=>W8 o r.1 r.2) (λ_=>rfl)))
 (aa (ak (d8 (λ_=>rfl) (λ_ _=>rfl) (λb a c=>N0 b a c) xp xp xp))
 (aa (ak (d8 (λ_=>rfl) (λ_ _=>rfl) (λb a c=>N0 b a c) xp xp xp))
 (aa (ak (n6 (λ_=>rfl) (λ_ _=>rfl) (λb a=>Ir b a) xp (ae vn xp xp)))
 (ak (n6 (λ_=>rfl) (λ_ _=>rfl) (λb a=>Ir b a) xp (ae vp xp xp))))))
def WY(a:PostT)(c:Int)(b:Int):SimO EE eN (Rt [aS a,D.int c,D.int b]) (MB a c b):=cF (d:=()) rfl WC rfl
structure S_x9 where
 vxq:PostT
 vFq:Int
 vrq:Int
 vtq:(Option (List Int))
def EB:S_x9->P1:=λs=>[some (aS s.vxq),some (D.int s.vFq),some (D.int s.vrq),some ((eO (eL D.int)) s.vtq)]
abbrev Je:=S_x9->FlC S_x9 Unit
def uj:Je:=i3 (λs=>some s.vxq.told_last) (λs y=>{s with vxq:={s.vxq with told_last:=y}}) (aI ce (fe (pC (·.vFq)) (pC (·.vrq)))) (aA (pC (·.vtq)))
def mV:Je:=NS (gI (λs=>some s.vxq.standings) (λs=>some s.vrq)) (pI (λs=>some s.vxq.standings) (λs y=>{s with vxq:={s.vxq with standings:=y}}) (λs=>some s.vrq)) (pC (·.vFq)) (aA (bK sM (aI (λg=>.ok g.guild) (pC (·.vxq))) (aG qW (qR (cw (pC (·.vrq)) (fL:_->Res (List Int)))) (aI fK (pC (·.vtq))))))
def mW:Je:=aC (r0 (gI (λs=>some s.vxq.standings) (λs=>some s.vrq)) (pI (λs=>some s.vxq.standings) (λs y=>{s with vxq:={s.vxq with standings:=y}}) (λs=>some s.vrq)) (pC (·.vFq)))
def ui:Je:=fX (aA (iF qO (aI (λg=>.ok g.guild) (pC (·.vxq))) (pC (·.vrq)) (pC (·.vtq))))
 mV
 mW
def IH:Je:=ag uj
 ui
def Mz(c:PostT)(b:Int)(a:Int)(d:Option (List Int)):OutC S_x9 Unit:=bb (some ()) (IH ⟨c,b,a,d⟩)
def Wz:Cl.TJ EB eN Np IH:=aa (dI (λ_=>rfl) (λ_ _=>rfl) (a9 bv (aQ xp xp)) (ac xp))
 (a6 (ac (am (jR (λb a c=>Iz b a c) (aD cN xp) xp xp)))
 (JG (Xz (λ_=>rfl) (oA (λ_=>rfl))) (Yr (λ_=>rfl) (λ_ _=>rfl) (oA (λ_=>rfl))) xp (ac (bF (λb a=>Iw b a) (aD cN xp) (ae Ax (cu (bB xp cq)) (a9 bN xp)))))
 (ak (Ay (Xz (λ_=>rfl) (oA (λ_=>rfl))) (Yr (λ_=>rfl) (λ_ _=>rfl) (oA (λ_=>rfl))) xp)))
def WW(c:PostT)(b:Int)(a:Int)(e:Option (List Int)):SimO EB eN (Rr [aS c,D.int b,D.int a,(eO (eL D.int)) e]) (Mz c b a e):=cF (d:=()) rfl Wz rfl
structure S_bg9 where
 vcq:GΩ
 vdq:Int
 vCq:(List (Option (List Int)))
 vAq:Option (List (Int×Int×(List Int)))
def Am:S_bg9->P1:=λs=>[some (ah s.vcq),some (D.int s.vdq),some ((eL (eO (eL D.int))) s.vCq),s.vAq.map (eL (u3 D.int D.int (eL D.int)))]
abbrev Jk:=S_bg9->FlC S_bg9 (Option (List Int))
def w9:Jk:=a8 (λa s=>{s with vAq:=some a}) (aA (cP (pC (·.vCq)) (iF qO (pC λp=>p.2.vcq) (pC λp=>p.2.vdq) (pC λp=>p.1)) (bK sM (pC λp=>p.2.vcq) (aG qW (qR (cw (pC λp=>p.2.vdq) (fL:_->Res (List Int)))) (aI fK (pC λp=>p.1))))))
def qj:Jk:=aZ (aA (bK xH (pC (·.vdq)) (vC (·.vAq))))
def zq:Jk:=ag w9
 qj
def B5(b:GΩ)(a:Int)(c:List (Option (List Int))):OutC S_bg9 (Option (List Int)):=bb (some none) (zq ⟨b,a,c,none⟩)
def SF:Cl.TJ Am (eO (eL D.int)) Gu zq:=aa (xs (ac (dO (bZ xp) (am (jR (λb a c=>Iz b a c) xp xp xp)) (bF (λb a=>Iw b a) xp (ae Ax (cu (bB xp cq)) (a9 bN (l9 (Ep (tq (λ_=>rfl))) xp)))))))
 (aw (ac (bF (λb a=>ID b a) xp xv)))
def S5(b:GΩ)(a:Int)(c:List (Option (List Int))):SimO Am (eO (eL D.int)) (GW [ah b,D.int a,(eL (eO (eL D.int))) c]) (B5 b a c):=cF (d:=none) rfl SF rfl
structure S_r9 where
 vxq:PostT
 v0q:Int
 v1q:Int
def EH:S_r9->P1:=λs=>[some (aS s.vxq),some (D.int s.v0q),some (D.int s.v1q)]
abbrev Jg:=S_r9->FlC S_r9 Bool
def uD:Jg:=aC (aA (bK rj (aI (λg=>.ok g.guild) (pC (·.vxq))) (qR (cw (pC (·.v0q)) (cw (pC (·.v1q)) (fL:_->Res (List Int)))))))
def uC:Jg:=fX (aA (aG (ud true) (aI ce (fe (pC (·.v0q)) (pC (·.v1q)))) (aI (λg=>.ok g.letters) (pC (·.vxq)))))
 q9
 bc
def uB:Jg:=aC (Yk Mz (λa s=>{s with vxq:=a.vxq}) (λs=>some s.vxq) (pC (·.v0q)) (pC (·.v1q)) (v5 (λs=>some s.vxq.letters) (λs y=>{s with vxq:={s.vxq with letters:=y}}) (aI ce (fe (pC (·.v0q)) (pC (·.v1q))))))
def Bf:Jg:=aZ (CT DH (λa s=>{s with vxq:=a.vxq}) (pC (·.vxq)) (pC (·.v1q)))
def IN:Jg:=ag uD
 (ag uC
 (ag uB
 Bf))
def Jp(a:PostT)(c:Int)(b:Int):OutC S_r9 Bool:=bb none (IN ⟨a,c,b⟩)
def WF:Cl.TJ EH D.bl Nw IN:=aa (ak (ac (dh (λ_=>rfl) (λb a=>qA b a) (aD cN xp) (cu (bB xp (bB xp cq))))))
 (aa (a6 (ac (am (ae (rL true) (a9 bv (aQ xp xp)) (aD cR xp))))
 gL
 az)
 (aa (ak (VI (λ_=>rfl) (λ_ _=>rfl) (λ_=>rfl) (λb a d c=>WW b a d c) xp xp (tO (λ_=>rfl) (λ_ _=>rfl) (a9 bv (aQ xp xp)))))
 (aw (n6 (λ_=>rfl) (λ_ _=>rfl) (λb a=>Ir b a) xp xp))))
def N5(a:PostT)(c:Int)(b:Int):SimO EH D.bl (LD [aS a,D.int c,D.int b]) (Jp a c b):=cj WF rfl
structure S_bi9 where
 vcq:GΩ
 vBq:(List (Option (List Int)))
 vdq:Option Int
 vCq:Option (List (Option (List Int)))
def Ak:S_bi9->P1:=λs=>[some (ah s.vcq),some ((eL (eO (eL D.int))) s.vBq),s.vdq.map D.int,s.vCq.map (eL (eO (eL D.int)))]
abbrev na:=S_bi9->FlC S_bi9 (Option Int)
def qh:na:=aC (aA (bK xy (pC (·.vBq)) (jI Jr (pC (·.vcq)))))
def fD:na:=a8 (λa s=>{s with vCq:=some a}) (aA (cP (bK Jt (pC (·.vcq)) (vC (·.vdq))) (λ_=>.ok true) (aG jr (pC λp=>p.2.vBq) (pC λp=>p.1))))
def fA:na:=aZ (λs=>uV ((aA (vC (·.vdq))) s) λa s=>bndO (jx a) s λb=>.ok b s)
def fB:na:=fX (aA (aG (nB true) (iF B5 (pC (·.vcq)) (vC (·.vdq)) (vC (·.vCq))) (aG jr (pC (·.vBq)) (vC (·.vdq)))))
 fA
 bc
def xm:na:=ag fD
 fB
def qg:na:=c9 (aI (gM 0) (jI Jr (pC (·.vcq)))) (λa s=>{s with vdq:=some a})
 xm
def w6:na:=aZ (λs=>uV ((aA (kC ())) s) λa s=>bndO ((vq:Unit->Res (Option Int)) a) s λb=>.ok b s)
def zo:na:=ag qh
 (ag qg
 w6)
def B0(b:GΩ)(a:List (Option (List Int))):OutC S_bi9 (Option Int):=bb (some none) (zo ⟨b,a,none,none⟩)
def SD:Cl.TJ Ak (eO D.int) Gr zo:=aa (ak (ac (bF (λa b=>Iy a b) xp (jQ (λ_=>rfl) (λa=>Iu a) xp))))
 (aa (bO (fY (jQ (λ_=>rfl) (λa=>Iu a) xp)) (λ_ _=>rfl)
 (aa (xs (ac (dO (bZ (dh (λ_=>rfl) (λa b=>N7 a b) xp xv)) oO (ae dW xp xp))))
 (a6 (ac (am (ae (Aw (A7 (wc d4) (k8 _)) (by decide) true) (jR (λa b c=>S5 a b c) xp xv xv) (ae dW xp xv))))
 (aw (iV iu (ac xv)))
 az)))
 (aw (iV nC (ac xk))))
def S4(b:GΩ)(a:List (Option (List Int))):SimO Ak (eO D.int) (GV [ah b,(eL (eO (eL D.int))) a]) (B0 b a):=cF (d:=none) rfl SD rfl
structure S_s9 where
 vxq:PostT
 vmq:Option (List Int)
def EG:S_s9->P1:=λs=>[some (aS s.vxq),s.vmq.map (kY D.int)]
abbrev Tl:=S_s9->FlC S_s9 Bool
def uA:Tl:=a8 (λa s=>{s with vmq:=some a}) (aA (jI MA (pC (·.vxq))))
def Be:Tl:=aZ (lR Jp (λa s=>{s with vxq:=a.vxq}) (pC (·.vxq)) (aG jr (vC (·.vmq)) (kC (0:Int))) (aG jr (vC (·.vmq)) (kC (1:Int))))
def IM:Tl:=ag uA
 Be
def MC(a:PostT):OutC S_s9 Bool:=bb none (IM ⟨a,none⟩)
def WE:Cl.TJ EG D.bl Nv IM:=aa (xs (ac (jQ (λ_=>rfl) (λa=>WX a) xp)))
 (aw (d8 (λ_=>rfl) (λ_ _=>rfl) (λa c b=>N5 a c b) xp (ae lP xv xk) (ae lP xv xk)))
def WZ(a:PostT):SimO EG D.bl (Rv [aS a]) (MC a):=cj WE rfl
structure S_bl9 where
 vpq:PostT
 vuq:((DI Int)×(DI Int)×P0)
 vDq:P0
 vzq:Int
 vBq:Option (List (Option (List Int)))
 v0q:Option Int
 vCq:Option (List (Option (List Int)))
 vtq:Option (Option (List Int))
 vaq:Option (Str×(List Int))
 vcq:Option GΩ
def Ah:S_bl9->P1:=λs=>[some (aS s.vpq),some ((L8 (aP D.int) (aP D.int) (eL (js D.int D.int))) s.vuq),some ((eL (js D.int D.int)) s.vDq),some (D.int s.vzq),s.vBq.map (eL (eO (eL D.int))),s.v0q.map D.int,s.vCq.map (eL (eO (eL D.int))),s.vtq.map (eO (eL D.int)),s.vaq.map (js D.str (eL D.int)),s.vcq.map ah]
abbrev fH:=S_bl9->FlC S_bl9 Bool
def pV:fH:=a8 (λa s=>{s with vBq:=some a}) (aA (jI B6 (pC (·.vpq))))
def j9:fH:=a8 (λa s=>{s with vCq:=some a}) (aA (cP (iF xz (pC (·.vDq)) (pC (·.vzq)) (vC (·.v0q))) (λ_=>.ok true) (bK DG (pC λp=>p.2.vpq) (pC λp=>p.1))))
def j8:fH:=a8 (λa s=>{s with vtq:=some a}) (aA (K4 BZ (aI vX (pC (·.vuq))) (aI vF (pC (·.vuq))) (aI D1 (pC (·.vuq))) (vC (·.v0q)) (vC (·.vCq))))
def pR:fH:=aZ (aA (kC false))
def j7:fH:=fX (aA (DN (aI nY (bK nc (bK DG (pC (·.vpq)) (vC (·.v0q))) (vC (·.vtq)))) (aI nY (bK nc (aG jr (vC (·.vBq)) (vC (·.v0q))) (vC (·.vtq))))))
 pR
 bc
def j6:fH:=a8 (λa s=>{s with vaq:=some a}) (aA (bK BS (vC (·.vBq)) (vC (·.v0q))))
def pQ:fH:=aZ (aA (kC false))
def ie:fH:=fX (aA (nq (aI (kM false kA) (vC (·.vtq))) (DN (aG (nB true) (aI vX (vC (·.vaq))) (kC ("stops" : Str))) (aI nY (bK nc (aI jx (aI OD (vC (·.vaq)))) (aI jx (qR (cw (vC (·.v0q)) (fL:_->Res (List Int))))))))))
 pQ
 bc
def pP:fH:=aZ (aA (kC false))
def ic:fH:=fX (aA (nq (aI (kM true kA) (vC (·.vtq))) (DN (aG (nB true) (aI vX (vC (·.vaq))) (kC ("comes" : Str))) (aI nY (bK nc (aI jx (aI OD (vC (·.vaq)))) (vC (·.vtq)))))))
 pP
 bc
def lB:fH:=ag j9
 (ag j8
 (ag j7
 (ag j6
 (ag ie
 ic))))
def pU:fH:=c9 (aI (gM 0) (pC (·.vzq))) (λa s=>{s with v0q:=some a})
 lB
def pO:fH:=a8 (λa s=>{s with vcq:=some a}) (aA (K4 xD (pC (·.vzq)) (pC (·.vDq)) (aI vX (pC (·.vuq))) (aI vF (pC (·.vuq))) (aI D1 (pC (·.vuq)))))
def wW:fH:=aZ (aA (aI (kM false kA) (bK B0 (vC (·.vcq)) (vC (·.vBq)))))
def zk:fH:=ag pV
 (ag pU
 (ag pO
 wW))
def xG(d:PostT)(c:(DI Int)×(DI Int)×P0)(a:P0)(b:Int):OutC S_bl9 Bool:=bb none (zk ⟨d,c,a,b,none,none,none,none,none,none⟩)
def SA:Cl.TJ Ah D.bl Gn zk:=aa (xs (ac (jQ (λ_=>rfl) (λa=>S6 a) xp)))
 (aa (bO (fY xp) (λ_ _=>rfl)
 (aa (xs (ac (dO (bZ (jR (λa b c=>SU a b c) xp xp xv)) oO (dh (λ_=>rfl) (λa b=>NZ a b) xp xp))))
 (aa (xs (ac (yT (λa b c e d=>S0 a b c e d) (fk VG xp) (fk VF xp) (fk VE xp) xv xv)))
 (aa (a6 (ac (g6 (g7 (am (bF (λa b=>uP a b) (dh (λ_=>rfl) (λa b=>NZ a b) xp xv) xv))) (g7 (am (bF (λa b=>uP a b) (ae dW xv xv) xv)))))
 (aw (ac xk))
 az)
 (aa (xs (ac (bF (λa b=>SQ a b) xv xv)))
 (aa (a6 (ac (jn (am (dF (gv (λ_=>rfl)) xv)) (g6 (am (ae (Ni true) (fk VB xv) xk)) (g7 (am (bF (λa b=>uP a b) (a9 iu (fk VA xv)) (a9 iu (cu (bB xv cq)))))))))
 (aw (ac xk))
 az)
 (a6 (ac (jn (am (dF (gv (λ_=>rfl)) xv)) (g6 (am (ae (Ni true) (fk VB xv) xk)) (g7 (am (bF (λa b=>uP a b) (a9 iu (fk VA xv)) xv))))))
 (aw (ac xk))
 az)))))))
 (aa (xs (ac (yT (λa b c e d=>IB a b c e d) xp xp (fk VG xp) (fk VF xp) (fk VE xp))))
 (aw (ac (dF (gv (λ_=>rfl)) (bF (λa b=>S4 a b) xv xv))))))
def IC(d:PostT)(c:(DI Int)×(DI Int)×P0)(a:P0)(b:Int):SimO Ah D.bl (AI [aS d,(L8 (aP D.int) (aP D.int) (eL (js D.int D.int))) c,(eL (js D.int D.int)) a,D.int b]) (xG d c a b):=cj SA rfl
structure S_bo9 where
 vpq:PostT
 vDq:P0
 vzq:Int
 v4q:Int
 v0q:Option Int
 v1q:Option Int
 vhq:Option (List (Int×Int×(Option (List Int))))
 vmq:Option (Int×Int)
 voq:Option (Int×Int×(Option (List Int)))
def Ad:S_bo9->P1:=λs=>[some (aS s.vpq),some ((eL (js D.int D.int)) s.vDq),some (D.int s.vzq),some (D.int s.v4q),s.v0q.map D.int,s.v1q.map D.int,s.vhq.map (eL (u3 D.int D.int (eO (eL D.int)))),s.vmq.map (js D.int D.int),s.voq.map (u3 D.int D.int (eO (eL D.int)))]
abbrev fZ:=S_bo9->FlC S_bo9 Unit
def pG:fZ:=a8 (λa s=>{s with v0q:=some a}) (aA (aG dC (aG gy (pC (·.v4q)) (kC (5:Int))) (pC (·.vzq))))
def pF:fZ:=a8 (λa s=>{s with v1q:=some a}) (aA (aG dC (aG gy (aG gy (pC (·.v4q)) (kC (5:Int))) (pC (·.vzq))) (pC (·.vzq))))
def pE:fZ:=a8 (λa s=>{s with vhq:=some a}) (aA (jI sQ (pC (·.vpq))))
def ib:fZ:=a8 (λa s=>{s with vmq:=some a}) (aA (fe (aG yz (vC (·.v0q)) (vC (·.v1q))) (aG yA (vC (·.v0q)) (vC (·.v1q)))))
def gC:fZ:=aC (lR MB (λa s=>{s with vpq:=a.vxq}) (pC (·.vpq)) (vC (·.v0q)) (vC (·.v1q)))
def gB:fZ:=aC (NR (λs=>some s.vDq) (λs y=>{s with vDq:=y}) yl (vC (·.vmq)))
def gE:fZ:=aC (lR My (λa s=>{s with vpq:=a.vxq}) (pC (·.vpq)) (vC (·.v0q)) (vC (·.v1q)))
def gD:fZ:=aC (NR (λs=>some s.vDq) (λs y=>{s with vDq:=y}) nl (vC (·.vmq)))
def ia:fZ:=fX (aA (aG (HI false) (vC (·.vmq)) (pC (·.vDq))))
 (ag gC
 gB)
 (ag gE
 gD)
def gG:fZ:=a8 (λa s=>{s with voq:=some a}) (aA (aG jr (vC (·.vhq)) (aG dC (aG gy (pC (·.v4q)) (kC (5:Int))) (aI gr (vC (·.vhq))))))
def gF:fZ:=aC (lR Jp (λa s=>{s with vpq:=a.vxq}) (pC (·.vpq)) (aI vX (vC (·.voq))) (aI vF (vC (·.voq))))
def cH:fZ:=fX (aA (aG Db (aI gr (vC (·.vhq))) (kC (0:Int))))
 (ag gG
 gF)
 bc
def fq:fZ:=fX (aA (nq (aG Db (aG dC (pC (·.v4q)) (kC (5:Int))) (kC (2:Int))) (aG (nB true) (vC (·.v0q)) (vC (·.v1q)))))
 (ag ib
 ia)
 cH
def zi:fZ:=ag pG
 (ag pF
 (ag pE
 fq))
def BY(c:PostT)(a:P0)(b:Int)(d:Int):OutC S_bo9 Unit:=bb (some ()) (zi ⟨c,a,b,d,none,none,none,none,none⟩)
def Sx:Cl.TJ Ad eN Gj zi:=aa (xs (ac (ae bU (ae d7 xp xk) xp)))
 (aa (xs (ac (ae bU (ae d7 (ae d7 xp xk) xp) xp)))
 (aa (xs (ac (jQ (λ_=>rfl) (λa=>yY a) xp)))
 (a6 (ac (jn (am (ae yw (ae bU xp xk) xk)) (am (ae (gi true) xv xv))))
 (aa (xs (ac (aQ (ae vn xv xv) (ae vp xv xv))))
 (a6 (ac (am (ae (rK (oU d4 d4) (by decide)) xv xp)))
 (aa (ak (d8 (λ_=>rfl) (λ_ _=>rfl) (λa c b=>WY a c b) xp xv xv))
 (ak (rM (λ_=>rfl) (λ_ _=>rfl) (Wr (oU d4 d4) (by decide)) xv)))
 (aa (ak (d8 (λ_=>rfl) (λ_ _=>rfl) (λa c b=>WV a c b) xp xv xv))
 (ak (rM (λ_=>rfl) (λ_ _=>rfl) vZ xv)))))
 (a6 (ac (am (ae yw (aD cT xv) xk)))
 (aa (xs (ac (ae dW xv (ae bU (ae d7 xp xk) (aD cT xv)))))
 (ak (d8 (λ_=>rfl) (λ_ _=>rfl) (λa c b=>N5 a c b) xp (fk Yi xv) (fk Yh xv))))
 az))))
def SY(c:PostT)(a:P0)(b:Int)(e:Int):SimO Ad eN (GQ [aS c,(eL (js D.int D.int)) a,D.int b,D.int e]) (BY c a b e):=cF (d:=()) rfl Sx rfl
structure S_ba9 where
 vxq:PostT
 vkq:Int
 v3q:Option Int
def tF:S_ba9->P1:=λs=>[some (aS s.vxq),some (D.int s.vkq),s.v3q.map D.int]
abbrev qM:=S_ba9->FlC S_ba9 Int
def qt:qM:=a8 (λa s=>{s with v3q:=some a}) (aA (kC (0:Int)))
def qq:qM:=aC (We MC (λa s=>{s with vxq:=a.vxq}) (pC (·.vxq)))
def qp:qM:=a8 (λa s=>{s with v3q:=some a}) (aA (aG mw (vC (·.v3q)) (kC (1:Int))))
def lC:qM:=ag qq
 qp
def qr:qM:=uZ (aA (nq (aG LM (vC (·.v3q)) (pC (·.vkq))) (aG Db (aI AN (aI (λg=>.ok g.letters) (pC (·.vxq)))) (kC (0:Int)))))
 lC 100000
def xi:qM:=aZ (aA (vC (·.v3q)))
def zz:qM:=ag qt
 (ag qr
 xi)
def xI(a:PostT)(b:Int):OutC S_ba9 Int:=bb none (zz ⟨a,b,none⟩)
def SM:Cl.TJ tF D.int GB zz:=aa (xs (ac xk))
 (aa (u7 (rep:=tF) (ac (jn (am (ae CH xv xp)) (am (ae yw (aD QM (aD cR xp)) xk))))
 (aa (ak (QP (λ_=>rfl) (λ_ _=>rfl) (λa=>WZ a) xp))
 (xs (ac (ae iT xv xk)))) 100000)
 (aw (ac xv)))
def S7(a:PostT)(b:Int):SimO tF D.int (GY [aS a,D.int b]) (xI a b):=cj SM rfl
structure S_bj9 where
 vvq:(List Int)
 vzq:Option Int
 vDq:Option P0
 v9q:Option (DI Int)
 v6q:Option (DI Int)
 vyq:Option P0
 vuq:Option ((DI Int)×(DI Int)×P0)
 vpq:Option PostT
 v4q:Option Int
def Aj:S_bj9->P1:=λs=>[some (eS s.vvq),s.vzq.map D.int,s.vDq.map (eL (js D.int D.int)),s.v9q.map (aP D.int),s.v6q.map (aP D.int),s.vyq.map (eL (js D.int D.int)),s.vuq.map (L8 (aP D.int) (aP D.int) (eL (js D.int D.int))),s.vpq.map aS,s.v4q.map D.int]
abbrev fI:=S_bj9->FlC S_bj9 Bool
def qe:fI:=a8 (λa s=>{s with vzq:=some a}) (aA (aG mw (kC (1:Int)) (aG dC (bK lH (pC (·.vvq)) (kC (0:Int))) (kC (6:Int)))))
def qd:fI:=a8 (λa s=>{s with vDq:=some a}) (aA (bK BV (bK lH (pC (·.vvq)) (kC (1:Int))) (vC (·.vzq))))
def qc:fI:=a8 (λa s=>{s with v9q:=some a}) (aA (bK BX (bK lH (pC (·.vvq)) (kC (2:Int))) (vC (·.vzq))))
def qa:fI:=a8 (λa s=>{s with v6q:=some a}) (aA (bK xE (bK lH (pC (·.vvq)) (kC (3:Int))) (vC (·.vzq))))
def p8:fI:=a8 (λa s=>{s with vyq:=some a}) (aA (bK xA (bK lH (pC (·.vvq)) (kC (4:Int))) (vC (·.vzq))))
def p7:fI:=a8 (λa s=>{s with vuq:=some a}) (aA (fe (vC (·.v9q)) (fe (vC (·.v6q)) (vC (·.vyq)))))
def p6:fI:=a8 (λa s=>{s with vpq:=some a}) (aA (KJ kE (K4 xD (vC (·.vzq)) (vC (·.vDq)) (vC (·.v9q)) (vC (·.v6q)) (vC (·.vyq)))))
def pZ:fI:=aZ (aA (kC false))
def ij:fI:=fX (aA (nq (aG (nB false) (aI gr (jI sQ (vC (·.vpq)))) (kC (0:Int))) (aI nY (PB xG (vC (·.vpq)) (vC (·.vuq)) (vC (·.vDq)) (vC (·.vzq))))))
 pZ
 bc
def pY:fI:=aC (Lz BY (λa s=>{s with vpq:=some a.vpq,vDq:=some a.vDq}) (vC (·.vpq)) (vC (·.vDq)) (vC (·.vzq)) (vC (·.v4q)))
def qz:fI:=ag ij
 pY
def p5:fI:=c9 (aG NW (pC (·.vvq)) (kC (5:Int))) (λa s=>{s with v4q:=some a})
 qz
def pX:fI:=aC (CT xI (λa s=>{s with vpq:=some a.vxq}) (vC (·.vpq)) (kC (300:Int)))
def mj:fI:=aZ (aA (DN (aG Db (aI gr (jI sQ (vC (·.vpq)))) (kC (0:Int))) (PB xG (vC (·.vpq)) (vC (·.vuq)) (vC (·.vDq)) (vC (·.vzq)))))
def zn:fI:=ag qe
 (ag qd
 (ag qc
 (ag qa
 (ag p8
 (ag p7
 (ag p6
 (ag p5
 (ag pX
 mj))))))))
def Jv(a:List Int):OutC S_bj9 Bool:=bb none (zn ⟨a,none,none,none,none,none,none,none,none⟩)
def SC:Cl.TJ Aj D.bl Gq zn:=aa (xs (ac (ae iT xk (ae bU (bF (λa b=>qB a b) xp xk) xk))))
 (aa (xs (ac (bF (λa b=>SS a b) (bF (λa b=>qB a b) xp xk) xv)))
 (aa (xs (ac (bF (λa b=>SX a b) (bF (λa b=>qB a b) xp xk) xv)))
 (aa (xs (ac (bF (λa b=>SZ a b) (bF (λa b=>qB a b) xp xk) xv)))
 (aa (xs (ac (bF (λa b=>SV a b) (bF (λa b=>qB a b) xp xk) xv)))
 (aa (xs (ac (L6 xv xv xv)))
 (aa (xs (ac (yS t4 (yT (λa b d c e=>IB a b d c e) xv xv xv xv xv))))
 (aa (bO (bZ (ae Ll (l9 OE xp) xk)) (λ_ _=>rfl)
 (aa (a6 (ac (jn (am (ae (gi false) (aD cT (jQ (λ_=>rfl) (λa=>yY a) xv)) xk)) (g7 (am (HW (λa b d c=>IC a b d c) xv xv xv xv)))))
 (aw (ac xk))
 az)
 (ak (QQ (λ_ _=>rfl) (λa b d c=>SY a b d c) xv xv xv xv))))
 (aa (ak (n6 (λ_=>rfl) (λ_ _=>rfl) (λa b=>S7 a b) xv xk))
 (aw (ac (Wu (ae yw (aD cT (jQ (λ_=>rfl) (λa=>yY a) xv)) xk) (HW (λa b d c=>IC a b d c) xv xv xv xv))))))))))))
def S3(a:List Int):SimO Aj D.bl (GU [eS a]) (Jv a):=cj SC rfl
end
def fE(ns:List Int)(k:Int):Int:=(ns[k.toNat]?).getD 0
def J8(ns:List Int)(k:Int)(a:0<=k):(lH ns k).res=.ok (fE ns k):=by
 unfold lH zj wV wU lj fE;by_cases h:k<ns.length
 ·obtain⟨v,e⟩:∃v,ns[k.toNat]?=some v:=⟨_,Y1 (by omega)⟩;simp[h,mq ns a,e]
 ·have e:ns[k.toNat]?=none:=Y8 (by omega);simp[h,e]
def PairOk(sz:Int)(k:List Int):Prop:=∃a b,k=[a,b]/\0<=a/\a<sz/\0<=b/\b<sz
def J0(c sz:Int)(d:0<sz):∃F:DI Int,(BX c sz).res=.ok F/\F.length<=5/\DI.nd F/\∀p∈F,PairOk sz p.1:=by
 have l:0<=c%5/\c%5<5:=⟨Zn _ (by omega),Zh _ (by omega)⟩
 obtain⟨j,e,b,k,F,rfl,g,f,hF⟩:=cO (u:=λa s=>{s with vfq:=some a}) (c:=qx) (λp (s:S_bp9)=>∃b k F,s=⟨b,sz,some F,k⟩/\F.length<=p.length/\DI.nd F/\∀p∈F,PairOk sz p.1)
  (cc 0 (c%5)) ⟨c,sz,some [],none⟩ ⟨c,none,[],rfl,by simp,by simp[DI.nd],λ_ h=>(nomatch h)⟩ (by
    rintro p a r s i ⟨b,k,F,rfl,g,f,hF⟩
    have hp:p.length<5:=by
     have:=bC 0 (c%5)
     rw[i,YQ,YO]at this;omega
    have hz:F.length<af:=by unfold af;omega
    refine⟨_,.inl ?_,(b*48271+11)%2147483647,some a,F.put [(b*48271+11)%2147483647%sz,(b*48271+11)%2147483647 / 7%sz] ((b*48271+11)%2147483647 / 49%7-3),rfl,?_,f9 f,dL hF ⟨_,_,rfl,Zn _ (by omega),Zh _ d,Zn _ (by omega),Zh _ d⟩⟩
    ·simp[qx,pD,pA,d,hz]
    ·rw[YQ];exact Ze fP (by simp;omega))
 refine⟨F,?_,?_,f,hF⟩
 ·unfold BX zh wR wQ wP;simp[c6 (lo:=0) (hi:=c%5) (by omega) (by omega) (by omega) (by omega),e]
 ·have:=bC 0 (c%5);omega
def eh{W:Type}:∀{l:List W} {j:Nat} (h:j<l.length),(l[j]::l.eraseIdx j).Perm l
 |x::l,0,h=>List.Perm.refl _
 | x::l,j+1,h=>by
   have a:=eh (l:=l) (j:=j) (by simpa using h);rw[Zv,List.getElem_cons_succ];exact(List.Perm.swap x _ _).trans (a.cons x)
structure RoadOk (sz:Int) (r:List Int):Prop where
 two:2<=r.length
 last:r.getLast?=some 0
 nd:r.Nodup
 all:∀x∈r,0<=x/\x<sz
def Pc{l:List W}{i:Int}(h0:0<=i)(a:i<l.length)(b:l.length<=20000):∃(h:i.toNat<l.length),Fb l i=some (l[i.toNat],l.eraseIdx i.toNat):=by
 have h:i.toNat<l.length:=by omega
 refine⟨h,?_⟩;unfold Fb;rw[if_pos ⟨h0,a,by unfold af;omega⟩,List.getElem?_eq_getElem h];rfl
def qH{l:List W}(h:l.length<af):nl l x=some ((),l++[x]):=by unfold nl;rw[if_pos h]
def zA{l m:List W}(h:l.length+m.length<=af):qW l m=.ok (l++m):=by unfold qW;rw[if_pos h]
def JS(c h sz:Int)(M:1<=h)(L:h<sz)(U:sz<=1000):∃r,(BW c h sz).res=.ok r/\RoadOk sz r/\(∃t,r=h::t)/\r.length<=1001:=by
 have D:cP (aG gM (kC (1:Int)) (pC (·.vzq))) (aG (nB true) (pC λp=>p.1) (pC λp=>p.2.vdq)) (pC λp=>p.1) (⟨c,h,sz,none,none,none⟩:S_bs9)=.ok ((cc 1 sz).filter λx=>!decide (x=h)):=by
  rw[jp (l:=cc 1 sz) (λx=>!decide (x=h)) (λx=>x) (by simp[c6 (lo:=1) (hi:=sz) (by omega) (by omega) (by omega) (by omega)]) (by rw[bC];unfold af;omega) (λa _=>by simp) (λa _ _=>by simp)];simp
 have w:∀x∈(cc 1 sz).filter (λx=>!decide (x=h)),1<=x/\x<sz/\x≠h:=λx g=>by
  obtain⟨G,F⟩:=ZA.mp g
  have:=cB.mp G
  exact⟨this.1,this.2,by simpa using F⟩
 have i:((cc 1 sz).filter λx=>!decide (x=h)).Nodup:=(nZ 1 sz).filter _;have y:((cc 1 sz).filter λx=>!decide (x=h)).length<=999:=Ze (Ab9 _ _) (by rw[bC];omega);generalize (cc 1 sz).filter (λx=>!decide (x=h))=d at D w i y
 have E:=zM (t:=aA (nq (aG Db (vC (·.viq)) (kC (0:Int))) (aG Db (aI gr (vC (·.vsq))) (kC (0:Int))))) (c:=qv)
  (λn (s:S_bs9)=>∃f m bf mid,s=⟨f,h,sz,some bf,some (h::mid),some m⟩/\bf.length=n/\(h::mid++bf).Nodup/\(∀x∈h::mid++bf,1<=x/\x<sz)/\(h::mid++bf).length<=1000)
  (λs=>∃f m bf mid,s=⟨f,h,sz,some bf,some (h::mid),some m⟩/\(h::mid).Nodup/\(∀x∈h::mid,1<=x/\x<sz)/\(h::mid).length<=1000) (by
    rintro n s ⟨f,m,bf,mid,rfl,rfl,nd,v,A⟩;have H:mid.length+bf.length+1<=1000:=by simpa using A
    by_cases B:0<m/\0<bf.length
    · have J:0<=f%(bf.length:Int):=Zn _ (by omega);have I:f%(bf.length:Int)<bf.length:=Zh _ (by omega);obtain⟨k,hp⟩:=Pc J I (by omega);have hz:(0:Int)<bf.length:=by omega
      generalize (f%(bf.length:Int)).toNat=j at k hp;have C:=qH (l:=h::mid) (x:=bf[j]) (by simp only[List.length_cons];unfold af;omega);refine .inr ⟨by simp[B.1,B.2],(bf.eraseIdx j).length,_,by rw[List.length_eraseIdx,if_pos k];omega,.inl (by simp[qv,o7,o6,o5,B.2,hp,C]),f / 5,m-1,bf.eraseIdx j,mid++[bf[j]],rfl,rfl,?_,?_,?_⟩
      · have e1:(h::(mid++[bf[j]])++bf.eraseIdx j).Perm (h::mid++bf):=by
         have:(bf[j]::bf.eraseIdx j).Perm bf:=eh k
         simpa using(Aj8 (h::mid) this)
        exact e1.nodup_iff.mpr nd
      · intro x g;refine v x ?_
        have e1:(h::(mid++[bf[j]])++bf.eraseIdx j).Perm (h::mid++bf):=by
         have:(bf[j]::bf.eraseIdx j).Perm bf:=eh k
         simpa using(Aj8 (h::mid) this)
        exact e1.mem_iff.mp g
      ·simp[List.length_eraseIdx,k];omega
    · refine .inl ⟨?_,f,m,bf,mid,rfl,(Zf.mp nd).1,λx g=>v x (YU _ g),by simp;omega⟩;by_cases o:0<m
      ·have e0:bf=[]:=Zi.mp (by omega);subst e0;simp[o]
      ·simp[o])
 obtain⟨S,e,f,m,bf,mid,rfl,nd,v,A⟩:=E 100000 d.length ⟨c / 4,h,sz,some d,some [h],some (if c / 4%8=3 then sz else c%4)⟩
  ⟨c / 4,_,d,[],rfl,rfl,Y7.mpr ⟨λz=>(w h z).2.2 rfl,i⟩,λx g=>by
   rcases YS.mp g with z|z
   ·rw[z];exact⟨M,L⟩
   ·exact⟨(w x z).1,(w x z).2.1⟩,by show(h::d).length<=1000;rw[YO];omega⟩ (by omega)
 have T:mid.length+1<=1000:=by simpa using A
 have u:=zA (l:=h::mid) (m:=[(0:Int)]) (by simp only[List.length_cons,List.length_nil];unfold af;omega);refine⟨h::mid++[0],?_,⟨by simp,List.getLast?_concat ..,?_,λx g=>?_⟩,⟨_,rfl⟩,by simp;omega⟩
 · have e1:pf ⟨c,h,sz,none,none,none⟩=.nx ⟨c,h,sz,some d,none,none⟩:=by
    unfold pf a8 aA;rw[D];rfl
   have R:pe ⟨c,h,sz,some d,none,none⟩=.nx ⟨c,h,sz,some d,some [h],none⟩:=by simp[pe,af]
   have Q:pd ⟨c,h,sz,some d,some [h],none⟩=.nx ⟨c,h,sz,some d,some [h],some (c%4)⟩:=by simp[pd]
   have P:o9 ⟨c,h,sz,some d,some [h],some (c%4)⟩=.nx ⟨c,h,sz,some d,some [h],some (if c / 4%8=3 then sz else c%4)⟩:=by
    by_cases q:c / 4%8=3<;>simp[o9,lh,q]
   have O:∀x,o8 ⟨c,h,sz,some d,some [h],x⟩=.nx ⟨c / 4,h,sz,some d,some [h],x⟩:=λx=>by simp[o8]
   have N:wJ ⟨c / 4,h,sz,some d,some [h],some (if c / 4%8=3 then sz else c%4)⟩=_:=e;unfold BW ze;simp only[ag,e1,R,Q,P,O,N];simp[wI,u,af,-qW]
 · exact Zf.mpr ⟨nd,by simp,λa C b K=>by
    rw[YT.mp K]
    have:=(v a C).1
    omega⟩
 · rcases YX.mp g with z|z
   ·have:=v x z;omega
   ·rw[YT.mp z];omega
def cA:∀(n:Nat) (l:List Int),l.Nodup->(∀x∈l,0<=x/\x<n)->l.length<=n:=by
 intro n
 induction n with
 |zero=>
   intro l nd a;cases l with
   |nil=>exact YY _
   |cons x l=>have:=a x YK;omega
 |succ n d=>
   intro l nd a
   have c:=d (l.erase n) (nd.erase _) λx e=>by
    have b:=(nd.mem_erase_iff).mp e
    have:=a x b.2
    have f:=b.1;omega
   rw[List.length_erase]at c;split at c<;>omega
def RoadOk.len{r:List Int}(h:RoadOk sz r):(r.length:Int)<=sz:=by
 have:=cA sz.toNat r h.nd λx a=>by have:=h.all x a;omega
 obtain⟨x,a⟩:=Ag0 r (λz=>by have:=h.two;rw[z]at this;simp at this)
 have:=h.all x a
 omega
def J7(c sz:Int)(z:1<=sz)(o:sz<=1000):∃F:DI Int,(xE c sz).res=.ok F/\F.length<=4/\DI.nd F/\∀p∈F,RoadOk sz p.1:=by
 by_cases j:sz<2
 ·refine⟨[],?_,by simp,by simp[DI.nd],λ_ h=>(nomatch h)⟩;simp[xE,uS,pM,pL,li,j]
 · have y:0<=c%4/\c%4<4:=⟨Zn _ (by omega),Zh _ (by omega)⟩
   obtain⟨v,e,f,k,F,r,rfl,m,i,hF⟩:=cO (u:=λa s=>{s with vfq:=some a}) (c:=qy) (λp (s:S_bn9)=>∃f k F r,s=⟨f,sz,some F,k,r⟩/\F.length<=p.length/\DI.nd F/\∀p∈F,RoadOk sz p.1)
    (cc 0 (c%4)) ⟨c,sz,some [],none,none⟩ ⟨c,none,[],none,rfl,by simp,by simp[DI.nd],λ_ h=>(nomatch h)⟩ (by
      rintro p a r s n ⟨f,k,F,rd,rfl,m,i,hF⟩
      have hp:p.length<4:=by
       have:=bC 0 (c%4)
       rw[n,YQ,YO]at this;omega
      have hz:F.length<af:=by unfold af;omega
      have g:1<sz:=by omega
      generalize t:(f*48271+17)%2147483647=b;have x:0<=b%(sz-1):=Zn _ (by omega);have w:b%(sz-1)<sz-1:=Zh _ (by omega);obtain⟨d,q,l,_,_⟩:=JS (b / 9) (1+b%(sz-1)) sz (by omega) (by omega) o;refine⟨_,.inl ?_,b,some a,F.put d (b / 5%9-4),some d,rfl,?_,f9 i,dL hF l⟩
      ·simp[qy,pK,pJ,pH,t,hz,g,q]
      ·rw[YQ];exact Ze fP (by simp;omega))
   refine⟨F,?_,?_,i,hF⟩
   ·unfold xE uS;simp[pM,pL,wT,wS,j,c6 (lo:=0) (hi:=c%4) (by omega) (by omega) (by omega) (by omega),e]
   ·have:=bC 0 (c%4);omega
def BR(sz:Int)(p:Int×Int):Prop:=0<=p.1/\p.1<sz/\0<=p.2/\p.2<sz/\p.1≠p.2
def gN{W:Type}{l:List W}{a:W}(h:l.Nodup)(d:a∉l):(l++[a]).Nodup:=
 Zf.mpr ⟨h,by simp,λx c y b=>by rw[YT.mp b];rintro rfl;exact d c⟩
def B9{a x sz:Int}(e:0<=a)(d:a<sz)(c:0<=x)(b:x<sz-1):a≠(a+1+x)%sz:=by
 by_cases q:a+1+x<sz
 ·rw[Int.emod_eq_of_lt (by omega) q];omega
 · have:(a+1+x)%sz=a+1+x-sz:=by
    rw[<-Int.sub_emod_right,Int.emod_eq_of_lt (by omega) (by omega)]
   rw[this];omega
def OB(c sz:Int)(M:1<=sz):∃W:P0,(xA c sz).res=.ok W/\W.length<=3/\W.Nodup/\∀p∈W,BR sz p:=by
 by_cases C:sz<2
 ·refine⟨[],?_,by simp,by simp,λ_ h=>(nomatch h)⟩;simp[xA,uQ,o0,oZ,lb,C,af]
 · have L:0<=c%3/\c%3<3:=⟨Zn _ (by omega),Zh _ (by omega)⟩;have g:1<sz:=by omega
   have f:0<sz:=by omega
   obtain⟨K,e,m,k,y,w,W,rfl,H,i,j⟩:=cO (u:=λa s=>{s with vfq:=some a}) (c:=lA) (λp (s:S_bu9)=>∃m k y w W,s=⟨m,sz,some W,k,y,w⟩/\W.length<=p.length/\W.Nodup/\∀p∈W,BR sz p)
    (cc 0 (c%3)) ⟨c,sz,some [],none,none,none⟩ ⟨c,none,none,none,[],rfl,by simp,by simp,λ_ h=>(nomatch h)⟩ (by
      rintro p x r s I ⟨m,k,y,w,W,rfl,H,i,j⟩
      have hp:p.length<3:=by
       have:=bC 0 (c%3)
       rw[I,YQ,YO]at this;omega
      generalize D:(m*48271+23)%2147483647=d;have q:0<=d%sz:=Zn _ (by omega);have o:d%sz<sz:=Zh _ f;have G:0<=d / 7%(sz-1):=Zn _ (by omega);have F:d / 7%(sz-1)<sz-1:=Zh _ (by omega);have B:0<=(d%sz+1+d / 7%(sz-1))%sz:=Zn _ (by omega);have A:(d%sz+1+d / 7%(sz-1))%sz<sz:=Zh _ f;have n:=B9 q o G F;generalize v:(d%sz+1+d / 7%(sz-1))%sz=b at B A n;generalize E:d%sz=a at q o n v;by_cases t:(a,b)∈W
      ·refine⟨_,.inl ?_,d,some x,some a,some b,W,rfl,by rw[YQ];omega,i,j⟩;simp[lA,jY,jX,jW,jV,D,f,g,E,v,t]
      · have J:=qH (l:=W) (x:=(a,b)) (by unfold af;omega);refine⟨_,.inl ?_,d,some x,some a,some b,W++[(a,b)],rfl,by rw[List.length_append,List.length_append];simp;omega,gN i t,λp hp=>?_⟩
        ·simp[lA,jY,jX,jW,jV,jc,D,f,g,E,v,t,J]
        · rcases YX.mp hp with z|z
          ·exact j p z
          ·rw[YT.mp z];exact⟨q,o,B,A,n⟩)
   refine⟨W,?_,?_,i,j⟩
   ·unfold xA uQ;simp[o0,oZ,wE,wD,C,c6 (lo:=0) (hi:=c%3) (by omega) (by omega) (by omega) (by omega),e,af]
   ·have:=bC 0 (c%3);omega
structure WaysOk (sz:Int) (W:P0):Prop where
 nd:W.Nodup
 all:∀p∈W,0<=p.1/\p.1<p.2/\p.2<sz
 len:W.length<=10000
def JN(c sz:Int)(S:1<=sz)(R:sz<=60):∃W:P0,(BV c sz).res=.ok W/\WaysOk sz W:=by
 generalize j:(c+1)*48271%2147483647*16807%2147483647=d
 obtain⟨M,e,k,C,g,W,rfl,y,n,m,v⟩:=cO (u:=λa s=>{s with v0q:=some a}) (c:=jU) (λp (s:S_bw9)=>∃k C g W,s=⟨c,sz,some d,some W,some k,C,g⟩/\0<=k/\W.Nodup/\(∀q∈W,0<=q.1/\q.1<q.2/\q.2<sz/\q.1<(p.length:Int))/\W.length<=p.length*100)
  (cc 0 sz) ⟨c,sz,some d,some [],some 0,none,none⟩ ⟨0,none,none,[],rfl,by omega,by simp,λ_ h=>(nomatch h),by simp⟩ (by
    rintro p a r s H ⟨k,C,g,W,rfl,y,n,m,v⟩;have Q:=zU H;have F:(p.length:Int)=a:=by omega
    obtain⟨L,I,E,J,K,rfl,w,t,B,G⟩:=cO (u:=λa s=>{s with v1q:=some a}) (c:=ip) (λq (s:S_bw9)=>∃k g W,s=⟨c,sz,some d,some W,some k,some a,g⟩/\0<=k/\W.Nodup/\(∀x∈W,0<=x.1/\x.1<x.2/\x.2<sz/\(x.1<a\/x.1=a/\x.2<a+1+(q.length:Int)))/\W.length<=p.length*100+q.length)
     (cc (a+1) sz) ⟨c,sz,some d,some W,some k,some a,g⟩ ⟨k,g,W,rfl,y,n,λx i=>by have:=m x i;omega,by simpa using v⟩ (by
       rintro q b N s o ⟨k,g,W,rfl,y,n,m,v⟩;have P:=zU o
       have O:q.length<60:=by
        have:=bC (a+1) sz
        rw[o,YQ,YO]at this;omega
       have f:0<=k%29:=Zn _ (by omega);by_cases D:d / 2 ^ (k%29).toNat%2=1
       · have A:=qH (l:=W) (x:=(a,b)) (by unfold af;omega);refine⟨_,.inl ?_,k+1,some b,W++[(a,b)],rfl,by omega,gN n (λz=>by have:=m _ z;omega),λx i=>?_,by rw[List.length_append,List.length_append];simp;omega⟩
         ·simp[ip,hV,gA,hE,f,D,A]
         · rw[YQ];rcases YX.mp i with z|z
           ·have:=m x z;simp;omega
           ·rw[YT.mp z];simp;omega
       · refine⟨_,.inl ?_,k+1,some b,W,rfl,by omega,n,λx i=>?_,by rw[YQ];omega⟩
         ·simp[ip,hV,hE,f,D]
         ·have:=m x i;rw[YQ];simp;omega)
    refine⟨_,.inl ?_,E,some a,J,K,rfl,w,t,λx i=>?_,?_⟩
    ·simp only[jU,c9,aG,mw,vC,pC,kC,Res.bind];rw[c6 (by omega) (by omega) (by omega) (by omega)];exact I
    ·have:=B x i;rw[YQ];simp;omega
    ·have:=bC (a+1) sz;rw[YQ];simp;omega)
 refine⟨W,?_,n,λp hp=>by have:=m p hp;omega,by have:=bC 0 sz;omega⟩;unfold BV zc;simp[wB,wA,wz,wy,wx,j,af,c6 (lo:=0) (hi:=sz) (by omega) (by omega) (by omega) (by omega),e]
def bD(W:P0)(sz a:Int):List Int:=(cc 0 sz).filter λb=>decide ((min a b,max a b)∈W)
def JP(W:P0)(sz a:Int)(h0:0<=sz)(d:sz<=1000):(xz W sz a).res=.ok (bD W sz a):=by
 have e:∀s:S_bv9,s=⟨W,sz,a⟩->cP (aI (gM 0) (pC (·.vzq))) (aG (HI false) (fe (aG yz (pC λp=>p.2.v0q) (pC λp=>p.1)) (aG yA (pC λp=>p.2.v0q) (pC λp=>p.1))) (pC λp=>p.2.vDq)) (pC λp=>p.1) s=.ok (bD W sz a):=by
  rintro s rfl
  rw[jp (l:=cc 0 sz) (λb=>decide ((min a b,max a b)∈W)) (λx=>x) (by simp[c6 (lo:=0) (hi:=sz) (by omega) (by omega) (by omega) (by omega)]) (by rw[bC];unfold af;omega) (λb _=>by
   have e1:(if b<a then b else a)=min a b:=by rw[Int.min_def];split<;>split<;>omega
   have c:(if a<b then b else a)=max a b:=by rw[Al0];split<;>split<;>omega
   simp[e1,c]) (λb _ _=>by simp)]
  simp[bD]
 unfold xz zd
 first | (unfold wC) | skip
 simp only[aZ,aA];rw[e _ rfl];rfl
def Hb(l:List Int)(m:Int):0<=da l m↔0<=m/\∀x∈l,0<=x:=by
 obtain⟨e,f,d⟩:=iZ l m;constructor
 ·intro h;exact⟨by omega,λx c=>by have:=d x c;omega⟩
 · rintro⟨a,b⟩;rcases e with z|z
   ·omega
   ·exact b _ z
def lL(b:List Int)(n:Int)(h:∀x∈b,0<=x/\x<n)(h0:0<n):(sN b n).res=.ok ():=by
 unfold sN y6
 first | unfold wp | skip
 cases b with
 |nil=>
   have q:¬ n<=0:=by omega
   simp[q]
 |cons a l=>
   have g:0<=da l a:=(Hb l a).mpr ⟨(h a YK).1,λx e=>(h x (YM _ e)).1⟩
   have f:gj l a<n:=by
    obtain⟨z|z,_⟩:=jK l a
    ·rw[z];exact(h a YK).2
    ·exact(h _ (YM _ z)).2
   have d:¬ da l a<0:=by omega
   have c:¬ n<=gj l a:=by omega
   simp[d,c]
def jG(g:GΩ)(a:List Int)(h:∀x∈a,0<=x/\x<g.hω)(h0:0<g.hω):(rj g a).res=.ok ():=by
 have e:=lL a g.hω h h0;unfold rj IW
 first | unfold Bt | skip
 simp[e]
def in1{a n:Int}(c:0<=a/\a<n):∀x∈[a],0<=x/\x<n:=λx b=>by rw[YT.mp b];exact c
def Xy{a b n:Int}(e:0<=a/\a<n)(d:0<=b/\b<n):∀x∈[a,b],0<=x/\x<n:=λx c=>by
 rcases YS.mp c with z|z
 ·rw[z];exact e
 ·rw[YT.mp z];exact d
def yc(g:GΩ)(a b:Int)(f:0<=a/\a<g.hω)(d:0<=b/\b<g.hω)(c:a≠b):(DK g a b).res=.ok ():=by
 have e:=jG g [a,b] (Xy f d) (by omega);unfold DK IU;simp[Bn,Bm,e,c,af]
def Cj(g:GΩ)(a b:Int)(d:0<=a/\a<g.hω)(c:0<=b/\b<g.hω):(MI g a b).res=.ok ((g.lω.get [a,b]).getD 0):=by
 have e:=jG g [a,b] (Xy d c) (by omega);unfold MI IZ;simp[Bx,Bw,e,af]
def zR(g:GΩ)(r:List Int)(a:RoadOk g.hω r)(h:g.hω<=1000):(Js g r).res=.ok ():=by
 have f:=a.len;have two:=a.two;have e:=jG g r a.all (by omega);have d:¬ (r.length:Int)<2:=by omega
 have b:r.length<4000:=by omega
 have c:=a.last;unfold Js IV;simp[Bs,Br,Bq,Bp,e,d,b,Cl.qG,c,Ik a.nd]
def nO(L Q:DI Int)(r:List Int):Int:=(Q.get r).getD (match r with|a::b::_=>(L.get [a,b]).getD 0|_=>0)
def aJ(L Q:DI Int)(r:List Int):Int×Int×List Int:=(0-nO L Q r,(r.length:Int),r)
def DC(a b:W)(t:List W):ke (a::b::t) 0=some a:=by rw[mq _ (by omega)];rfl
def Oa(a b:W)(t:List W):ke (a::b::t) 1=some b:=by rw[mq _ (by omega)];rfl
def JU(g:GΩ)(r:List Int)(c:RoadOk g.hω r)(i:g.hω<=1000):(MH g r).res=.ok (nO g.lω g.wω r):=by
 have e:=zR g r c i
 obtain⟨a,b,t,rfl⟩:∃a b t,r=a::b::t:=by
  match r,c.two with
  |a::b::t,_=>exact⟨a,b,t,rfl⟩
 have h:=c.all a (by simp);have f:=c.all b (by simp);have d:=Cj g a b h f;unfold MH IX nO;cases q:g.wω.get (a::b::t) with
 |none=>simp[uM,uL,uK,i7,uJ,e,q,DC,Oa,d]
 |some v=>simp[uM,uL,uK,i7,uJ,e,q]
def Ei(L Q:DI Int)(r:List Int)(h:2<=r.length):(xB L Q r).res=.ok (aJ L Q r):=by
 obtain⟨a,b,t,rfl⟩:∃a b t,r=a::b::t:=by
  match r,h with
  |a::b::t,_=>exact⟨a,b,t,rfl⟩
 unfold xB zf aJ nO;cases q:Q.get (a::b::t) with
 |none=>simp[pq,pp,hZ,ph,q,DC,Oa]
 |some v=>simp[pq,pp,hZ,ph,q,DC,Oa]
def vO{L d Q c:DI Int}(f:∀k,L.get k=d.get k)(e:∀k,Q.get k=c.get k)(r:List Int):aJ L Q r=aJ d c r:=by
 unfold aJ nO;rw[e];cases r with
 |nil=>rfl
 | cons a r=>cases r with
   |nil=>rfl
   |cons b r=>simp only[f]
def Ek(g:GΩ)(r:List Int)(a:RoadOk g.hω r)(b:g.hω<=1000):(sM g r).res=.ok (aJ g.lω g.wω r):=by
 have e:=JU g r a b;unfold sM y0 aJ
 first | unfold wn | skip
 simp[e,Int.zero_sub]
def JQ(g:GΩ):(Jr g).res=.ok g.hω:=by
 unfold Jr IR
 first | unfold Bi | skip
 simp
def JX(g:GΩ)(a b v:Int)(f:0<=a/\a<g.hω)(d:0<=b/\b<g.hω)(c:g.lω.length<af):MK g a b v=.ok () ⟨{g with lω:=g.lω.put [a,b] v},a,b,v⟩:=by
 have e:=jG g [a,b] (Xy f d) (by omega);unfold MK I0;simp[Bz,By,e,c,af]<;>(unfold af at c;simp[c])
def JR(g:GΩ)(a b:Int)(h:0<=a/\a<g.hω)(f:0<=b/\b<g.hω)(c:a≠b)(d:g.sω.length<af):MG g a b=.ok () ⟨{g with sω:=g.sω.put [a,b] true},a,b⟩:=by
 have e:=yc g a b h f c;unfold MG IT;simp[Bl,Bk,e,d]
def JM(g:GΩ)(r:List Int)(v:Int)(a:RoadOk g.hω r)(c:g.hω<=1000)(b:g.wω.length<af):ME g r v=.ok () ⟨{g with wω:=g.wω.put r v},r,v⟩:=by
 have e:=zR g r a c;unfold ME IP;simp[Bh,Bg,e,b]
def Eh(g:GΩ)(a b:Int)(j:0<=a/\a<g.hω)(i:0<=b/\b<g.hω)(c:a≠b)(f:g.U.get [a,b]=none)(h:g.U.length+1<af):Ju g a b=.ok () ⟨{g with U:=(g.U.put [a,b] true).put [b,a] true},a,b⟩:=by
 have e:=yc g a b j i c;have d:g.U.length<af:=by omega
 have l2:(g.U.put [a,b] true).length<af:=Nat.lt_of_le_of_lt fP h;unfold Ju I9;simp[BI,BH,BG,BF,e,f,d,l2]
def JY(g:GΩ)(a b:Int)(k:0<=a/\a<g.hω)(j:0<=b/\b<g.hω)(c:a≠b)(i:(g.U.get [a,b]).isSome=true)(d:(g.U.get [b,a]).isSome=true):ML g a b=.ok () ⟨{g with U:=(g.U.del [a,b]).del [b,a]},a,b⟩:=by
 have e:=yc g a b k j c;obtain⟨x,ex⟩:=Aa4.mp i;obtain⟨y,l⟩:=Aa4.mp d
 have f:(g.U.del [a,b]).get [b,a]=some y:=by
  rw[jm,on (by intro z;injection z with h m;exact c h.symm)];exact l
 unfold ML I8;simp[BE,BD,BC,BA,e,ex,f]
structure GuildIs (g:GΩ) (sz:Int) (U:P0) (Y X:DI Int) (V:P0):Prop where
 count:g.hω=sz
 way:∀x y,(g.U.get [x,y]).isSome=true↔(x,y)∈U\/(y,x)∈U
 lik:∀k,g.lω.get k=Y.get k
 wsh:∀k,g.wω.get k=X.get k
 shn:∀x y,(g.sω.get [x,y]).isSome=true↔(x,y)∈V
def Few(g:GΩ):Prop:=g.U.length<=30000/\g.lω.length<=30000/\g.wω.length<=30000/\g.sω.length<=30000
structure DrawOk (sz:Int) (U:P0) (Y X:DI Int) (V:P0):Prop where
 size:1<=sz/\sz<=60
 U:WaysOk sz U
 Y:Y.length<=100/\DI.nd Y/\∀p∈Y,PairOk sz p.1
 X:X.length<=100/\DI.nd X/\∀p∈X,RoadOk sz p.1
 V:V.length<=100/\V.Nodup/\∀p∈V,BR sz p
def AW{X:Type}(k:List Int):DI.get ([]:DI X) k=none:=rfl
def tZ{X:Type}{F:DI X}(a:DI.nd F)(b:k∈F.map (·.1)):∃v,F.get k=some v/\(k,v)∈F:=by
 obtain⟨p,hp,rfl⟩:=Y9.mp b;exact⟨p.2,gW a hp,hp⟩
def mO{X:Type}{F:DI X}(a:k∉F.map (·.1)):F.get k=none:=by
 cases q:F.get k with
 |none=>rfl
 |some v=>exact absurd (Y9.mpr ⟨(k,v),oI q,rfl⟩) a
structure Wf (sz:Int) (g:GΩ):Prop where
 count:g.hω=sz
 U:DI.nd g.U/\∀p∈g.U,PairOk sz p.1
 lik:DI.nd g.lω/\∀p∈g.lω,PairOk sz p.1
 shn:DI.nd g.sω/\∀p∈g.sω,PairOk sz p.1
 wsh:DI.nd g.wω/\∀p∈g.wω,RoadOk sz p.1
def lQ{X:Type}{F:DI X}(h:DI.nd F):DI.nd (F.del k):=by
 unfold DI.nd DI.del at *;exact h.sublist (List.Sublist.map _ List.filter_sublist)
def fS{X:Type}{F:DI X}{k:List Int}{p:List Int×X}(h:p∈F.del k):p∈F:=(ZA.mp h).1
def Wf.lay{g:GΩ}(h:Wf sz g)(d:0<=a/\a<sz)(c:0<=b/\b<sz):Wf sz {g with U:=(g.U.put [a,b] true).put [b,a] true}:=
 ⟨h.count,⟨f9 (f9 h.U.1),dL (P:=PairOk sz) (dL (P:=PairOk sz) h.U.2 ⟨a,b,rfl,d.1,d.2,c.1,c.2⟩) ⟨b,a,rfl,c.1,c.2,d.1,d.2⟩⟩,h.lik,h.shn,h.wsh⟩
def Wf.lift{g:GΩ}(h:Wf sz g)(a b:Int):Wf sz {g with U:=(g.U.del [a,b]).del [b,a]}:=
 ⟨h.count,⟨lQ (lQ h.U.1),λp hp=>h.U.2 p (fS (fS hp))⟩,h.lik,h.shn,h.wsh⟩
def Wf.like{g:GΩ}(h:Wf sz g)(v:Int)(d:0<=a/\a<sz)(c:0<=b/\b<sz):Wf sz {g with lω:=g.lω.put [a,b] v}:=
 ⟨h.count,h.U,⟨f9 h.lik.1,dL (P:=PairOk sz) h.lik.2 ⟨a,b,rfl,d.1,d.2,c.1,c.2⟩⟩,h.shn,h.wsh⟩
def Wf.shun{g:GΩ}(h:Wf sz g)(d:0<=a/\a<sz)(c:0<=b/\b<sz):Wf sz {g with sω:=g.sω.put [a,b] true}:=
 ⟨h.count,h.U,h.lik,⟨f9 h.shn.1,dL (P:=PairOk sz) h.shn.2 ⟨a,b,rfl,d.1,d.2,c.1,c.2⟩⟩,h.wsh⟩
def Wf.wish{g:GΩ}(h:Wf sz g)(v:Int)(a:RoadOk sz k):Wf sz {g with wω:=g.wω.put k v}:=
 ⟨h.count,h.U,h.lik,h.shn,⟨f9 h.wsh.1,dL (P:=RoadOk sz) h.wsh.2 a⟩⟩
def Wf.new:Wf sz ⟨sz,[],[],[],[]⟩:=⟨rfl,⟨by unfold DI.nd;simp,by simp⟩,⟨by unfold DI.nd;simp,by simp⟩,⟨by unfold DI.nd;simp,by simp⟩,⟨by unfold DI.nd;simp,by simp⟩⟩
def E5{F:DI Bool}(h:(F.get [x,y]).isSome=true↔(x,y)∈p\/(y,x)∈p):((((F.put [a,b] true).put [b,a] true).get [x,y])).isSome=true↔(x,y)∈p++[(a,b)]\/(y,x)∈p++[(a,b)]:=by
 rw[db,db,YX,YX,YT,YT];by_cases e:[x,y]=[b,a]
 ·rw[YG e];injection e with e c;injection c with c;subst e c;simp
 · rw[on e];by_cases c:[x,y]=[a,b]
   ·rw[YG c];injection c with c d;injection d with d;subst c d;simp
   · rw[on c,h];constructor
     · rintro(z|z)
       ·exact .inl (.inl z)
       ·exact .inr (.inl z)
     · rintro((z|z) | (z|z))
       ·exact .inl z
       ·injection z with d f;subst d f;exact absurd rfl c
       ·exact .inr z
       ·injection z with d f;subst d f;exact absurd rfl e
def E4{F:DI Bool}(h:(F.get [x,y]).isSome=true↔(x,y)∈p):((F.put [a,b] true).get [x,y]).isSome=true↔(x,y)∈p++[(a,b)]:=by
 rw[db,YX,YT];by_cases c:[x,y]=[a,b]
 ·rw[YG c];injection c with c d;injection d with d;subst c d;simp
 · rw[on c,h];constructor
   ·exact .inl
   · rintro(z|z)
     ·exact z
     ·injection z with f e;subst f e;exact absurd rfl c
def vT{F G:DI Int}(h:∀j,F.get j=if j∈p then G.get j else none)(e:G.get k=some v)(j:List Int):(F.put k v).get j=if j∈p++[k] then G.get j else none:=by
 rw[db,h j];by_cases z:j=k
 ·subst z;rw[YG rfl,YG (by simp),e]
 · rw[on z];by_cases b:j∈p
   ·rw[YG b,YG (YU _ b)]
   · rw[on b,on (λa=>by
      rcases YX.mp a with a|a
      ·exact b a
      ·exact z (YT.mp a))]
def rB{X:DI Int}{V:P0}(h:DrawOk sz U Y X V):∃g,(xD sz U Y X V).res=.ok g/\GuildIs g sz U Y X V/\Few g/\Wf sz g:=by
 obtain⟨Z,W⟩:=h.size
 have e1:pz ⟨sz,U,Y,X,V,none,none,none,none,none⟩=.nx ⟨sz,U,Y,X,V,some ⟨sz,[],[],[],[]⟩,none,none,none,none⟩:=by
  simp[pz,gk,Z,W]
 obtain⟨s2,e2,g2,C,B,rfl,c2,l2,w2,n2,y2,len2⟩:=cO (u:=λa s=>{s with v0q:=some a.1,v1q:=some a.2}) (c:=j5) (λp (s:S_bq9)=>∃g N M,s=⟨sz,U,Y,X,V,some g,N,M,none,none⟩/\Wf sz g/\g.lω=[]/\g.wω=[]/\g.sω=[]/\(∀x y,(g.U.get [x,y]).isSome=true↔(x,y)∈p\/(y,x)∈p)/\g.U.length<=2*p.length)
  U ⟨sz,U,Y,X,V,some ⟨sz,[],[],[],[]⟩,none,none,none,none⟩ ⟨_,none,none,rfl,Wf.new,rfl,rfl,rfl,λx y=>by simp[AW],by simp⟩ (by
   rintro p ⟨a,b⟩ r s d ⟨g,N,M,rfl,f,hl,T,K,i,l⟩;have P:=f.count;have n:(a,b)∈U:=by rw[d];simp
   have A:=h.U.all _ n;have J:=h.U.nd;rw[d]at J;have S:=Zf.mp J;have hp1:(a,b)∉p:=λz=>S.2.2 _ z _ YK rfl
   have hp2:(b,a)∉p:=λz=>by
    have:(b,a)∈U:=by rw[d];exact YU _ z
    have:=h.U.all _ this
    simp only at A this;omega
   have m:p.length<=10000:=by
    have:=h.U.len
    rw[d,YQ]at this;omega
   simp only at A
   have gn:g.U.get [a,b]=none:=by
    cases q:g.U.get [a,b] with
    |none=>rfl
    |some v=>
      rcases(i a b).mp (by rw[q];rfl) with z|z
      ·exact absurd z hp1
      ·exact absurd z hp2
   have sp:=Eh g a b (by omega) (by omega) (by omega) gn (by unfold af;omega);refine⟨_,.inl (by simp[j5,sp]),{g with U:=(g.U.put [a,b] true).put [b,a] true},some a,some b,rfl,f.lay (by omega) (by omega),hl,T,K,λx y=>?_,?_⟩
   ·exact E5 (i x y)
   · show((g.U.put [a,b] true).put [b,a] true).length<=_
     have:=fP (F:=g.U.put [a,b] true) (k:=[b,a]) (v:=true)
     have:=fP (F:=g.U) (k:=[a,b]) (v:=true)
     rw[YQ];simp;omega)
 have hwl:=h.U.len
 obtain⟨s3,e3,g3,O,rfl,c3,w3,n3,q3,y3,k3,G⟩:=cO (u:=λa s=>{s with vmq:=some a}) (c:=j4) (λp (s:S_bq9)=>∃g p0,s=⟨sz,U,Y,X,V,some g,C,B,p0,none⟩/\Wf sz g/\g.wω=[]/\g.sω=[]/\g.U.length<=30000/\(∀x y,(g.U.get [x,y]).isSome=true↔(x,y)∈U\/(y,x)∈U)/\(∀k,g.lω.get k=if k∈p then Y.get k else none)/\g.lω.length<=p.length)
  (Y.map (·.1)) ⟨sz,U,Y,X,V,some g2,C,B,none,none⟩ ⟨g2,none,rfl,c2,w2,n2,by omega,y2,λk=>by rw[l2];rfl,by rw[l2];simp⟩ (by
    rintro p k r s d ⟨g,p0,rfl,f,T,K,I,i,L,l⟩;have P:=f.count;obtain⟨v,H,n⟩:=tZ h.Y.2.1 (k:=k) (by rw[d];simp);obtain⟨a,b,rfl,ha1,ha2,hb1,hb2⟩:=h.Y.2.2 _ n
    have m:p.length<=100:=by
     have:=h.Y.1
     have e:(Y.map (·.1)).length=Y.length:=YJ ..;rw[d,YQ]at e;omega
    have sp:=JX g a b v (by omega) (by omega) (by unfold af;omega);refine⟨_,.inl (by simp[j4,DC,Oa,H,sp]),{g with lω:=g.lω.put [a,b] v},some [a,b],rfl,f.like v (by omega) (by omega),T,K,I,i,λj=>?_,?_⟩
    ·exact vT L H j
    · show(g.lω.put [a,b] v).length<=_
      rw[YQ];exact Ze fP (by simp;omega))
 obtain⟨s4,e4,g4,p4,rfl,c4,n4,q4,y4,k4,E,f4,w⟩:=cO (u:=λa s=>{s with vgq:=some a}) (c:=j3) (λp (s:S_bq9)=>∃g k0,s=⟨sz,U,Y,X,V,some g,C,B,O,k0⟩/\Wf sz g/\g.sω=[]/\g.U.length<=30000/\(∀x y,(g.U.get [x,y]).isSome=true↔(x,y)∈U\/(y,x)∈U)/\(∀k,g.wω.get k=if k∈p then X.get k else none)/\g.wω.length<=p.length/\(∀k,g.lω.get k=Y.get k)/\g.lω.length<=30000)
  (X.map (·.1)) ⟨sz,U,Y,X,V,some g3,C,B,O,none⟩ ⟨g3,none,rfl,c3,n3,q3,y3,λk=>by rw[w3];rfl,by rw[w3];simp,λk=>by
    rw[k3 k];by_cases z:k∈Y.map (·.1)
    ·rw[YG z]
    ·rw[on z,mO z],by have:=h.Y.1;rw[YJ]at G;omega⟩ (by
    rintro p k r s d ⟨g,k0,rfl,f,K,I,i,L,l,hf,o⟩;have P:=f.count;obtain⟨v,H,n⟩:=tZ h.X.2.1 (k:=k) (by rw[d];simp);have hr:=h.X.2.2 _ n
    have m:p.length<=100:=by
     have:=h.X.1
     have e:(X.map (·.1)).length=X.length:=YJ ..;rw[d,YQ]at e;omega
    have sp:=JM g k v (by rw[P];exact hr) (by omega) (by unfold af;omega);refine⟨_,.inl (by simp[j3,H,sp]),{g with wω:=g.wω.put k v},some k,rfl,f.wish v hr,K,I,i,λj=>?_,?_,hf,o⟩
    ·exact vT L H j
    · show(g.wω.put k v).length<=_
      rw[YQ];exact Ze fP (by simp;omega))
 obtain⟨s5,e5,g5,a5,b5,rfl,c5,q5,y5,k5,D,f5,t,R,Q⟩:=cO (u:=λa s=>{s with v0q:=some a.1,v1q:=some a.2}) (c:=j2) (λp (s:S_bq9)=>∃g N M,s=⟨sz,U,Y,X,V,some g,N,M,O,p4⟩/\Wf sz g/\g.U.length<=30000/\(∀x y,(g.U.get [x,y]).isSome=true↔(x,y)∈U\/(y,x)∈U)/\(∀k,g.wω.get k=X.get k)/\g.wω.length<=30000/\(∀k,g.lω.get k=Y.get k)/\g.lω.length<=30000/\(∀x y,(g.sω.get [x,y]).isSome=true↔(x,y)∈p)/\g.sω.length<=p.length)
  V ⟨sz,U,Y,X,V,some g4,C,B,O,p4⟩ ⟨g4,C,B,rfl,c4,q4,y4,λk=>by
   rw[k4 k];by_cases z:k∈X.map (·.1)
   ·rw[YG z]
   ·rw[on z,mO z],by have:=h.X.1;rw[YJ]at E;omega,f4,w,λx y=>by rw[n4];simp[AW],by rw[n4];simp⟩ (by
   rintro p ⟨a,b⟩ r s d ⟨g,N,M,rfl,f,I,i,L,hkl,hf,o,hs,hsl⟩;have P:=f.count;have n:(a,b)∈V:=by rw[d];simp
   have A:=h.V.2.2 _ n;unfold BR at A;simp only at A
   have m:p.length<=100:=by
    have:=h.V.1
    rw[d,YQ]at this;omega
   have sp:=JR g a b (by omega) (by omega) A.2.2.2.2 (by unfold af;omega);refine⟨_,.inl (by simp[j2,sp]),{g with sω:=g.sω.put [a,b] true},some a,some b,rfl,f.shun (by omega) (by omega),I,i,L,hkl,hf,o,λx y=>?_,?_⟩
   ·exact E4 (hs x y)
   · show(g.sω.put [a,b] true).length<=_
     rw[YQ];exact Ze fP (by simp;omega))
 refine⟨g5,?_,⟨c5.count,y5,f5,k5,R⟩,⟨q5,t,D,by have:=h.V.1;omega⟩,c5⟩;unfold xD zg;simp only[ag,e1];simp[wO,wN,wM,wL,wK,e2,e3,e4,e5]
structure PathOk (sz:Int) (r:List Int):Prop where
 ne:r≠[]
 last:r.getLast?=some 0
 nd:r.Nodup
 all:∀x∈r,0<=x/\x<sz
def PathOk.len{r:List Int}(p:PathOk sz r):(r.length:Int)<=sz:=by
 have:=cA sz.toNat r p.nd λx a=>by have:=p.all x a;omega
 obtain⟨x,a⟩:=Ag0 r p.ne
 have:=p.all x a
 omega
def PathOk.road(p:PathOk sz r)(c:0<=h/\h<sz)(b:h∉r):RoadOk sz (h::r):=by
 obtain⟨q,t,rfl⟩:∃q t,r=q::t:=by
  cases r with
  |nil=>exact absurd rfl p.ne
  |cons q t=>exact⟨q,t,rfl⟩
 refine⟨by simp,?_,Y7.mpr ⟨b,p.nd⟩,λx a=>?_⟩
 ·rw[List.getLast?_cons_cons];exact p.last
 · rcases YS.mp a with z|z
   ·rw[z];exact c
   ·exact p.all x z
def RoadOk.path(h:RoadOk sz r):PathOk sz r:=⟨λz=>by have:=h.two;rw[z]at this;simp at this,h.last,h.nd,h.all⟩
def fM(sh:Int->Bool)(h:Int)(r:List Int):Bool:=!decide (h∈r)&&!r.any sh
def d6(sh:Int->Bool)(h:Int)(o:Option (List Int)):Option (List Int):=match o with
 |none=>none
 |some r=>if fM sh h r=true then some (h::r) else none
def dQ(sh:Int->Bool)(h:Int)(told:List (Option (List Int))):List (List Int):=told.filterMap (d6 sh h)
def eD(L Q:DI Int)(sh:Int->Bool)(h:Int)(told:List (Option (List Int))):Option (List Int):=if h=0 then some [0] else (ff ((dQ sh h told).map (aJ L Q))).map (·.2.2)
def jq(g:GΩ)(h b:Int):Bool:=(g.sω.get [h,b]).isSome
def qI{W:Type}(f:W->Bool):∀l:List W,(l.map f).any id=l.any f
 |[]=>rfl
 |a::l=>by rw[YI,Ab8,Ab8,qI f l];rfl
def Ef(g:GΩ)(a:Int)(c:List Int)(h:c.length<af):(MF g a c).res=.ok (c.any (jq g a)):=by
 have e:∀s:S_m9,s=⟨g,a,c⟩->cP (pC (·.veq)) (λ_=>.ok true) (aG (ud false) (aI ce (fe (pC λp=>p.2.v0q) (pC λp=>p.1))) (aI (λg=>.ok g.sω) (pC λp=>p.2.vxq))) s=.ok (c.map (jq g a)):=by
  rintro s rfl;exact jd (l:=c) (jq g a) rfl h λb _=>by simp[jq]
 unfold MF IS Bj;simp only[aZ,aA,aI];rw[e _ rfl];simp[qI]
def kF(sh:Int->Bool)(h:Int)(o:Option (List Int)):Bool:=match o with
 |none=>false
 |some r=>decide (h≠0)&&fM sh h r
def Eg(g:GΩ)(h:Int)(o:Option (List Int))(b:∀r,o=some r->r.length<af):(qO g h o).res=.ok (kF (jq g h) h o):=by
 unfold qO y8 kF;cases o with
 |none=>simp[jb,di]
 |some r=>
   by_cases h0:h=0
   ·simp[jb,di,h0]
   · by_cases a:h∈r
     ·simp[jb,di,h0,a,fM]
     ·simp[jb,di,wu,h0,a,fM,Ef g h r (b r rfl)]
def iM(h:Int)(a:List (Int×Int×List Int)):(xH h a).res=.ok (if h=0 then some [0] else (ff a).map (·.2.2)):=by
 unfold xH zr;by_cases h0:h=0
 ·simp[lw,lv,h0,af]
 · cases q:ff a with
   |none=>simp[lw,ql,qk,ik,h0,q]
   |some k=>simp[lw,ql,qk,ik,xa,h0,q]
def gX(L Q:DI Int)(sh:Int->Bool)(h:Int):∀told:List (Option (List Int)),((told.filter λo=>match o with|none=>false|some r=>fM sh h r).map λo=>match o with|none=>aJ L Q []|some r=>aJ L Q (h::r))=(dQ sh h told).map (aJ L Q)
 |[]=>rfl
 | none::told=>by
   rw[show dQ sh h (none::told)=dQ sh h told from rfl,<-gX L Q sh h told];rfl
 | some r::told=>by
   have:=gX L Q sh h told
   cases q:fM sh h r with
   |false=>simpa [dQ,d6,q] using this
   |true=>simpa [dQ,d6,q] using this
def Ck(g:GΩ)(h:Int)(told:List (Option (List Int)))(f:0<=h/\h<g.hω)(i:g.hω<=1000)(b:∀r,some r∈told->PathOk g.hω r)(d:told.length<af):
 (B5 g h told).res=.ok (eD g.lω g.wω (jq g h) h told):=by
 have e:∀s:S_bg9,s=⟨g,h,told,none⟩->cP (pC (·.vCq)) (iF qO (pC λp=>p.2.vcq) (pC λp=>p.2.vdq) (pC λp=>p.1)) (bK sM (pC λp=>p.2.vcq) (aG qW (qR (cw (pC λp=>p.2.vdq) (fL:_->Res (List Int)))) (aI fK (pC λp=>p.1)))) s
  =.ok ((told.filter (kF (jq g h) h)).map λo=>match o with|none=>aJ g.lω g.wω []|some r=>aJ g.lω g.wω (h::r)):=by
  rintro s rfl;refine jp (l:=told) _ _ rfl d (λo a=>?_) λo a hp=>?_
  · have:=Eg g h o (λr e=>by have:=(b r (e▸a)).len;unfold af;omega)
    simp[this]
  · cases o with
    |none=>cases hp
    |some r=>
      have hp:(decide (h≠0)&&fM (jq g h) h r)=true:=hp;have p:=b r a;have j:=p.len
      have c:h∉r:=by
       unfold fM at hp;simp at hp;exact hp.2.1
      have st:=Ek g (h::r) (p.road f c) i;have ct:=zA (l:=[h]) (m:=r) (by simp only[List.length_cons,List.length_nil];unfold af;omega);simp only[bK,pC,aG,qR,cw,fL,aI,fK,Res.bind,List.length_cons,List.length_nil];rw[if_pos (by decide)];simp only[Res.bind,ct];exact st
 unfold B5 zq;simp only[ag,w9,a8,aA];rw[e _ rfl];unfold eD;by_cases h0:h=0
 · have:=iM h ((told.filter (kF (jq g h) h)).map λo=>match o with|none=>aJ g.lω g.wω []|some r=>aJ g.lω g.wω (h::r))
   rw[YG h0]at this;rw[YG h0];simp only[qj,aZ,aA,bK,pC,vC,DT,Res.bind,this,bb,yi]
 · have:=iM h ((told.filter (kF (jq g h) h)).map λo=>match o with|none=>aJ g.lω g.wω []|some r=>aJ g.lω g.wω (h::r))
   rw[on h0]at this;rw[on h0];simp only[qj,aZ,aA,bK,pC,vC,DT,Res.bind,this,bb,yi]
   have q:kF (jq g h) h=λo=>match o with|none=>false|some r=>fM (jq g h) h r:=by
    funext o;cases o with
    |none=>rfl
    |some r=>simp[kF,h0]
   rw[q,gX]
def rO(c:List (Int×Int×List Int))(k:Int×Int×List Int):ff (c++[k])=some (match ff c with|none=>k|some b=>if bg k b=true then k else b):=by
 cases c with
 |nil=>rfl
 |cons a r=>
   show some ((r++[k]).foldl _ a)=_;rw[List.foldl_append];rfl
def iX:∀{c:List (Int×Int×List Int)} {k:Int×Int×List Int},ff c=some k->k∈c:=by
 intro c;cases c with
 |nil=>intro k h;cases h
 |cons a r=>
   intro k h
   have d:∀(r:List (Int×Int×List Int)) (a:Int×Int×List Int),r.foldl (λb x=>if bg x b=true then x else b) a∈a::r:=by
    intro r
    induction r with
    |nil=>intro a;simp
    |cons x r e=>
      intro a;rw[Ab6]
      have:=e (if bg x a=true then x else a)
      rcases YS.mp this with z|z
      · rw[z];split
        ·simp
        ·simp
      ·exact YM _ (YM _ z)
   injection h with h
   rw[<-h];exact d r a
def ml(L Q:DI Int)(sh:Int->Bool)(h:Int)(p:List (Option (List Int))):Option (List Int):=(ff ((dQ sh h p).map (aJ L Q))).map (·.2.2)
def Mj(e:ml L Q sh h p=some b):ff ((dQ sh h p).map (aJ L Q))=some (aJ L Q b)/\b∈dQ sh h p:=by
 unfold ml at e;obtain⟨k,a,rfl⟩:=Option.map_eq_some_iff.mp e;obtain⟨r,c,rfl⟩:=List.mem_map.mp (iX a);exact⟨a,c⟩
def eZ:dQ sh h (p++[o])=dQ sh h p++(match d6 sh h o with|none=>[]|some r=>[r]):=by
 unfold dQ;rw[List.filterMap_append];cases q:d6 sh h o<;>simp[q]
def CP(c:b∈dQ sh h p):∃r,some r∈p/\b=h::r/\fM sh h r=true:=by
 obtain⟨o,a,e⟩:=Af1.mp c;cases o with
 |none=>cases e
 |some r=>
   unfold d6 at e;dsimp only at e;by_cases q:fM sh h r=true
   ·rw[YG q]at e;cases e;exact⟨r,a,rfl,q⟩
   ·rw[on q]at e;cases e
def ji(V:P0)(h b:Int):Bool:=decide ((h,b)∈V)
def Ms{W:Type}{p:W->Bool}(l:List W):decide (0<((l.filter p).length:Int))=l.any p:=by
 by_cases h:l.any p=true
 · rw[h];obtain⟨x,a,hp⟩:=List.any_eq_true.mp h
   have:0<(l.filter p).length:=List.length_pos_of_mem (ZA.mpr ⟨a,hp⟩)
   exact Zj (by omega)
 · have h':l.any p=false:=by simpa using h
   rw[h']
   have:l.filter p=[]:=Ai8.mpr λx a hp=>h (List.any_eq_true.mpr ⟨x,a,hp⟩)
   rw[this];rfl
def J9(L Q:DI Int)(V:P0)(h:Int)(told:List (Option (List Int)))(D:∀r,some r∈told->r≠[]/\r.length<1000):(BZ L Q V h told).res=.ok (eD L Q (ji V h) h told):=by
 unfold BZ zm eD;by_cases h0:h=0
 ·simp[pW,lq,h0,af]
 · obtain⟨M,e,w,f,rfl⟩:=cO (u:=λa s=>{s with vtq:=some a}) (c:=je) (λp (s:S_bk9)=>∃w f,s=⟨L,Q,V,h,told,some (ml L Q (ji V h) h p),w,f⟩)
    told ⟨L,Q,V,h,told,some none,none,none⟩ ⟨none,none,rfl⟩ (by
     rintro p o r s E ⟨w,f,rfl⟩;cases o with
     |none=>
       refine⟨_,.inr ?_,some none,f,rfl⟩
       have:ml L Q (ji V h) h (p++[none])=ml L Q (ji V h) h p:=by unfold ml;rw[eZ];simp[d6]
       rw[this];simp[je,cU]
     |some r=>
       obtain⟨ne,N⟩:=D r (by rw[E];simp);have lz:r.length<af:=by unfold af;omega
       by_cases j:h∈r
       · refine⟨_,.inr ?_,some (some r),f,rfl⟩
         have:ml L Q (ji V h) h (p++[some r])=ml L Q (ji V h) h p:=by unfold ml;rw[eZ];simp[d6,fM,j]
         rw[this];simp[je,cU,j]
       · have z:∀s:S_bk9,s=⟨L,Q,V,h,told,some (ml L Q (ji V h) h p),some (some r),f⟩->cP (aI fK (vC (·.vtq))) (aG (HI false) (fe (pC λp=>p.2.vdq) (pC λp=>p.1)) (pC λp=>p.2.vyq)) (pC λp=>p.1) s=.ok (r.filter (ji V h)):=by
          rintro s rfl;rw[jp (l:=r) (ji V h) (λx=>x) (by simp) lz (λb _=>by simp[ji]) (λb _ _=>by simp)];simp
         have A:=Ms (p:=ji V h) r;have F:cU ⟨L,Q,V,h,told,some (ml L Q (ji V h) h p),some (some r),f⟩=.nx ⟨L,Q,V,h,told,some (ml L Q (ji V h) h p),some (some r),f⟩:=by simp[cU,j]
         have v:fy ⟨L,Q,V,h,told,some (ml L Q (ji V h) h p),some (some r),f⟩=if r.any (ji V h)=true then .ct ⟨L,Q,V,h,told,some (ml L Q (ji V h) h p),some (some r),f⟩ else .nx ⟨L,Q,V,h,told,some (ml L Q (ji V h) h p),some (some r),f⟩:=by
          simp only[fy,fX,aA,aG,aI];rw[z _ rfl];simp only[Res.bind,gr,kC,Db,DT,A,Mf,bc]
         cases d:r.any (ji V h) with
         |true=>
           rw[d,YG rfl]at v;refine⟨_,.inr ?_,some (some r),f,rfl⟩
           have:ml L Q (ji V h) h (p++[some r])=ml L Q (ji V h) h p:=by unfold ml;rw[eZ];simp[d6,fM,j,d]
           rw[this];show ag cU (ag fy _) _=_;simp only[ag,F,v]
         |false=>
           rw[d,if_neg Bool.false_ne_true]at v;have ct:=zA (l:=[h]) (m:=r) (by simp only[List.length_cons,List.length_nil];unfold af;omega)
           have K:ii ⟨L,Q,V,h,told,some (ml L Q (ji V h) h p),some (some r),f⟩=.nx ⟨L,Q,V,h,told,some (ml L Q (ji V h) h p),some (some r),some (h::r)⟩:=by
            simp only[ii,a8,aA,aG,qR,cw,fL,pC,aI,vC,fK,Res.bind,YO,List.length_nil];rw[YG (by decide)];simp only[Res.bind,ct];rfl
           have C:d6 (ji V h) h (some r)=some (h::r):=by simp[d6,fM,j,d]
           have two:2<=(h::r).length:=by
            cases r with
            |nil=>exact absurd rfl ne
            |cons q t=>simp
           have kx:=Ei L Q (h::r) two;refine⟨⟨L,Q,V,h,told,some (ml L Q (ji V h) h (p++[some r])),some (some r),some (h::r)⟩,.inl ?_,_,_,rfl⟩;show ag cU (ag fy (ag ii ig)) _=_;simp only[ag,F,v,K];cases n:ml L Q (ji V h) h p with
           |none=>
             have B:ml L Q (ji V h) h (p++[some r])=some (h::r):=by
              unfold ml at n ⊢;rw[eZ,C,List.map_append];show(ff (((dQ (ji V h) h p).map (aJ L Q))++[aJ L Q (h::r)])).map _=_;rw[rO];cases q:ff ((dQ (ji V h) h p).map (aJ L Q)) with
              |none=>rfl
              |some k=>rw[q]at n;cases n
             rw[B];simp[ig,ft]
           |some b=>
             obtain⟨I,H⟩:=Mj n;obtain⟨g,y,rfl,_⟩:=CP H
             have i:2<=(h::g).length:=by
              have:=(D g (by rw[E];exact YU _ y)).1
              cases g with
              |nil=>exact absurd rfl this
              |cons q t=>simp
             have G:=Ei L Q (h::g) i
             have B:ml L Q (ji V h) h (p++[some r])=some (if bg (aJ L Q (h::r)) (aJ L Q (h::g))=true then h::r else h::g):=by
              unfold ml;rw[eZ,C,List.map_append];show(ff (((dQ (ji V h) h p).map (aJ L Q))++[aJ L Q (h::r)])).map _=_;rw[rO,I];show some (if bg (aJ L Q (h::r)) (aJ L Q (h::g))=true then aJ L Q (h::r) else aJ L Q (h::g)).2.2=_;split<;>rfl
             rw[B]
             cases q:bg (aJ L Q (h::r)) (aJ L Q (h::g))<;>simp[ig,ft,kx,G,q])
   rw[on h0];have J:iG (λa s=>{s with vtq:=some a}) je told ⟨L,Q,V,h,told,some none,none,none⟩=_:=e;simp[pW,wZ,wY,wX,h0,J,ml]
def aR(sz:Int)(P:DI Bool)(a:Int):List Int:=(cc 0 sz).filter λb=>(P.get [a,b]).isSome
def Ci(g:GΩ)(P:DI Bool)(a:Int)(h0:0<=g.hω)(c:g.hω<=1000):(MM g P a).res=.ok (aR g.hω P a):=by
 have e:∀s:S_b9,s=⟨g,P,a⟩->cP (aI (gM 0) (aI (λg=>.ok g.hω) (pC (·.vxq)))) (aG (ud false) (aI ce (fe (pC λp=>p.2.v0q) (pC λp=>p.1))) (pC λp=>p.2.vnq)) (pC λp=>p.1) s=.ok (aR g.hω P a):=by
  rintro s rfl;rw[jp (l:=cc 0 g.hω) (λb=>(P.get [a,b]).isSome) (λx=>x) (by simp[c6 (lo:=0) (hi:=g.hω) (by omega) (by omega) (by omega) (by omega)]) (by rw[bC];unfold af;omega) (λb _=>by simp) (λb _ _=>by simp)];simp[aR]
 unfold MM Ja BJ;simp only[aZ,aA];rw[e _ rfl];rfl
def jw(g:GΩ)(a:Int)(b:0<=a/\a<g.hω)(c:g.hω<=1000):(Jt g a).res=.ok (aR g.hω g.U a):=by
 have e:=jG g [a] (in1 b) (by omega);have d:=Ci g g.U a (by omega) c;unfold Jt IY;simp[Bv,Bu,e,d,af]
def jv(told:List (Option (List Int)))(n:Int)(h0:0<n)(b:∀r,some r∈told->PathOk n r):(xy told n).res=.ok ():=by
 obtain⟨f,e,x,rfl⟩:=kS (u:=λa s=>{s with vtq:=some a}) (c:=hC) (λs:S_bz9=>∃x,s=⟨told,n,x⟩) told ⟨told,n,none⟩ ⟨none,rfl⟩ (by
  rintro o s d ⟨x,rfl⟩;cases o with
  |none=>exact⟨_,.inl (by simp[hC];rfl),_,rfl⟩
  |some r=>
    have:=lL r n (b r d).all h0
    exact⟨_,.inl (by simp[hC,ja,this];rfl),_,rfl⟩)
 unfold xy y7 wq;simp[e]
def ao(T:List (Option (List Int)))(h:Int):Option (List Int):=T.getD h.toNat none
def bz(T:List (Option (List Int)))(bs:List Int):List (Option (List Int)):=bs.map (ao T)
def zI{T:List (Option (List Int))}{b:Int}(h0:0<=b)(a:b<T.length):ke T b=some (ao T b):=by
 rw[mq T h0,List.getElem?_eq_getElem (by omega)];unfold ao;rw[List.getD_eq_getElem?_getD,List.getElem?_eq_getElem (by omega)];rfl
def l6(h:ao T b=some r):some r∈T:=by
 unfold ao at h;rw[List.getD_eq_getElem?_getD]at h;cases q:T[b.toNat]? with
 |none=>rw[q]at h;cases h
 |some o=>rw[q]at h;have h:o=some r:=h;subst h;exact ZF q
def nG(h:some r∈bz T bs):some r∈T:=by
 obtain⟨b,_,e⟩:=Y9.mp h;exact l6 e
structure TableOk (sz:Int) (T:List (Option (List Int))):Prop where
 len:(T.length:Int)=sz
 all:∀r,some r∈T->PathOk sz r
def kU(best:Int->List (Option (List Int))->Option (List Int))(a:Int->List Int)(T:List (Option (List Int))):Option Int:=(cc 0 T.length).find? λh=>decide (best h (bz T (a h))≠ao T h)
def jM(h:b∈aR sz P a):0<=b/\b<sz:=cB.mp (ZA.mp h).1
def oq(c:sz<=1000):(aR sz P a).length<af:=by
 have:=Ab9 (λb=>(P.get [a,b]).isSome) (cc 0 sz)
 rw[bC]at this;unfold af;unfold aR;omega
def Cd{src:Z->Res (List Int)}{tab:Z->List (Option (List Int))}{bs:List Int}(d:src s=.ok bs)(c:∀b∈bs,0<=b/\b<(tab s).length)(e:bs.length<af):
 cP src (λ_=>.ok true) (aG jr (pC λp=>tab p.2) (pC λp=>p.1)) s=.ok (bz (tab s) bs):=
 jd (l:=bs) (ao (tab s)) d e λb a=>by simp[zI (c b a).1 (c b a).2]
def sZ(g:GΩ)(T:List (Option (List Int)))(k:TableOk g.hω T)(h0:0<g.hω)(j:g.hω<=1000):
 (B0 g T).res=.ok (kU (λh=>eD g.lω g.wω (jq g h) h) (aR g.hω g.U) T):=by
 have A:=jv T g.hω h0 k.all;have l:=JQ g;have d:=k.len
 obtain⟨C,z,w⟩:=sk (u:=λa s=>{s with vdq:=some a}) (c:=xm) (λs:S_bi9=>∃x y,s=⟨g,T,x,y⟩) (λh=>decide (eD g.lω g.wω (jq g h) h (bz T (aR g.hω g.U h))≠ao T h)) (λh=>some h) (cc 0 T.length) ⟨g,T,none,none⟩ ⟨none,none,rfl⟩ (by
  rintro h s t ⟨x,y,rfl⟩;have i:=cB.mp t;have B:=jw g h (by omega) j
  have e1:fD ⟨g,T,some h,y⟩=.nx ⟨g,T,some h,some (bz T (aR g.hω g.U h))⟩:=by
   unfold fD a8 aA;rw[Cd (bs:=aR g.hω g.U h) (tab:=λp:S_bi9=>p.vBq) (by simp[B]) (λb v=>by have:=jM v;show 0<=b/\b<(T.length:Int);omega) (oq j)];rfl
  have m:=Ck g h (bz T (aR g.hω g.U h)) (by omega) j (λr o=>k.all r (nG o)) (by unfold bz;rw[List.length_map];exact oq j);have n:=zI (T:=T) (b:=h) i.1 i.2;refine⟨⟨g,T,some h,some (bz T (aR g.hω g.U h))⟩,λhp=>?_,λhp=>⟨.inl ?_,_,_,rfl⟩⟩
  · have hp:eD g.lω g.wω (jq g h) h (bz T (aR g.hω g.U h))≠ao T h:=by simpa using hp
    show ag fD fB ⟨g,T,some h,y⟩=_;simp only[ag,e1];simp[fB,fA,m,n,hp]
  · have hp:eD g.lω g.wω (jq g h) h (bz T (aR g.hω g.U h))=ao T h:=by simpa using hp
    show ag fD fB ⟨g,T,some h,y⟩=_;simp only[ag,e1]
    simp[fB,fA,m,n,hp])
 have e0:qh ⟨g,T,none,none⟩=.nx ⟨g,T,none,none⟩:=by simp[qh,l,A]
 have rc:=c6 (lo:=0) (hi:=g.hω) (by omega) (by omega) (by omega) (by omega);rw[<-d]at rc;have f:gM 0 g.hω=.ok (cc 0 T.length):=by rw[<-d];exact rc
 unfold B0 zo kU;simp only[ag,e0];cases q:(cc 0 T.length).find? (λh=>decide (eD g.lω g.wω (jq g h) h (bz T (aR g.hω g.U h))≠ao T h)) with
 |some h=>
   have e:=z h q;simp[qg,l,f,e]
 |none=>
   obtain⟨e,x,y,rfl⟩:=w q;simp[qg,w6,l,f,e]
def F1(h:b∈bD W sz a):0<=b/\b<sz:=cB.mp (ZA.mp h).1
def G5(c:sz<=1000):(bD W sz a).length<af:=by
 have:=Ab9 (λb=>decide ((min a b,max a b)∈W)) (cc 0 sz)
 rw[bC]at this;unfold af;unfold bD;omega
def yp{r:List Int}(h:PathOk sz r)(a:sz<=900):r≠[]/\r.length<1000:=⟨h.ne,by have:=h.len;omega⟩
def M5(h:0<sz):PathOk sz [0]:=⟨by simp,rfl,by simp,λx a=>by rw[YT.mp a];omega⟩
def TableOk.set{T:List (Option (List Int))}(h:TableOk sz T)(j:Nat)(o:Option (List Int))(b:∀r,o=some r->PathOk sz r):TableOk sz (T.set j o):=⟨by rw[Za];exact h.len,λr a=>by
 rcases Aa1 a with z|z
 ·exact h.all r z
 ·exact b r z.symm⟩
def Ed(x:Int):(BU x).res=.ok true:=by
 unfold BU y9 wv;simp
def gg(c:WaysOk sz W)(a b:Int):((a,b)∈W\/(b,a)∈W)↔(min a b,max a b)∈W:=by
 constructor
 · rintro(z|z)
   · have:=(c.all _ z).2.1
     rw[show min a b=a by simp only at this;omega,show max a b=b by simp only at this;omega];exact z
   · have:=(c.all _ z).2.1
     rw[show min a b=b by simp only at this;omega,show max a b=a by simp only at this;omega];exact z
 · intro z;by_cases q:a<=b
   ·rw[show min a b=a by omega,show max a b=b by omega]at z;exact .inl z
   ·rw[show min a b=b by omega,show max a b=a by omega]at z;exact .inr z
def mF{g:GΩ}{V:P0}(G:GuildIs g sz W L Q V)(c:WaysOk sz W):aR sz g.U=bD W sz:=by
 funext a;unfold aR bD;refine List.filter_congr λb _=>?_;rw[Bool.eq_iff_iff,G.way,gg c,decide_eq_true_iff]
def qE{g:GΩ}{V:P0}(G:GuildIs g sz W L Q V)(h:Int):eD g.lω g.wω (jq g h) h=eD L Q (ji V h) h:=by
 have e1:aJ g.lω g.wω=aJ L Q:=funext λr=>vO G.lik G.wsh r
 have a:jq g h=ji V h:=funext λb=>by
  unfold jq ji;rw[Bool.eq_iff_iff,G.shn,decide_eq_true_iff]
 unfold eD;rw[e1,a]
def GuildIs.lay{g:GΩ}{V:P0}(G:GuildIs g sz W L Q V)(a b:Int):GuildIs {g with U:=(g.U.put [a,b] true).put [b,a] true} sz (W++[(min a b,max a b)]) L Q V:=by
 refine⟨G.count,λx y=>?_,G.lik,G.wsh,G.shn⟩;show(((g.U.put [a,b] true).put [b,a] true).get [x,y]).isSome=true↔_;rw[db,db,YX,YX,YT,YT];by_cases d:[x,y]=[b,a]
 · rw[YG d];injection d with d c;injection c with c;subst d c
   simp only[Af5,true_iff];by_cases q:x<=y
   ·exact .inl (.inr (by rw[show min y x=x by omega,show max y x=y by omega]))
   ·exact .inr (.inr (by rw[show min y x=y by omega,show max y x=x by omega]))
 · rw[on d];by_cases c:[x,y]=[a,b]
   · rw[YG c];injection c with c h;injection h with h;subst c h
     simp only[Af5,true_iff];by_cases q:x<=y
     ·exact .inl (.inr (by rw[show min x y=x by omega,show max x y=y by omega]))
     ·exact .inr (.inr (by rw[show min x y=y by omega,show max x y=x by omega]))
   · rw[on c,G.way];constructor
     · rintro(z|z)
       ·exact .inl (.inl z)
       ·exact .inr (.inl z)
     · have no:∀u v:Int,(u,v)=(min a b,max a b)->[u,v]=[a,b]\/[u,v]=[b,a]:=λu v e=>by
        injection e with e1 f
        by_cases q:a<=b
        ·exact .inl (by rw[e1,f,show min a b=a by omega,show max a b=b by omega])
        ·exact .inr (by rw[e1,f,show min a b=b by omega,show max a b=a by omega])
       have i:∀{u v p q:Int},[u,v]=[p,q]->[v,u]=[q,p]:=λe=>by injection e with e1 f;injection f with f;rw[e1,f]
       rintro((z|z) | (z|z))
       ·exact .inl z
       · rcases no _ _ z with w|w
         ·exact absurd w c
         ·exact absurd w d
       ·exact .inr z
       · rcases no _ _ z with w|w
         ·exact absurd (i w) d
         ·exact absurd (i w) c
def GuildIs.lift{g:GΩ}{V:P0}(G:GuildIs g sz W L Q V)(o:WaysOk sz W)(a b:Int)(l:∀p,p∈m↔p∈W/\p≠(min a b,max a b)):GuildIs {g with U:=(g.U.del [a,b]).del [b,a]} sz m L Q V:=by
 refine⟨G.count,λx y=>?_,G.lik,G.wsh,G.shn⟩;show(((g.U.del [a,b]).del [b,a]).get [x,y]).isSome=true↔_;rw[jm,jm,l,l]
 have no:∀u v:Int,(u,v)=(min a b,max a b)->[u,v]=[a,b]\/[u,v]=[b,a]:=λu v e=>by
  injection e with e1 c
  by_cases q:a<=b
  ·exact .inl (by rw[e1,c,show min a b=a by omega,show max a b=b by omega])
  ·exact .inr (by rw[e1,c,show min a b=b by omega,show max a b=a by omega])
 have d:∀u v:Int,(u,v)∈W->[u,v]=[a,b]\/[u,v]=[b,a]->(u,v)=(min a b,max a b):=λu v n e=>by
  have:=(o.all _ n).2.1
  simp only at this;rcases e with e|e<;>(injection e with e1 c;injection c with c;subst e1 c)
  ·rw[show min u v=u by omega,show max u v=v by omega]
  ·rw[show min v u=u by omega,show max v u=v by omega]
 have k:∀{u v p q:Int},[u,v]=[p,q]->[v,u]=[q,p]:=λe=>by injection e with e1 c;injection c with c;rw[e1,c]
 by_cases j:[x,y]=[b,a]
 · rw[YG j];simp only[Option.isSome_none,Ab4,false_iff];rintro(⟨h,f⟩|⟨h,f⟩)
   ·exact f (d _ _ h (.inr j))
   ·exact f (d _ _ h (.inl (k j)))
 · rw[on j];by_cases i:[x,y]=[a,b]
   · rw[YG i];simp only[Option.isSome_none,Ab4,false_iff];rintro(⟨h,f⟩|⟨h,f⟩)
     ·exact f (d _ _ h (.inl i))
     ·exact f (d _ _ h (.inr (k i)))
   · rw[on i,G.way];constructor
     · rintro(w|w)
       · refine .inl ⟨w,λe=>?_⟩;rcases no _ _ e with v|v
         ·exact i v
         ·exact j v
       · refine .inr ⟨w,λe=>?_⟩;rcases no _ _ e with v|v
         ·exact j (k v)
         ·exact i (k v)
     · rintro(⟨w,_⟩|⟨w,_⟩)
       ·exact .inl w
       ·exact .inr w
def EY[DecidableEq W]:∀{xs:List W} {x:W},x∈xs->xs.Nodup->∃b,yl xs x=some ((),b)/\b.Nodup/\b.length<=xs.length/\∀y,y∈b↔y∈xs/\y≠x
 |[],x,h,_=>(nomatch h)
 | z::xs,x,h,nd=>by
   have a:=Y7.mp nd;by_cases e:z=x
   · subst e;refine⟨xs,by unfold yl;simp[List.findIdx?_cons],a.2,by simp,λy=>?_⟩;constructor
     ·exact λd=>⟨YM _ d,λw=>a.1 (w▸d)⟩
     · rintro⟨d,m⟩;rcases YS.mp d with w|w
       ·exact absurd w m
       ·exact w
   · have l:x∈xs:=by
      rcases YS.mp h with w|w
      ·exact absurd w.symm e
      ·exact w
     obtain⟨b,i,p,o,g⟩:=EY l a.2;unfold yl at i;obtain⟨j,n,c⟩:=Option.map_eq_some_iff.mp i;have c:xs.eraseIdx j=b:=by injection c
     refine⟨z::b,?_,Y7.mpr ⟨λw=>a.1 ((g z).mp w).1,p⟩,by simpa using o,λy=>?_⟩
     ·unfold yl;rw[List.findIdx?_cons,decide_eq_false e,n];simp[c]
     · rw[YS,YS,g];constructor
       · rintro(w|⟨k,f⟩)
         ·exact⟨.inl w,by rw[w];exact e⟩
         ·exact⟨.inr k,f⟩
       · rintro⟨w|w,f⟩
         ·exact .inl w
         ·exact .inr ⟨w,f⟩
def HU:Nat->List Int->List (List Int)
 |0,_=>[[]]
 |n+1,l=>[]::l.flatMap λx=>(HU n (l.erase x)).map (x::·)
def sr:∀(n:Nat) (b l:List Int),l.Nodup->(∀x∈l,x∈b)->l.length<=n->l∈HU n b
 |0,b,l,_,_,h=>by rw[Zi.mp (Nat.le_zero.mp h)];exact YK
 |n+1,b,[],_,_,_=>YK
 | n+1,b,x::t,nd,d,h=>by
   have a:=Y7.mp nd;refine YM _ (List.mem_flatMap.mpr ⟨x,d x YK,Y9.mpr ⟨t,sr n _ t a.2 (λy c=>?_) (by simpa using h),rfl⟩⟩);exact(List.mem_erase_of_ne λe=>a.1 (by rw[<-e];exact c)).mpr (d y (YM _ c))
def AR{W X:Type}{f:W->X}:∀{l:List W},(l.map f).Nodup->∀a∈l,∀b∈l,f a=f b->a=b
 |[],_,a,c,_,_,_=>by cases c
 | x::l,h,a,c,b,d,e=>by
   rw[YI,Y7]at h;rcases YS.mp c with z|z<;>rcases YS.mp d with w|w
   ·rw[z,w]
   ·subst z;exact(h.1 (Y9.mpr ⟨b,w,e.symm⟩)).elim
   ·subst w;exact(h.1 (Y9.mpr ⟨a,z,e⟩)).elim
   ·exact AR h.2 a z b w e
def n0{S:List (List Int)}(j:(S.map cI).Nodup){c:List (List Int)}(f:c.Nodup)(h:∀k∈c,k∈S):(c.map cI).Nodup:=by
 unfold List.Nodup;rw[List.pairwise_map];refine List.Pairwise.imp_of_mem ?_ f;intro a b i g d e;exact d (AR j a (h a i) b (h b g) e)
def Fs(n:Int):List (List Int):=(cc 0 n).flatMap λx=>(cc 0 n).map λy=>[x,y]
def CS(h:PairOk n k):k∈Fs n:=by
 obtain⟨a,b,rfl,f,e,d,c⟩:=h;exact List.mem_flatMap.mpr ⟨a,cB.mpr ⟨f,e⟩,Y9.mpr ⟨b,cB.mpr ⟨d,c⟩,rfl⟩⟩
def PairOk.mono(c:m<=n)(h:PairOk m k):PairOk n k:=by
 obtain⟨a,b,rfl,e,g,d,f⟩:=h;exact⟨a,b,rfl,e,by omega,d,by omega⟩
def CD(m:sz<=60){g:List (List Int)}(nd:g.Nodup)(h:∀k∈g,PairOk sz k):g.length<=3600:=by
 have:=cA 3600 (g.map λk=>k.getD 0 0*60+k.getD 1 0) (by
  unfold List.Nodup;rw[List.pairwise_map];refine List.Pairwise.imp_of_mem ?_ nd;intro p q hp j f e;obtain⟨a,b,rfl,s,r,o,n⟩:=h p hp;obtain⟨c,d,rfl,y,w,v,u⟩:=h q j;simp at e;have e1:a=c:=by omega
  have t:b=d:=by omega
  rw[e1,t]at f;exact f rfl) (λx i=>by
  obtain⟨k,l,rfl⟩:=Y9.mp i;obtain⟨a,b,rfl,s,r,o,n⟩:=h k l;simp
  omega)
 rwa [YJ]at this
def i5{X:Type}(a:sz<=60){F:DI X}(h:DI.nd F/\∀q∈F,PairOk sz q.1):F.length<=3600:=by
 have nd:(List.map Prod.fst F).Nodup:=h.1
 have:=CD a nd λk c=>by obtain⟨q,b,rfl⟩:=Y9.mp c;exact h.2 q b
 rwa [YJ]at this
def Ly{X:Type}{F:DI X}{k:List Int}{v:X}{q:List Int×X}(h:q∈F.put k v):q∈F\/q=(k,v):=by
 unfold DI.put at h;split at h
 · obtain⟨p,hp,e⟩:=Y9.mp h;by_cases z:p.1=k
   ·rw[YG z]at e;rw[<-e,z];exact .inr rfl
   ·rw[on z]at e;rw[<-e];exact .inl hp
 · rcases YX.mp h with z|z
   ·exact .inl z
   ·exact .inr (YT.mp z)
structure Hs (g:GΩ):Prop where
 U:((g.U.map (·.1)).map cI).Nodup
 lik:((g.lω.map (·.1)).map cI).Nodup
 shn:((g.sω.map (·.1)).map cI).Nodup
 wsh:((g.wω.map (·.1)).map cI).Nodup
def Ol{a:Z->Option (DI W)}{p:Z->DI W->Z}{c:Z->Res (DI W)}{F:DI W}(e:a s=some [])(d:c s=.ok F)(b:((F.map (·.1)).map cI).Nodup):sT a p c s=.ok () (p s F):=by
 unfold sT;rw[e];dsimp only;rw[d];show(if ((F.map (·.1)).map cI).Nodup then OutC.ok () (p s F) else .bad)=_;rw[if_pos b]
def nu{X:Type}{a:Z->Option (DI W)}{p:Z->DI W->Z}{c:Z->Res (DI W)}(F:DI W)(e:a s=some [])(d:c s=.ok F)(b:((F.map (·.1)).map cI).Nodup):(aC (sT a p c):Z->FlC Z X) s=.nx (p s F):=by
 unfold aC;rw[Ol e d b];rfl
def JO{g:GΩ}(c:1<=g.hω)(b:g.hω<=60)(a:Hs g):∃s,Jq g=.ok g s:=by
 have e1:uI ⟨g,none⟩=.nx ⟨g,some ⟨g.hω,[],[],[],[]⟩⟩:=by simp[uI,gk,c,b]
 have h:uH ⟨g,some ⟨g.hω,[],[],[],[]⟩⟩=.nx ⟨g,some ⟨g.hω,g.U,[],[],[]⟩⟩:=by
  unfold uH;exact nu g.U rfl rfl a.U
 have f:uG ⟨g,some ⟨g.hω,g.U,[],[],[]⟩⟩=.nx ⟨g,some ⟨g.hω,g.U,g.lω,[],[]⟩⟩:=by
  unfold uG;exact nu g.lω rfl rfl a.lik
 have e:uF ⟨g,some ⟨g.hω,g.U,g.lω,[],[]⟩⟩=.nx ⟨g,some ⟨g.hω,g.U,g.lω,g.sω,[]⟩⟩:=by
  unfold uF;exact nu g.sω rfl rfl a.shn
 have d:uE ⟨g,some ⟨g.hω,g.U,g.lω,g.sω,[]⟩⟩=.nx ⟨g,some g⟩:=by
  unfold uE;exact nu g.wω rfl rfl a.wsh
 unfold Jq IQ;simp only[ag,e1,h,f,e,d];exact⟨_,rfl⟩
abbrev rh:=Int×Int×List Int
def bw(p:PostT)(h:Int):DJ rh:=p.standings.getD h.toNat []
structure PW (sz:Int) (p:PostT):Prop where
 g:Wf sz p.guild
 roads:TableOk sz p.roads
 told:DI.nd p.told_last/\∀q∈p.told_last,PairOk sz q.1
 wrt:DI.nd p.written_last/\∀q∈p.written_last,PairOk sz q.1
 lts:DI.nd p.letters/\∀q∈p.letters,PairOk sz q.1
 ltv:∀q∈p.letters,∀r,q.2=some r->PathOk sz r
 sln:(p.standings.length:Int)=sz
 stn:∀F∈p.standings,DJ.nd F/\∀q∈F,(0<=q.1/\q.1<sz)/\PathOk sz q.2.2.2
def ba(p:PostT)(w r:Int):PostT:=if (p.written_last.get [w,r]).bind id=ao p.roads w then p else {p with written_last:=p.written_last.put [w,r] (ao p.roads w),letters:=p.letters.put [w,r] (ao p.roads w)}
def nJ(P:PW sz p)(a:sz<=60)(w r:Int)(d:0<=w/\w<sz):∃o,sP p w r=.ok () ⟨ba p w r,w,r,o⟩:=by
 have DC:ke p.roads w=some (ao p.roads w):=zI d.1 (by have:=P.roads.len;omega);have e1:qo ⟨p,w,r,none⟩=.nx ⟨p,w,r,some (ao p.roads w)⟩:=by simp[qo,DC]
 have e:=i5 a P.wrt;have l2:=i5 a P.lts;refine⟨some (ao p.roads w),?_⟩;unfold sP zu ba;simp only[ag,e1];by_cases q:(p.written_last.get [w,r]).bind id=ao p.roads w
 ·rw[YG q];simp[qm,lx,q]
 · rw[if_neg q];have c:p.written_last.length<af:=by unfold af;omega
   have b:p.letters.length<af:=by unfold af;omega
   simp[qm,xf,xc,q,c,b]
def PW.write(P:PW sz p)(a:0<=w/\w<sz)(b:0<=r/\r<sz):PW sz (ba p w r):=by
 unfold ba;split
 ·exact P
 · have k:PairOk sz [w,r]:=⟨w,r,rfl,a.1,a.2,b.1,b.2⟩;refine⟨P.g,P.roads,P.told,⟨f9 P.wrt.1,dL (P:=PairOk sz) P.wrt.2 k⟩,⟨f9 P.lts.1,dL (P:=PairOk sz) P.lts.2 k⟩,λq c r e=>?_,P.sln,P.stn⟩;rcases Ly c with z|z
   ·exact P.ltv q z r e
   ·subst z;exact P.roads.all r (l6 e)
def iK(p:PostT)(w r:Int):(ba p w r).guild=p.guild:=by unfold ba;split<;>rfl
def cV(p:PostT)(w r:Int):(ba p w r).roads=p.roads:=by unfold ba;split<;>rfl
def lI(p:PostT)(w r:Int):(ba p w r).standings=p.standings:=by unfold ba;split<;>rfl
def jB(p:PostT)(w r:Int):(ba p w r).told_last=p.told_last:=by unfold ba;split<;>rfl
def writeAll(p:PostT)(w:Int):PostT:=(aR p.guild.hω p.guild.U w).foldl (λp r=>ba p w r) p
def gx{W X:Type}{f:X->W->X}(R:X->Prop):∀(l:List W) (b:X),R b->(∀b a,a∈l->R b->R (f b a))->R (l.foldl f b)
 |[],_,h,_=>h
 |a::l,b,h,st=>gx R l (f b a) (st b a YK h) λb c d=>st b c (YM _ d)
def PW.writeAll(P:PW sz p)(d:0<=w/\w<sz):PW sz (writeAll p w):=by
 unfold K18.writeAll;exact gx (PW sz) _ p P λb a c Q=>Q.write d (by rw[P.g.count]at c;exact jM c)
def nE(p:PostT)(w:Int):(writeAll p w).guild=p.guild:=gx (λq=>q.guild=p.guild) _ p rfl λb a _ h=>(iK b w a).trans h
def DV(p:PostT)(w:Int):(writeAll p w).roads=p.roads:=gx (λq=>q.roads=p.roads) _ p rfl λb a _ h=>(cV b w a).trans h
def Oj(p:PostT)(w:Int):(writeAll p w).standings=p.standings:=gx (λq=>q.standings=p.standings) _ p rfl λb a _ h=>(lI b w a).trans h
def JC(p:PostT)(w:Int):(writeAll p w).told_last=p.told_last:=gx (λq=>q.told_last=p.told_last) _ p rfl λb a _ h=>(jB b w a).trans h
def my(P:PW sz p)(d:sz<=60)(w:Int)(b:0<=w/\w<sz):∃o,sO p w=.ok () ⟨writeAll p w,w,o⟩:=by
 have nb:=jw p.guild w (by rw[P.g.count];exact b) (by rw[P.g.count];omega)
 obtain⟨i,e,o,rfl,_⟩:=l3 (u:=λa s=>{s with vrq:=some a}) (c:=ka) (λ(q:PostT) (s:S_be9)=>∃o,s=⟨q,w,o⟩/\PW sz q) (λq r=>ba q w r) (aR p.guild.hω p.guild.U w) p ⟨p,w,none⟩ ⟨none,rfl,P⟩ (by
  rintro q r s f ⟨o,rfl,Q⟩;obtain⟨j,h⟩:=nJ Q d w r b
  exact⟨⟨ba q w r,w,some r⟩,.inl (by simp[ka,h]),some r,rfl,Q.write b (by rw[P.g.count]at f;exact jM f)⟩)
 refine⟨o,?_⟩;unfold sO zt xb writeAll;simp[nb,e]
def bW(h:Int)(F:DJ rh):Option (List Int):=if h=0 then some [0] else (ff (F.map (·.2))).map (·.2.2)
def bP(p:PostT)(h:Int):Bool×PostT:=if bW h (bw p h)=ao p.roads h then (false,p) else (true,writeAll {p with roads:=p.roads.set h.toNat (bW h (bw p h))} h)
def zQ{p:PostT}{h:Int}(h0:0<=h)(a:h<p.standings.length):p.standings[h.toNat]?=some (bw p h):=by
 unfold bw;rw[List.getD_eq_getElem?_getD,List.getElem?_eq_getElem (by omega)];rfl
def qF(h0:0<sz)(hF:∀q∈F,PathOk sz q.2.2.2)(e:bW h F=some r):PathOk sz r:=by
 unfold bW at e;split at e
 ·cases e;exact M5 h0
 ·obtain⟨k,b,rfl⟩:=Y3.mp e;obtain⟨q,a,rfl⟩:=Y9.mp (iX b);exact hF q a
def PW.st(P:PW sz p)(a:0<=h/\h<sz):DJ.nd (bw p h)/\∀q∈bw p h,(0<=q.1/\q.1<sz)/\PathOk sz q.2.2.2:=
 P.stn _ (ZF (zQ a.1 (by have:=P.sln;omega)))
def PW.set{p:PostT}(P:PW sz p)(j:Nat)(o:Option (List Int))(a:∀r,o=some r->PathOk sz r):PW sz {p with roads:=p.roads.set j o}:=⟨P.g,P.roads.set j o a,P.told,P.wrt,P.lts,P.ltv,P.sln,P.stn⟩
def PW.choose(P:PW sz p)(h0:0<sz)(a:0<=h/\h<sz):PW sz (bP p h).2:=by
 unfold bP;split
 ·exact P
 ·exact(P.set _ _ λr e=>qF h0 (λq b=>((P.st a).2 q b).2) e).writeAll a
def lM(P:PW sz p)(d:sz<=60)(h:Int)(a:0<=h/\h<sz):∃o,DH p h=.ok (bP p h).1 ⟨(bP p h).2,h,o⟩:=by
 have DC:ke p.roads h=some (ao p.roads h):=zI a.1 (by have:=P.roads.len;omega);have c:p.standings[h.toNat]?=some (bw p h):=zQ a.1 (by have:=P.sln;omega);have b:=iM h ((bw p h).map (·.2))
 have e1:uz ⟨p,h,none⟩=.nx ⟨p,h,some (bW h (bw p h))⟩:=by
  simp[uz,a.1,c,b,bW]
 unfold DH IL bP;simp only[ag,e1];by_cases q:bW h (bw p h)=ao p.roads h
 ·rw[YG q];exact⟨some (bW h (bw p h)),by simp[uy,mX,DC,q]⟩
 ·rw[on q];have f:oB p.roads.length h=some h.toNat:=RT a.1 (by have:=P.roads.len;omega);have j:=P.set h.toNat (bW h (bw p h)) λr e=>qF (sz:=sz) (by omega) (λq g=>((P.st a).2 q g).2) e;obtain⟨o,i⟩:=my j d h a;exact⟨some (bW h (bw p h)),by simp[uy,Bd,Bc,Bb,DC,q,f,i]⟩
def oG(g:GΩ)(F:DJ rh)(w r:Int)(o:Option (List Int)):DJ rh:=if kF (jq g r) r o=true then DJ.put F w (aJ g.lω g.wω (r::o.getD [])) else DJ.del F w
def vR(p:PostT)(w r:Int)(o:Option (List Int)):PostT:={p with told_last:=p.told_last.put [w,r] o,standings:=p.standings.set r.toNat (oG p.guild (bw p r) w r o)}
def aM(p:PostT)(w r:Int):PostT:={p with letters:=p.letters.del [w,r],told_last:=p.told_last.del [w,r],written_last:=p.written_last.del [w,r],standings:=p.standings.set r.toNat (DJ.del (bw p r) w)}
def Df{X:Type}{F:DJ X}{k:Int}(h:DJ.get F k=none):DJ.del F k=F:=by
 unfold DJ.get at h;unfold DJ.del;rw[Option.map_eq_none_iff,List.find?_eq_none]at h;rw[List.filter_eq_self];exact λp hp=>by simpa using h p hp
def Ii{X:Type}{F:DI X}(h:F.get k=none):F.del k=F:=by
 unfold DI.get at h;unfold DI.del;rw[Option.map_eq_none_iff,List.find?_eq_none]at h;rw[List.filter_eq_self];exact λp hp=>by simpa using h p hp
def F2{X:Type}{F:DJ X}{k:Int}{v:X}{q:Int×X}(h:q∈DJ.put F k v):q∈F\/q=(k,v):=by
 unfold DJ.put at h;split at h
 · obtain⟨p,hp,e⟩:=Y9.mp h;by_cases z:p.1=k
   ·rw[YG z]at e;rw[<-e,z];exact .inr rfl
   ·rw[on z]at e;rw[<-e];exact .inl hp
 · rcases YX.mp h with z|z
   ·exact .inl z
   ·exact .inr (YT.mp z)
def zP{p:PostT}{h:Int}(h0:0<=h)(a:h<p.standings.length):p.standings.set h.toNat (bw p h)=p.standings:=by
 refine Ag5 λi=>?_;rw[List.getElem?_set];split
 ·rename_i e;subst e;rw[YG (by omega),zQ h0 a]
 ·rfl
def tJ{X:Type}{g:Z->Option (DI (Option W))}{p:Z->DI (Option W)->Z}{ck:Z->Res (List Int)}(F:DI (Option W))(k:List Int)(c:g s=some F)(b:ck s=.ok k)(a:p s F=s):(aC (jE g p ck):Z->FlC Z X) s=.nx (p s (F.del k)):=by
 unfold aC jE;rw[c];dsimp only;rw[b];dsimp only[bndO];cases q:DI.get F k with
 |none=>rw[Ii q,a];rfl
 |some x=>rfl
def AQ{Z W X:Type}{g:Z->Option (DJ W)}{p:Z->DJ W->Z}{ck:Z->Res Int}{s:Z}(F:DJ W)(k:Int)(c:g s=some F)(b:ck s=.ok k)(a:p s F=s):(aC (r0 g p ck):Z->FlC Z X) s=.nx (p s (DJ.del F k)):=by
 unfold aC r0;rw[c];dsimp only;rw[b];dsimp only[bndO];cases q:DJ.get F k with
 |none=>rw[Df q,a];rfl
 |some x=>rfl
def NT{p:PostT}{h:Int}(h0:0<=h)(a:h<p.standings.length):(if 0<=h then p.standings[h.toNat]? else none)=some (bw p h):=by rw[YG h0,zQ h0 a]
def JL{F:DJ rh}(c:sz<=60)(h:DJ.nd F/\∀q∈F,(0<=q.1/\q.1<sz)/\PathOk sz q.2.2.2):F.length<=60:=by
 have nd:(List.map Prod.fst F).Nodup:=h.1
 have:=cA 60 _ nd λx a=>by
  obtain⟨q,b,rfl⟩:=Y9.mp a
  have:=(h.2 q b).1
  omega
 rwa [YJ]at this
def JZ{sz:Int}{p:PostT}(P:PW sz p)(c:sz<=60)(w r:Int)(d:0<=r/\r<sz)(o:Option (List Int))(h:∀t,o=some t->PathOk sz t):Mz p w r o=.ok () ⟨vR p w r o,w,r,o⟩:=by
 have A:=i5 c P.told;have n:p.told_last.length<af:=by unfold af;omega
 have e1:uj ⟨p,w,r,o⟩=.nx ⟨{p with told_last:=p.told_last.put [w,r] o},w,r,o⟩:=by simp[uj,n]
 have i:r<p.standings.length:=by have:=P.sln;omega
 have j:=NT d.1 i;have b:=Eg p.guild r o λt e=>by have:=(h t e).len;unfold af;omega
 have lst:=JL c (P.st d);have m:(bw p r).length<af:=by unfold af;omega
 unfold Mz IH vR oG;simp only[ag,e1];by_cases q:kF (jq p.guild r) r o=true
 · rw[YG q];cases o with
   |none=>cases q
   |some t=>
     have hp:=h t rfl
     have v:r∉t:=by
      have a:fM (jq p.guild r) r t=true:=by
       unfold kF at q;revert q;simp
      unfold fM at a;simp at a;exact a.1
     have u:=Ek p.guild (r::t) (by rw[P.g.count];exact hp.road d v) (by rw[P.g.count];omega);have z:=hp.len;have ct:([r]:List Int).length+t.length<=af:=by unfold af;simp;omega
     have l:1<=af:=by unfold af;omega
     have k:1+t.length<=af:=by simpa using ct
     simp[ui,mV,b,q,l,k,u,j,m]
 · rw[on q];have a:kF (jq p.guild r) r o=false:=by simpa using q
   have f:=AQ (X:=Unit) (g:=gI (λs:S_x9=>some s.vxq.standings) (λs=>some s.vrq)) (p:=pI (λs:S_x9=>some s.vxq.standings) (λs y=>{s with vxq:={s.vxq with standings:=y}}) (λs=>some s.vrq)) (ck:=pC (·.vFq)) (s:=⟨{p with told_last:=p.told_last.put [w,r] o},w,r,o⟩) (bw p r) w j rfl (by
    show S_x9.mk _ w r o=_
    rw[zP d.1 i])
   unfold ui mW
   have x:(aA (iF qO (aI (λg=>.ok g.guild) (pC (·.vxq))) (pC (·.vrq)) (pC (·.vtq))):S_x9->OutC S_x9 Bool) ⟨{p with told_last:=p.told_last.put [w,r] o},w,r,o⟩=.ok false ⟨{p with told_last:=p.told_last.put [w,r] o},w,r,o⟩:=by
    simp[b,a]
   unfold fX;rw[x];show bb (some ()) ((aC _:S_x9->FlC S_x9 Unit) _)=_;rw[f];rfl
def PW.hear{sz:Int}{p:PostT}(P:PW sz p){w r:Int}(c:0<=w/\w<sz)(a:0<=r/\r<sz)(o:Option (List Int))(e:∀t,o=some t->PathOk sz t):PW sz (vR p w r o):=by
 have k:PairOk sz [w,r]:=⟨w,r,rfl,c.1,c.2,a.1,a.2⟩;refine⟨P.g,P.roads,⟨f9 P.told.1,dL (P:=PairOk sz) P.told.2 k⟩,P.wrt,P.lts,P.ltv,by show((p.standings.set _ _).length:Int)=sz;rw[Za];exact P.sln,λF hF=>?_⟩;rcases Aa1 hF with z|z
 ·exact P.stn F z
 · subst z;unfold oG;split
   · rename_i q;cases o with
     |none=>cases q
     |some t=>
       have hp:=e t rfl
       have f:r∉t:=by
        have b:fM (jq p.guild r) r t=true:=by
         unfold kF at q;revert q;simp
        unfold fM at b;simp at b;exact b.1
       refine⟨Lp (P.st a).1,λq d=>?_⟩;rcases F2 d with z|z
       ·exact(P.st a).2 q z
       ·subst z;exact⟨c,(hp.road a f).path⟩
   ·exact⟨Az (P.st a).1,λq d=>(P.st a).2 q (ZA.mp d).1⟩
def rD(P:PW sz p)(w r:Int)(a:0<=r/\r<sz):Jo p w r=.ok () ⟨aM p w r,w,r⟩:=by
 have b:r<p.standings.length:=by have:=P.sln;omega
 have e1:uq ⟨p,w,r⟩=.nx ⟨{p with letters:=p.letters.del [w,r]},w,r⟩:=by unfold uq;exact tJ p.letters [w,r] rfl rfl rfl
 have e:uo ⟨{p with letters:=p.letters.del [w,r]},w,r⟩=.nx ⟨{p with letters:=p.letters.del [w,r],told_last:=p.told_last.del [w,r]},w,r⟩:=by unfold uo;exact tJ p.told_last [w,r] rfl rfl rfl
 have d:ul ⟨{p with letters:=p.letters.del [w,r],told_last:=p.told_last.del [w,r]},w,r⟩=.nx ⟨{p with letters:=p.letters.del [w,r],told_last:=p.told_last.del [w,r],written_last:=p.written_last.del [w,r]},w,r⟩:=by unfold ul;exact tJ p.written_last [w,r] rfl rfl rfl
 have c:uk ⟨{p with letters:=p.letters.del [w,r],told_last:=p.told_last.del [w,r],written_last:=p.written_last.del [w,r]},w,r⟩=.nx ⟨aM p w r,w,r⟩:=by
  unfold uk
  exact AQ (bw p r) w (NT a.1 b) rfl (by
   show S_w9.mk _ w r=_
   rw[zP a.1 b])
 unfold Jo II;simp only[ag,e1,e,d,c];rfl
def PW.forget(P:PW sz p)(w r:Int)(b:0<=r/\r<sz):PW sz (aM p w r):=by
 refine⟨P.g,P.roads,⟨lQ P.told.1,λq a=>P.told.2 q (fS a)⟩,⟨lQ P.wrt.1,λq a=>P.wrt.2 q (fS a)⟩,⟨lQ P.lts.1,λq a=>P.lts.2 q (fS a)⟩,λq a=>P.ltv q (fS a),by show((p.standings.set _ _).length:Int)=sz;rw[Za];exact P.sln,λF hF=>?_⟩;rcases Aa1 hF with z|z
 ·exact P.stn F z
 ·subst z;exact⟨Az (P.st b).1,λq a=>(P.st b).2 q (ZA.mp a).1⟩
def dG(p:PostT)(a b:Int):Bool×PostT:=bP (vR {p with letters:=p.letters.del [a,b]} a b ((p.letters.get [a,b]).bind id)) b
def PW.del{p:PostT}(P:PW sz p)(k:List Int):PW sz {p with letters:=p.letters.del k}:=⟨P.g,P.roads,P.told,P.wrt,⟨lQ P.lts.1,λq a=>P.lts.2 q (fS a)⟩,λq a=>P.ltv q (fS a),P.sln,P.stn⟩
def PW.pair{p:PostT}(P:PW sz p)(h:p.letters.get [a,b]=some o):(0<=a/\a<sz)/\(0<=b/\b<sz)/\∀t,o=some t->PathOk sz t:=by
 have d:=oI h;obtain⟨x,y,e,j,i,g,f⟩:=P.lts.2 _ d;injection e with e1 c
 injection c with c
 subst e1 c;exact⟨⟨j,i⟩,⟨g,f⟩,λt e=>P.ltv _ d t e⟩
def PW.carry{p:PostT}(P:PW sz p)(h0:0<sz)(h:p.letters.get [a,b]=some o):PW sz (dG p a b).2:=by
 obtain⟨e,c,d⟩:=P.pair h;unfold dG;rw[h];exact((P.del [a,b]).hear e c o d).choose h0 c
def u9{p:PostT}(P:PW sz p)(c:sz<=60)(h:p.letters.get [a,b]=some o):Jp p a b=.ok (dG p a b).1 ⟨(dG p a b).2,a,b⟩:=by
 obtain⟨f,d,e⟩:=P.pair h;have j:=jG p.guild [a,b] (by rw[P.g.count];exact Xy f d) (by rw[P.g.count];omega);have i:2<=af:=by unfold af;omega
 have e1:uD ⟨p,a,b⟩=.nx ⟨p,a,b⟩:=by simp[uD,j,i]
 have m:uC ⟨p,a,b⟩=.nx ⟨p,a,b⟩:=by simp[uC,h]
 have k:=JZ (P.del [a,b]) c a b d o e;have l:uB ⟨p,a,b⟩=.nx ⟨vR {p with letters:=p.letters.del [a,b]} a b o,a,b⟩:=by simp[uB,h,k]
 obtain⟨n,ch⟩:=lM ((P.del [a,b]).hear f d o e) c b d;unfold Jp IN dG;rw[h];simp only[ag,e1,m,l];simp[Bf,ch]
def fQ(p:PostT):PostT:=match p.letters with
 |[]=>p
 |q::_=>(dG p (q.1.getD 0 0) (q.1.getD 1 0)).2
def PW.first{p:PostT}(P:PW sz p){q:List Int×Option (List Int)}(e:p.letters=q::t):∃a b,q.1=[a,b]/\p.letters.get [a,b]=some q.2:=by
 have c:q∈p.letters:=by rw[e];exact YK
 obtain⟨a,b,d,_⟩:=P.lts.2 q c;exact⟨a,b,d,gW P.lts.1 (by rw[<-d];exact c)⟩
def PW.next(P:PW sz p)(h0:0<sz):PW sz (fQ p):=by
 unfold fQ;cases e:p.letters with
 |nil=>exact P
 |cons q t=>
   obtain⟨a,b,d,c⟩:=P.first e;dsimp only;rw[d];exact P.carry h0 c
def JW{p:PostT}(P:PW sz p)(d:sz<=60)(c:p.letters≠[]):∃b o,MC p=.ok b ⟨fQ p,o⟩:=by
 cases e:p.letters with
 |nil=>exact absurd e c
 |cons q t=>
   obtain⟨a,b,f,g⟩:=P.first e
   have h:(MA p).res=.ok [a,b]:=by
    unfold MA IJ;simp[Ba,e,f]
   have e1:uA ⟨p,none⟩=.nx ⟨p,some [a,b]⟩:=by simp[uA,h]
   have i:=u9 P d g;refine⟨(dG p a b).1,some [a,b],?_⟩;unfold MC IM fQ;rw[e];dsimp only;rw[f];simp only[ag,e1];simp[Be,DC,Oa,i]
def bE:Nat->PostT->Nat×PostT
 |0,p=>(0,p)
 |n+1,p=>if p.letters=[] then (0,p) else ((bE n (fQ p)).1+1,(bE n (fQ p)).2)
def mz(h0:0<sz)(d:sz<=60)(a:Int):∀(n fuel:Nat) (c:Int) (p:PostT),PW sz p->n<fuel->c+n=a->
 uZ (aA (nq (aG LM (vC λp:S_ba9=>p.v3q) (pC (·.vkq))) (aG Db (aI AN (aI (λg=>.ok g.letters) (pC (·.vxq)))) (kC (0:Int))))) lC fuel ⟨p,a,some c⟩=.nx ⟨(bE n p).2,a,some (c+(bE n p).1)⟩
 |n,0,c,p,P,h,i=>absurd h (Nat.not_lt_zero _)
 | 0,f+1,c,p,P,h,i=>by
   have:¬ c<a:=by omega
   unfold uZ;simp[this,bE]
 | n+1,f+1,c,p,P,h,i=>by
   have lt:c<a:=by omega
   unfold uZ bE;by_cases q:p.letters=[]
   ·rw[YG q];simp[lt,q]
   · rw[on q]
     have l:0<p.letters.length:=by
      cases e:p.letters with
      |nil=>exact absurd e q
      |cons _ _=>simp
     obtain⟨b,o,nx⟩:=JW P d q;have k:=mz h0 d a n f (c+1) (fQ p) (P.next h0) (by omega) (by omega)
     have bd:lC ⟨p,a,some c⟩=.nx ⟨fQ p,a,some (c+1)⟩:=by
      unfold lC;simp[qq,qp,nx]
     have j:(aA (nq (aG LM (vC λp:S_ba9=>p.v3q) (pC (·.vkq))) (aG Db (aI AN (aI (λg=>.ok g.letters) (pC (·.vxq)))) (kC (0:Int))))) ⟨p,a,some c⟩=.ok true (⟨p,a,some c⟩:S_ba9):=by
      have:(0:Int)<p.letters.length:=by omega
      simp[lt,l]
     rw[j];dsimp only;rw[bd];dsimp only;rw[k]
     have:c+1+((bE n (fQ p)).1:Int)=c+(((bE n (fQ p)).1+1:Nat):Int):=by omega
     rw[this]
def Ch(P:PW sz p)(h0:0<sz)(a:sz<=60)(n:Nat)(d:n<1000):xI p n=.ok ((bE n p).1:Int) ⟨(bE n p).2,n,some ((bE n p).1:Int)⟩:=by
 have b:=mz h0 a n n 100000 0 p P (by omega) (by omega);rw[Int.zero_add]at b;unfold xI zz;have e1:qt ⟨p,n,none⟩=.nx ⟨p,n,some 0⟩:=by simp[qt]
 have c:qr ⟨p,n,some 0⟩=.nx ⟨(bE n p).2,n,some ((bE n p).1:Int)⟩:=by unfold qr;exact b
 simp only[ag,e1,c];simp[xi]
def yd(o:Option (List Int)):(ng o).res=.ok o:=by
 unfold ng zp;cases o with
 |none=>simp[qi,lu]
 |some r=>simp[qi,w8]
def bJ(p:PostT):List (Int×Int×Option (List Int)):=p.letters.map λq=>(q.1.getD 0 0,q.1.getD 1 0,q.2)
def jF(P:PW sz p)(d:sz<=60):(sQ p).res=.ok (bJ p):=by
 have l2:=i5 d P.lts
 have c:=jd (Z:=S_bc9) (src:=aI rY (aI (λg=>.ok g.letters) (pC (·.vxq)))) (te:=fe (aG jr (pC λp=>p.1) (kC (0:Int))) (fe (aG jr (pC λp=>p.1) (kC (1:Int))) (jI ng (aG Sa (aI (λg=>.ok g.letters) (pC λp=>p.2.vxq)) (pC λp=>p.1))))) (s:=⟨p⟩) (l:=p.letters.map (·.1)) (λk=>(k.getD 0 0,k.getD 1 0,(p.letters.get k).bind id)) rfl (by rw[List.length_map];unfold af;omega) (λk j=>by
  obtain⟨v,f,i⟩:=tZ P.lts.1 j;obtain⟨a,b,e,_⟩:=P.lts.2 _ i;have e:k=[a,b]:=e;subst e
  simp[DC,Oa,f,yd])
 unfold sQ zw xg;simp only[aZ,aA,c];simp only[DT,bb,yi];congr 1;unfold bJ;rw[List.map_map];refine List.map_congr_left λq h=>?_
 have:=gW P.lts.1 (show(q.1,q.2)∈p.letters from h)
 show(q.1.getD 0 0,q.1.getD 1 0,(p.letters.get q.1).bind id)=_;rw[this];rfl
def Ee{p:PostT}(P:PW sz p)(a:sz<=60):(B6 p).res=.ok p.roads:=by
 have b:=P.roads.len;have c:=jd (Z:=S_bb9) (src:=aI (λg=>.ok g.roads) (pC (·.vxq))) (te:=jI ng (pC λp=>p.1)) (s:=⟨p⟩) (l:=p.roads) (λo=>o) rfl (by unfold af;omega) (λo _=>by simp[yd]);unfold B6 zx xh;simp only[aZ,aA,c];simp
def u5{p:PostT}:bJ p=[]↔p.letters=[]:=by unfold bJ;exact List.map_eq_nil_iff
def iq(p:PostT)(h:Int):(bP p h).2.guild=p.guild:=by
 unfold bP;split
 ·rfl
 ·exact nE _ _
def m7(p:PostT)(a b:Int):(dG p a b).2.guild=p.guild:=by unfold dG;rw[iq];rfl
def cC(p:PostT)(a b:Int):PostT:={p with guild:={p.guild with U:=(p.guild.U.del [a,b]).del [b,a]}}
def nh(p:PostT)(a b:Int):PostT:={p with guild:={p.guild with U:=(p.guild.U.put [a,b] true).put [b,a] true}}
def kW(p:PostT)(a b:Int):PostT:=(bP (bP (aM (aM (cC p a b) a b) b a) (min a b)).2 (max a b)).2
def cM(p:PostT)(a b:Int):PostT:=ba (ba (nh p a b) (min a b) (max a b)) (max a b) (min a b)
def PW.guild{sz:Int}{p:PostT}(P:PW sz p){g:GΩ}(a:Wf sz g):PW sz {p with guild:=g}:=⟨a,P.roads,P.told,P.wrt,P.lts,P.ltv,P.sln,P.stn⟩
def vA{a b sz:Int}(d:0<=a/\a<sz)(c:0<=b/\b<sz):(0<=min a b/\min a b<sz)/\(0<=max a b/\max a b<sz):=by omega
def PW.rise(P:PW sz p)(f:0<=a/\a<sz)(e:0<=b/\b<sz):PW sz (cM p a b):=by
 obtain⟨d,c⟩:=vA f e;exact((P.guild (P.g.lay f e)).write d c).write c d
def yQ(p:PostT)(a b:Int):(kW p a b).guild=(cC p a b).guild:=by
 unfold kW;rw[iq,iq];rfl
def jH(p:PostT)(a b:Int):(cM p a b).guild=(nh p a b).guild:=by
 unfold cM;rw[iK,iK]
def J1{p:PostT}(P:PW sz p)(c:sz<=60)(e:0<=a/\a<sz)(d:0<=b/\b<sz)(h:a≠b)(o:(p.guild.U.get [a,b]).isSome=true)(f:(p.guild.U.get [b,a]).isSome=true):MB p a b=.ok () ⟨kW p a b,a,b⟩:=by
 obtain⟨i,n⟩:=vA e d;have h0:0<sz:=by omega
 have m:=JY p.guild a b (by rw[P.g.count];exact e) (by rw[P.g.count];exact d) h o f;have W:PW sz (cC p a b):=P.guild (P.g.lift a b);have r:=rD W a b d;have j:=W.forget a b d;have q:=rD j b a e;have P3:=j.forget b a e;obtain⟨A,x⟩:=lM P3 c (min a b) i;have y:=P3.choose h0 i;obtain⟨z,w⟩:=lM y c (max a b) n;have l:(if b<a then b else a)=min a b:=by rw[Int.min_def];split<;>split<;>omega
 have k:(if a<b then b else a)=max a b:=by rw[Al0];split<;>split<;>omega
 have e1:uw ⟨p,a,b⟩=.nx ⟨cC p a b,a,b⟩:=by simp[uw,m,cC]
 have v:uv ⟨cC p a b,a,b⟩=.nx ⟨aM (cC p a b) a b,a,b⟩:=by simp[uv,r]
 have u:uu ⟨aM (cC p a b) a b,a,b⟩=.nx ⟨aM (aM (cC p a b) a b) b a,a,b⟩:=by simp[uu,q]
 have t:ut ⟨aM (aM (cC p a b) a b) b a,a,b⟩=.nx ⟨(bP (aM (aM (cC p a b) a b) b a) (min a b)).2,a,b⟩:=by simp[ut,l,x]
 have s:ur ⟨(bP (aM (aM (cC p a b) a b) b a) (min a b)).2,a,b⟩=.nx ⟨kW p a b,a,b⟩:=by simp[ur,k,w,kW]
 unfold MB IK;simp only[ag,e1,v,u,t,s];rfl
def JT{p:PostT}(P:PW sz p)(c:sz<=60)(f:0<=a/\a<sz)(e:0<=b/\b<sz)(d:a≠b)(m:p.guild.U.get [a,b]=none):My p a b=.ok () ⟨cM p a b,a,b⟩:=by
 obtain⟨k,j⟩:=vA f e;have t:=i5 c P.g.U;have l:=Eh p.guild a b (by rw[P.g.count];exact f) (by rw[P.g.count];exact e) d m (by unfold af;omega);have W:PW sz (nh p a b):=P.guild (P.g.lay f e);obtain⟨v,r⟩:=nJ W c (min a b) (max a b) k;have s:=W.write k j;obtain⟨u,q⟩:=nJ s c (max a b) (min a b) j;have i:(if b<a then b else a)=min a b:=by rw[Int.min_def];split<;>split<;>omega
 have h:(if a<b then b else a)=max a b:=by rw[Al0];split<;>split<;>omega
 have e1:ug ⟨p,a,b⟩=.nx ⟨nh p a b,a,b⟩:=by simp[ug,l,nh]
 have o:uf ⟨nh p a b,a,b⟩=.nx ⟨ba (nh p a b) (min a b) (max a b),a,b⟩:=by simp[uf,i,h,r]
 have n:ue ⟨ba (nh p a b) (min a b) (max a b),a,b⟩=.nx ⟨cM p a b,a,b⟩:=by simp[ue,i,h,q,cM]
 unfold My IG;simp only[ag,e1,o,n];rfl
def si{W:Type}(n k:Nat)(d:W):(List.replicate n d).getD k d=d:=by
 rw[Y0,Aa8];split<;>rfl
def PW.new{g:GΩ}{sz:Int}(h:Wf sz g)(c:1<=sz):PW sz (dy g sz.toNat):=by
 refine⟨h,⟨?_,λr b=>?_⟩,⟨by unfold DI.nd;exact List.Pairwise.nil,λq a=>(nomatch a)⟩,⟨by unfold DI.nd;exact List.Pairwise.nil,λq a=>(nomatch a)⟩,⟨by unfold DI.nd;exact List.Pairwise.nil,λq a=>(nomatch a)⟩,λq a=>(nomatch a),?_,λF hF=>?_⟩
 ·show(((List.replicate sz.toNat none).set 0 (some [0])).length:Int)=sz;rw[Za,Z9];omega
 · rcases Aa1 b with z|z
   ·have:=(Ad1.mp z).2;cases this
   ·cases z;exact M5 (by omega)
 ·show((List.replicate sz.toNat ([]:DJ rh)).length:Int)=sz;rw[Z9];omega
 · have:=(Ad1.mp hF).2
   subst this;exact⟨by unfold DJ.nd;exact List.Pairwise.nil,λq a=>(nomatch a)⟩
def vz(g:GΩ):PostT:=writeAll (dy g g.hω.toNat) 0
def JV(h:Wf sz g)(d:Hs g)(f:1<=sz)(a:sz<=60):kE g=.ok (vz g):=by
 have e:=h.count;obtain⟨s,c⟩:=JO (by omega) (by omega) d;have P:=PW.new h f;obtain⟨o,b⟩:=my P a 0 (by omega);unfold kE vz;rw[c];dsimp only;rw[if_pos (by omega),e,b]
def CI(g:GΩ):(vz g).guild=g:=by unfold vz;exact nE _ _
def DU(f:sz<=60){W:P0}(nd:W.Nodup)(all:∀p∈W,0<=p.1/\p.1<p.2/\p.2<sz):W.length<=3600:=by
 have:=cA 3600 (W.map λp=>p.1*60+p.2) (by
  unfold List.Nodup;rw[List.pairwise_map];refine List.Pairwise.imp_of_mem ?_ nd;intro p c hp a b e;have g:=all p hp;have h:=all c a;exact b (Prod.ext (by omega) (by omega))) (λx d=>by
  obtain⟨p,hp,rfl⟩:=Y9.mp d;have g:=all p hp
  omega)
 rwa [YJ]at this
def JB{p:PostT}(P:PW sz p)(hi:i<(bJ p).length):∃a b o,(bJ p)[i]?=some (a,b,o)/\p.letters.get [a,b]=some o:=by
 have c:i<p.letters.length:=by unfold bJ at hi;rwa [List.length_map]at hi
 have d:p.letters[i]∈p.letters:=List.getElem_mem c;obtain⟨a,b,e,_⟩:=P.lts.2 _ d;refine⟨a,b,p.letters[i].2,?_,gW P.lts.1 (by rw[<-e];exact d)⟩;unfold bJ;rw[List.getElem?_map,List.getElem?_eq_getElem c];simp[e]
def Ew:List (List Int):=(HU 6 [0,1,2,3,4,5]).filter λr=>r.getLast?==some 0
def LW:((Fs 6).map cI).Nodup:=by decide +kernel
def LU:(Ew.map cI).Nodup:=by decide +kernel
def CQ(h:sz<=6)(a:RoadOk sz r):r∈Ew:=by
 refine ZA.mpr ⟨sr 6 _ r a.nd (λx b=>?_) (by have:=a.len;omega),by rw[a.last];rfl⟩
 have:=a.all x b
 have:x=0\/x=1\/x=2\/x=3\/x=4\/x=5:=by omega
 simp only[YS,List.not_mem_nil,or_false];exact this
def Hs.of(h:Wf sz g)(c:sz<=6):Hs g:=by
 have a:∀{X:Type} {F:DI X},(DI.nd F/\∀p∈F,PairOk sz p.1)->((F.map (·.1)).map cI).Nodup:=λ{X F} hF=>n0 LW hF.1 λk b=>by
  obtain⟨p,hp,rfl⟩:=Y9.mp b;exact CS ((hF.2 p hp).mono c)
 exact⟨a h.U,a h.lik,a h.shn,n0 LU h.wsh.1 λk b=>by
  obtain⟨p,hp,rfl⟩:=Y9.mp b
  exact CQ c (h.wsh.2 p hp)⟩
def eV(p:PostT)(w r:Int):Option (List Int):=(p.told_last.get [w,r]).bind id
def f6(p:PostT)(w r:Int):Option (List Int):=(p.written_last.get [w,r]).bind id
abbrev nb(p:PostT)(w r:Int):Prop:=(p.guild.U.get [w,r]).isSome=true
def yK(g:GΩ)(r:Int)(o:Option (List Int)):Option rh:=if kF (jq g r) r o=true then some (aJ g.lω g.wω (r::o.getD [])) else none
structure Mid (sz b c:Int) (p:PostT):Prop where
 pw:PW sz p
 wrt:∀w r,nb p w r->f6 p w r=ao p.roads w
 wnb:∀w r t,f6 p w r=some t->nb p w r
 lts:∀w r o,p.letters.get [w,r]=some o->nb p w r/\o=ao p.roads w
 told:∀w r,nb p w r->p.letters.get [w,r]=none->eV p w r=ao p.roads w
 tnb:∀w r t,eV p w r=some t->nb p w r
 stn:∀r w,0<=r/\r<sz->DJ.get (bw p r) w=yK p.guild r (eV p w r)
 best:∀h,0<=h/\h<sz->h≠b->h≠c->ao p.roads h=bW h (bw p h)
structure Live (sz:Int) (p:PostT):Prop where
 mid:Mid sz (-1) (-1) p
 all:∀h,0<=h/\h<sz->ao p.roads h=bW h (bw p h)
def Live.of(M:Mid sz (-1) (-1) p):Live sz p:=⟨M,λh a=>M.best h a (by omega) (by omega)⟩
def PW.nb_in(P:PW sz p)(h:nb p w r):(0<=w/\w<sz)/\(0<=r/\r<sz):=by
 unfold nb at h;cases q:p.guild.U.get [w,r] with
 |none=>rw[q]at h;cases h
 |some v=>
   obtain⟨x,y,e,f,d,c,b⟩:=P.g.U.2 _ (oI q);injection e with e1 a
   injection a with a
   subst e1 a;exact⟨⟨f,d⟩,c,b⟩
def n9{p:PostT}:y∈aR p.guild.hω p.guild.U w↔(0<=y/\y<p.guild.hω)/\nb p w y:=by
 unfold aR nb;rw[List.mem_filter,cB]
def eU(p:PostT)(w r:Int)(k:List Int):(ba p w r).written_last.get k=if k=[w,r]/\f6 p w r≠ao p.roads w then some (ao p.roads w) else p.written_last.get k:=by
 unfold ba f6;by_cases q:(p.written_last.get [w,r]).bind id=ao p.roads w
 ·rw[YG q,on λz=>z.2 q]
 · rw[on q];show(p.written_last.put [w,r] _).get k=_;rw[db];by_cases z:k=[w,r]
   ·rw[YG z,YG ⟨z,q⟩]
   ·rw[on z,on λy=>z y.1]
def jC(p:PostT)(w r:Int)(k:List Int):(ba p w r).letters.get k=if k=[w,r]/\f6 p w r≠ao p.roads w then some (ao p.roads w) else p.letters.get k:=by
 unfold ba f6;by_cases q:(p.written_last.get [w,r]).bind id=ao p.roads w
 ·rw[YG q,on λz=>z.2 q]
 · rw[on q];show(p.letters.put [w,r] _).get k=_;rw[db];by_cases z:k=[w,r]
   ·rw[YG z,YG ⟨z,q⟩]
   ·rw[on z,on λy=>z y.1]
def oK(w:Int):∀(l:List Int) (p:PostT),l.Nodup->(∀y∈l,f6 p w y≠ao p.roads w)->∀x y,
 (l.foldl (λp r=>ba p w r) p).written_last.get [x,y]=(if x=w/\y∈l then some (ao p.roads w) else p.written_last.get [x,y])/\(l.foldl (λp r=>ba p w r) p).letters.get [x,y]=(if x=w/\y∈l then some (ao p.roads w) else p.letters.get [x,y])
 |[],p,_,_,x,y=>by simp
 | r::l,p,nd,h,x,y=>by
   have a:=Y7.mp nd;have f:ao (ba p w r).roads w=ao p.roads w:=by rw[cV]
   have d:=oK w l (ba p w r) a.2 (λz hz=>by
    rw[f];unfold f6
    rw[eU,on λq=>by
     have:=q.1
     injection this with _ e
     injection e with e
     exact a.1 (e▸hz)]
    exact h z (YM _ hz)) x y
   rw[f]at d;rw[Ab6,d.1,d.2,eU,jC];have h0:=h r YK;by_cases z:x=w/\y∈l
   ·have m:x=w/\y∈r::l:=⟨z.1,YM _ z.2⟩;simp only[YG z,YG m,and_self]
   · by_cases q:[x,y]=[w,r]
     · have b:x=w/\y=r:=by
        injection q with b c
        injection c with c
        exact⟨b,c⟩
       have m:x=w/\y∈r::l:=⟨b.1,by rw[b.2];exact YK⟩;simp only[on z,YG (And.intro q h0),YG m,and_self]
     · have m:¬ (x=w/\y∈r::l):=λt=>by
        rcases YS.mp t.2 with u|u
        ·exact q (by rw[t.1,u])
        ·exact z ⟨t.1,u⟩
       have g:¬ ([x,y]=[w,r]/\f6 p w r≠ao p.roads w):=λt=>q t.1;simp only[on z,on g,on m,and_self]
def Dd{T:List (Option (List Int))}{b:Int}(a:0<=h)(c:0<=b/\b<T.length)(o:Option (List Int)):ao (T.set b.toNat o) h=if h=b then o else ao T h:=by
 unfold ao;rw[List.getD_eq_getElem?_getD,List.getD_eq_getElem?_getD,List.getElem?_set];by_cases z:h=b
 ·subst z;rw[YG rfl,YG (by omega),YG rfl];rfl
 ·rw[on (by omega),on z]
def Mid.choose(M:Mid sz b c p)(v:0<=b/\b<sz):Mid sz c (-1) (bP p b).2:=by
 have P:=M.pw;have k:=P.g.count;have J:=P.roads.len;have PC:=P.choose (by omega) v;unfold bP at PC ⊢;by_cases q:bW b (bw p b)=ao p.roads b
 · rw[YG q]
   exact⟨P,M.wrt,M.wnb,M.lts,M.told,M.tnb,M.stn,λh j k _=>by
    by_cases z:h=b
    ·subst z;exact q.symm
    ·exact M.best h j z k⟩
 · rw[on q]at PC ⊢;have l:∀h,0<=h->ao (p.roads.set b.toNat (bW b (bw p b))) h=if h=b then bW b (bw p b) else ao p.roads h:=λh j=>Dd j (by omega) _
   have C:ao (p.roads.set b.toNat (bW b (bw p b))) b=bW b (bw p b):=by rw[l b v.1,YG rfl]
   generalize d:({p with roads:=p.roads.set b.toNat (bW b (bw p b))}:PostT)=f at PC ⊢
   have F:=oK b (aR f.guild.hω f.guild.U b) f (List.Pairwise.filter _ (nZ 0 _)) (λy G=>by
    subst d;have u:=(n9 (p:=p)).mp G;show f6 p b y≠ao (p.roads.set b.toNat (bW b (bw p b))) b;rw[C,M.wrt b y u.2]
    exact λz=>q z.symm)
   have B:(writeAll f b).guild=p.guild:=by rw[nE];subst d;rfl
   have i:(writeAll f b).roads=p.roads.set b.toNat (bW b (bw p b)):=by rw[DV];subst d;rfl
   have D:(writeAll f b).told_last=p.told_last:=by rw[JC];subst d;rfl
   have E:(writeAll f b).standings=p.standings:=by rw[Oj];subst d;rfl
   have m:∀x y,(writeAll f b).written_last.get [x,y]=if x=b/\nb p b y then some (bW b (bw p b)) else p.written_last.get [x,y]:=λx y=>by
    have:=(F x y).1
    subst d;rw[show ao _ b=_ from C]at this;refine Eq.trans this ?_;by_cases z:x=b/\nb p b y
    ·rw[YG z,YG ⟨z.1,(n9 (p:=p)).mpr ⟨by rw[k];exact(P.nb_in z.2).2,z.2⟩⟩]
    ·rw[on z,on λt=>z ⟨t.1,((n9 (p:=p)).mp t.2).2⟩]
   have s:∀x y,(writeAll f b).letters.get [x,y]=if x=b/\nb p b y then some (bW b (bw p b)) else p.letters.get [x,y]:=λx y=>by
    have:=(F x y).2
    subst d;rw[show ao _ b=_ from C]at this;refine Eq.trans this ?_;by_cases z:x=b/\nb p b y
    ·rw[YG z,YG ⟨z.1,(n9 (p:=p)).mpr ⟨by rw[k];exact(P.nb_in z.2).2,z.2⟩⟩]
    ·rw[on z,on λt=>z ⟨t.1,((n9 (p:=p)).mp t.2).2⟩]
   generalize writeAll f b=n at PC B i D E m s ⊢;have a:∀w r,nb n w r↔nb p w r:=λw r=>by unfold nb;rw[B]
   have to:∀w r,eV n w r=eV p w r:=λw r=>by unfold eV;rw[D]
   have sa:∀h,bw n h=bw p h:=λh=>by unfold bw;rw[E]
   refine⟨PC,λw r h=>?_,λw r t h=>?_,λw r o h=>?_,λw r h e=>?_,λw r t h=>?_,λr w H=>?_,λh j k _=>?_⟩
   · have h:=(a w r).mp h;unfold f6;rw[m,i,l w (P.nb_in h).1.1];by_cases z:w=b
     ·subst z;rw[YG ⟨rfl,h⟩,YG rfl];rfl
     ·rw[on λt=>z t.1,on z];exact M.wrt w r h
   · unfold f6 at h;rw[m]at h;by_cases z:w=b/\nb p b r
     ·rw[z.1];exact(a _ _).mpr z.2
     ·rw[on z]at h;exact(a _ _).mpr (M.wnb w r t h)
   · rw[s]at h;by_cases z:w=b/\nb p b r
     ·rw[YG z]at h;cases h;obtain⟨rfl,u⟩:=z;exact⟨(a _ _).mpr u,by rw[i,l _ v.1,YG rfl]⟩
     ·rw[on z]at h;obtain⟨A,I⟩:=M.lts w r o h;refine⟨(a _ _).mpr A,?_⟩;rw[i,l w (P.nb_in A).1.1,on λt=>z ⟨t,t▸A⟩];exact I
   · have h:=(a w r).mp h;rw[s]at e;by_cases z:w=b
     ·subst z;rw[YG ⟨rfl,h⟩]at e;cases e
     ·rw[on λt=>z t.1]at e;rw[to,i,l w (P.nb_in h).1.1,on z];exact M.told w r h e
   ·rw[to]at h;exact(a _ _).mpr (M.tnb w r t h)
   ·rw[sa,to,B];exact M.stn r w H
   · rw[i,l h j.1,sa];by_cases z:h=b
     ·subst z;rw[YG rfl]
     ·rw[on z];exact M.best h j z k
def sY{p:PostT}{r b:Int}(a:0<=r)(c:0<=b/\b<p.standings.length)(F:DJ rh):(p.standings.set b.toNat F).getD r.toNat []=if r=b then F else bw p r:=by
 unfold bw;rw[List.getD_eq_getElem?_getD,List.getD_eq_getElem?_getD,List.getElem?_set];by_cases z:r=b
 ·subst z;rw[YG rfl,YG (by omega),YG rfl];rfl
 ·rw[on (by omega),on z]
def Live.carry{p:PostT}(L:Live sz p)(h:p.letters.get [a,b]=some o):Live sz (dG p a b).2:=by
 have P:=L.mid.pw;obtain⟨A,s,u⟩:=P.pair h;obtain⟨v,B⟩:=L.mid.lts a b o h;have D:=P.sln;unfold dG;rw[h];refine Live.of (Mid.choose (c:=-1) ?_ s);have C:=(P.del [a,b]).hear A s o u;have n:∀x y,(p.letters.del [a,b]).get [x,y]=if [x,y]=[a,b] then none else p.letters.get [x,y]:=λx y=>jm
 have j:∀x y,(p.told_last.put [a,b] o).get [x,y]=if [x,y]=[a,b] then some o else p.told_last.get [x,y]:=λx y=>db
 refine⟨C,λw r h=>L.mid.wrt w r h,λw r t h=>L.mid.wnb w r t h,λw r m d=>?_,λw r d e=>?_,λw r t d=>?_,λr w k=>?_,λx q l _=>?_⟩
 · have d:(p.letters.del [a,b]).get [w,r]=some m:=d;rw[n]at d;by_cases z:[w,r]=[a,b]
   ·rw[YG z]at d;cases d
   ·rw[on z]at d;exact L.mid.lts w r m d
 · have e:(p.letters.del [a,b]).get [w,r]=none:=e;rw[n]at e;show((p.told_last.put [a,b] o).get [w,r]).bind id=_;rw[j];by_cases z:[w,r]=[a,b]
   · rw[YG z];injection z with i g
     subst i;exact B
   ·rw[on z]at e ⊢;exact L.mid.told w r d e
 · have d:((p.told_last.put [a,b] o).get [w,r]).bind id=some t:=d;rw[j]at d;by_cases z:[w,r]=[a,b]
   · injection z with i g
     injection g with g
     subst i g;exact v
   ·rw[on z]at d;exact L.mid.tnb w r t d
 · show DJ.get ((p.standings.set b.toNat (oG p.guild (bw p b) a b o)).getD r.toNat []) w=yK p.guild r (((p.told_last.put [a,b] o).get [w,r]).bind id);rw[sY k.1 (by omega),j];by_cases z:r=b
   · subst z;rw[YG rfl];by_cases y:w=a
     · subst y;rw[if_pos rfl];show _=yK p.guild r o;unfold oG yK;split
       ·rw[vU,YG rfl]
       ·rw[kO,YG rfl]
     · rw[if_neg λt=>y (by injection t)];have f:=L.mid.stn r w k;unfold eV at f;rw[<-f];unfold oG;split
       ·rw[vU,on y]
       ·rw[kO,on y]
   ·rw[on z,on λt=>z (by injection t with _ t;injection t)];exact L.mid.stn r w k
 ·show ao p.roads x=bW x ((p.standings.set b.toNat (oG p.guild (bw p b) a b o)).getD x.toNat []);rw[sY q.1 (by omega),on l];exact L.all x q
def gZ(n:Nat)(h:Int):ao (List.replicate n none) h=none:=si n h.toNat none
def Live.new(h:Wf sz g)(j:1<=sz):Live sz (vz g):=by
 have f:=h.count;have m:(0:Int)<g.hω:=by omega
 let b:PostT:=⟨g,List.replicate g.hω.toNat none,[],[],[],List.replicate g.hω.toNat []⟩
 have s0:∀r,bw b r=[]:=λr=>si _ _ _
 have k:PW sz b:=by
  have P:=PW.new h j;rw[<-f]at P;have c:DI.nd ([]:DI (Option (List Int)))/\∀q∈([]:DI (Option (List Int))),PairOk sz q.1:=⟨List.Pairwise.nil,λq a=>(nomatch a)⟩;refine⟨h,⟨?_,λr i=>?_⟩,c,c,c,λq a=>(nomatch a),P.sln.trans f,λF hF=>?_⟩
  ·show((List.replicate g.hω.toNat (none:Option (List Int))).length:Int)=sz;rw[Z9];omega
  ·have:=(Ad1.mp i).2;cases this
  · have:=(Ad1.mp hF).2
    subst this;exact⟨List.Pairwise.nil,λq a=>(nomatch a)⟩
 have M:Mid sz 0 (-1) b:=by
  refine⟨k,λw r _=>(gZ _ w).symm,λw r t h=>(nomatch h),λw r o h=>(nomatch h),λw r _ _=>(gZ _ w).symm,λw r t h=>(nomatch h),λr w _=>?_,λx l d _=>?_⟩
  ·rw[s0];rfl
  ·rw[s0];unfold bW;rw[if_neg d];exact gZ _ x
 have L:=Live.of (M.choose (by omega))
 have e:(bP b 0).2=vz g:=by
  unfold bP
  rw[on (by
   rw[s0];show(some [0]:Option (List Int))≠_;rw[gZ]
   exact λz=>(nomatch z)),s0]
  rfl
 rw[e]at L;exact L
def Live.next(L:Live sz p):Live sz (fQ p):=by
 unfold fQ;cases e:p.letters with
 |nil=>exact L
 |cons q t=>
   obtain⟨a,b,d,c⟩:=L.mid.pw.first e;dsimp only;rw[d];exact L.carry c
def bG{a b x y:Int}(h:[x,y]=[a,b]):x=a/\y=b:=by injection h with d c;injection c with c;exact⟨d,c⟩
def Live.fall(L:Live sz p)(q:0<=a/\a<sz)(A:0<=b/\b<sz)(i:a≠b):Live sz (kW p a b):=by
 have P:=L.mid.pw;have E:=P.sln;obtain⟨B,m⟩:=vA q A;have W:PW sz (cC p a b):=P.guild (P.g.lift a b);have P3:=(W.forget a b A).forget b a q
 have j:∀{X:Type} {F:DI X} (x y:Int),((F.del [a,b]).del [b,a]).get [x,y]=if [x,y]=[a,b]\/[x,y]=[b,a] then none else F.get [x,y]:=λ{X F} x y=>by
  rw[jm,jm];by_cases z:[x,y]=[b,a]
  ·rw[YG z,YG (.inr z)]
  · rw[on z];by_cases l:[x,y]=[a,b]
    ·rw[YG l,YG (.inl l)]
    ·rw[on l,on λt=>t.elim l z]
 have f:∀w r,nb (aM (aM (cC p a b) a b) b a) w r->¬ ([w,r]=[a,b]\/[w,r]=[b,a])/\nb p w r:=λw r h=>by
  have h:(((p.guild.U.del [a,b]).del [b,a]).get [w,r]).isSome=true:=h;rw[j]at h;split at h
  ·cases h
  ·rename_i z;exact⟨z,h⟩
 have d:∀w r,¬ ([w,r]=[a,b]\/[w,r]=[b,a])->nb p w r->nb (aM (aM (cC p a b) a b) b a) w r:=λw r z h=>by
  show(((p.guild.U.del [a,b]).del [b,a]).get [w,r]).isSome=true;rw[j,on z];exact h
 have to:∀w r,eV (aM (aM (cC p a b) a b) b a) w r=if [w,r]=[a,b]\/[w,r]=[b,a] then none else eV p w r:=λw r=>by
  show(((p.told_last.del [a,b]).del [b,a]).get [w,r]).bind id=_;rw[j];split<;>rfl
 have s:∀w r,f6 (aM (aM (cC p a b) a b) b a) w r=if [w,r]=[a,b]\/[w,r]=[b,a] then none else f6 p w r:=λw r=>by
  show(((p.written_last.del [a,b]).del [b,a]).get [w,r]).bind id=_;rw[j];split<;>rfl
 have v:∀w r,(aM (aM (cC p a b) a b) b a).letters.get [w,r]=if [w,r]=[a,b]\/[w,r]=[b,a] then none else p.letters.get [w,r]:=λw r=>j w r
 have sa:∀r,0<=r->bw (aM (aM (cC p a b) a b) b a) r=if r=a then DJ.del (bw p a) b else if r=b then DJ.del (bw p b) a else bw p r:=λr c=>by
  have u:∀r,0<=r->bw (aM (cC p a b) a b) r=if r=b then DJ.del (bw p b) a else bw p r:=λr c=>sY (p:=cC p a b) c (by show 0<=b/\b<(p.standings.length:Int);omega) _
  have:=sY (p:=aM (cC p a b) a b) c (b:=a) (by show 0<=a/\a<((p.standings.set _ _).length:Int);rw[Za];omega) (DJ.del (bw (aM (cC p a b) a b) a) b)
  refine Eq.trans this ?_;rw[u a q.1,on i,u r c]
 unfold kW;refine Live.of (Mid.choose (Mid.choose ?_ B) m);refine⟨P3,λw r h=>?_,λw r t h=>?_,λw r o h=>?_,λw r h e=>?_,λw r t h=>?_,λr w c=>?_,λx m D C=>?_⟩
 ·obtain⟨z,h⟩:=f w r h;rw[s,on z];exact L.mid.wrt w r h
 · rw[s]at h;split at h
   ·cases h
   ·rename_i z;exact d w r z (L.mid.wnb w r t h)
 · rw[v]at h;split at h
   ·cases h
   ·rename_i z;exact⟨d w r z (L.mid.lts w r o h).1,(L.mid.lts w r o h).2⟩
 ·obtain⟨z,h⟩:=f w r h;rw[v,on z]at e;rw[to,on z];exact L.mid.told w r h e
 · rw[to]at h;split at h
   ·cases h
   ·rename_i z;exact d w r z (L.mid.tnb w r t h)
 · show _=yK p.guild r _;rw[sa r c.1,to];by_cases k:r=a
   · subst k;rw[YG rfl,kO];by_cases y:w=b
     ·rw[YG y,YG (.inr (by rw[y]))];rfl
     ·rw[on y,on λt=>t.elim (λt=>i (bG t).2) λt=>y (bG t).1];exact L.mid.stn _ w c
   · rw[on k];by_cases n:r=b
     · subst n;rw[YG rfl,kO];by_cases y:w=a
       ·rw[YG y,YG (.inl (by rw[y]))];rfl
       ·rw[on y,on λt=>t.elim (λt=>y (bG t).1) λt=>k (bG t).2];exact L.mid.stn _ w c
     ·rw[on n,on λt=>t.elim (λt=>n (bG t).2) λt=>k (bG t).2];exact L.mid.stn r w c
 ·rw[sa x m.1,on (by omega),on (by omega)];exact L.all x m
def Live.rise{p:PostT}(L:Live sz p)(v:0<=a/\a<sz)(u:0<=b/\b<sz)(g:a≠b)(B:p.guild.U.get [a,b]=none)(A:p.guild.U.get [b,a]=none):Live sz (cM p a b):=by
 have P:=L.mid.pw;obtain⟨K,s⟩:=vA v u
 have m:¬ nb p (min a b) (max a b):=λz=>by
  unfold nb at z;rcases Int.lt_or_gt_of_ne g with q|q
  ·rw[show min a b=a by omega,show max a b=b by omega,B]at z;cases z
  ·rw[show min a b=b by omega,show max a b=a by omega,A]at z;cases z
 have l:¬ nb p (max a b) (min a b):=λz=>by
  unfold nb at z;rcases Int.lt_or_gt_of_ne g with q|q
  ·rw[show min a b=a by omega,show max a b=b by omega,A]at z;cases z
  ·rw[show min a b=b by omega,show max a b=a by omega,B]at z;cases z
 have ne:min a b≠max a b:=by omega
 have c:∀w r,nb (cM p a b) w r↔nb p w r\/[w,r]=[min a b,max a b]\/[w,r]=[max a b,min a b]:=λw r=>by
  unfold nb;rw[jH];show(((p.guild.U.put [a,b] true).put [b,a] true).get [w,r]).isSome=true↔_;rw[db,db]
  have e:([w,r]=[b,a]\/[w,r]=[a,b])↔([w,r]=[min a b,max a b]\/[w,r]=[max a b,min a b]):=by
   rcases Int.lt_or_gt_of_ne g with q|q
   ·rw[show min a b=a by omega,show max a b=b by omega];exact Or.comm
   ·rw[show min a b=b by omega,show max a b=a by omega]
  by_cases z:[w,r]=[b,a]
  ·rw[YG z];exact⟨λ_=>.inr (e.mp (.inl z)),λ_=>rfl⟩
  · rw[on z];by_cases d:[w,r]=[a,b]
    ·rw[YG d];exact⟨λ_=>.inr (e.mp (.inr d)),λ_=>rfl⟩
    ·rw[on d];exact⟨.inl,λt=>t.elim id λt=>((e.mpr t).elim z d).elim⟩
 have I:=P.rise v u;have k:(cM p a b).roads=p.roads:=by unfold cM;rw[cV,cV];rfl
 have D:(cM p a b).told_last=p.told_last:=by unfold cM;rw[jB,jB];rfl
 have F:(cM p a b).standings=p.standings:=by unfold cM;rw[lI,lI];rfl
 have j:∀x y,¬ nb p x y->f6 p x y=none:=λx y h=>by
  cases q:f6 p x y with
  |none=>rfl
  |some t=>exact absurd (L.mid.wnb x y t q) h
 have E:∀x y,¬ nb p x y->eV p x y=none:=λx y h=>by
  cases q:eV p x y with
  |none=>rfl
  |some t=>exact absurd (L.mid.tnb x y t q) h
 have J:∀x y,¬ nb p x y->p.letters.get [x,y]=none:=λx y h=>by
  cases q:p.letters.get [x,y] with
  |none=>rfl
  |some t=>exact absurd (L.mid.lts x y t q).1 h
 have i:∀x y,f6 (cM p a b) x y=(if [x,y]=[min a b,max a b]\/[x,y]=[max a b,min a b] then ao p.roads x else f6 p x y)/\(cM p a b).letters.get [x,y]=(if ([x,y]=[min a b,max a b]\/[x,y]=[max a b,min a b])/\ao p.roads x≠none then some (ao p.roads x) else p.letters.get [x,y]):=λx y=>by
  have e1:f6 (nh p a b) (min a b) (max a b)=none:=j _ _ m
  have C:f6 (ba (nh p a b) (min a b) (max a b)) (max a b) (min a b)=none:=by
   unfold f6;rw[eU,if_neg λz=>ne (bG z.1).2];exact j _ _ l
  have n:(nh p a b).roads=p.roads:=rfl;unfold cM;constructor
  · show((ba (ba (nh p a b) (min a b) (max a b)) (max a b) (min a b)).written_last.get [x,y]).bind id=_;rw[eU,eU,C,e1,cV,n];by_cases d:[x,y]=[max a b,min a b]
    · obtain⟨rfl,rfl⟩:=bG d;by_cases q:none≠ao p.roads (max a b)
      ·rw[YG ⟨rfl,q⟩,YG (.inr rfl)];rfl
      ·rw[on λt=>q t.2,on λt=>ne (bG t.1).2,YG (.inr rfl)];exact(j _ _ l).trans (Classical.not_not.mp q)
    · rw[on λt=>d t.1];by_cases f:[x,y]=[min a b,max a b]
      · obtain⟨rfl,rfl⟩:=bG f;by_cases q:none≠ao p.roads (min a b)
        ·rw[YG ⟨rfl,q⟩,YG (.inl rfl)];rfl
        ·rw[on λt=>q t.2,YG (.inl rfl)];exact(j _ _ m).trans (Classical.not_not.mp q)
      ·rw[on λt=>f t.1,on λt=>t.elim f d];rfl
  · rw[jC,jC,C,e1,cV,n];by_cases d:[x,y]=[max a b,min a b]
    · obtain⟨rfl,rfl⟩:=bG d;by_cases q:none≠ao p.roads (max a b)
      ·rw[YG ⟨rfl,q⟩,YG ⟨.inr rfl,q.symm⟩]
      ·rw[on λt=>q t.2,on λt=>ne (bG t.1).2,on λt=>q t.2.symm];rfl
    · rw[on λt=>d t.1];by_cases f:[x,y]=[min a b,max a b]
      · obtain⟨rfl,rfl⟩:=bG f;by_cases q:none≠ao p.roads (min a b)
        ·rw[YG ⟨rfl,q⟩,YG ⟨.inl rfl,q.symm⟩]
        ·rw[on λt=>q t.2,on λt=>q t.2.symm];rfl
      ·rw[on λt=>f t.1,on λt=>t.1.elim f d];rfl
 have G:∀x y,([x,y]=[min a b,max a b]\/[x,y]=[max a b,min a b])->¬ nb p x y:=λx y h=>by
  rcases h with h|h
  ·obtain⟨rfl,rfl⟩:=bG h;exact m
  ·obtain⟨rfl,rfl⟩:=bG h;exact l
 have sa:∀h,bw (cM p a b) h=bw p h:=λh=>by unfold bw;rw[F]
 have to:∀w r,eV (cM p a b) w r=eV p w r:=λw r=>by unfold eV;rw[D]
 refine Live.of ⟨I,λw r h=>?_,λw r t h=>?_,λw r o h=>?_,λw r h e=>?_,λw r t h=>?_,λr w H=>?_,λx s _ _=>?_⟩
 · rw[(i w r).1,k];split
   ·rfl
   ·rename_i z;exact L.mid.wrt w r (((c w r).mp h).resolve_right z)
 · rw[(i w r).1]at h;split at h
   ·rename_i z;exact(c w r).mpr (.inr z)
   ·exact(c w r).mpr (.inl (L.mid.wnb w r t h))
 · rw[(i w r).2]at h;rw[k];split at h
   ·rename_i z;cases h;exact⟨(c w r).mpr (.inr z.1),rfl⟩
   ·exact⟨(c w r).mpr (.inl (L.mid.lts w r o h).1),(L.mid.lts w r o h).2⟩
 · rw[(i w r).2]at e;rw[to,k];split at e
   ·cases e
   · rename_i z;rcases(c w r).mp h with h|h
     ·exact L.mid.told w r h e
     · rw[E w r (G w r h)];cases q:ao p.roads w with
       |none=>rfl
       |some t=>exact absurd ⟨h,by rw[q];exact λz=>(nomatch z)⟩ z
 ·rw[to]at h;exact(c w r).mpr (.inl (L.mid.tnb w r t h))
 ·rw[sa,to,jH];exact L.mid.stn r w H
 ·rw[k,sa];exact L.all x s
def oj:∀{xs a:List Int},xs≠a->HT.fT a xs=!HT.fT xs a
 |[],[],h=>absurd rfl h
 |[],y::a,_=>rfl
 |x::xs,[],_=>rfl
 | x::xs,y::a,h=>by
   rw[HT.fg,HT.fg];by_cases e:x=y
   ·subst e;rw[YG rfl,YG rfl];exact oj λz=>h (by rw[z])
   · rw[on e,on (λz=>e z.symm)];by_cases q:x<y
     ·rw[Zj q,Zc (by omega)];rfl
     ·rw[Zc q,Zj (by omega)];rfl
def yG{a b:Int×Int×List Int}(h:a.2.2≠b.2.2):bg b a=!bg a b:=by
 unfold bg HT.kK;by_cases e:a.1=b.1
 · rw[YG e,YG e.symm];by_cases c:a.2.1=b.2.1
   ·rw[YG c,YG c.symm];exact oj h
   · rw[on c,on (λz=>c z.symm)];by_cases q:a.2.1<b.2.1
     ·rw[Zj q,Zc (by omega)];rfl
     ·rw[Zc q,Zj (by omega)];rfl
 · rw[on e,on (λz=>e z.symm)];by_cases q:a.1<b.1
   ·rw[Zj q,Zc (by omega)];rfl
   ·rw[Zc q,Zj (by omega)];rfl
def mK:∀{xs e d:List Int},HT.fT xs e=true->HT.fT e d=true->HT.fT xs d=true
 |[],[],_,h,_=>by cases h
 |[],_::_,[],_,h=>by cases h
 |[],_::_,_::_,_,_=>rfl
 |_::_,[],_,h,_=>by cases h
 |_::_,_::_,[],_,h=>by cases h
 | x::xs,y::e,z::d,b,a=>by
   rw[HT.fg]at b a ⊢;by_cases e1:x=y
   · subst e1;rw[YG rfl]at b;by_cases c:x=z
     ·rw[YG c]at a ⊢;exact mK b a
     ·rw[on c]at a ⊢;exact a
   · rw[on e1,Zb]at b;by_cases c:y=z
     ·subst c;rw[on e1,Zb];exact b
     ·rw[on c,Zb]at a;rw[on (by omega),Zb];omega
def vM(e:bg a b=true)(d:bg b c=true):bg a c=true:=by
 unfold bg HT.kK at *;by_cases e1:a.1=b.1
 · rw[YG e1]at e;by_cases g:b.1=c.1
   · rw[YG g]at d;rw[YG (e1.trans g)];by_cases h:a.2.1=b.2.1
     · rw[YG h]at e;by_cases f:b.2.1=c.2.1
       ·rw[YG f]at d;rw[YG (h.trans f)];exact mK e d
       ·rw[on f,Zb]at d;rw[on (by omega),Zb];omega
     · rw[on h,Zb]at e;by_cases f:b.2.1=c.2.1
       ·rw[on (by omega),Zb];omega
       ·rw[on f,Zb]at d;rw[on (by omega),Zb];omega
   ·rw[on g,Zb]at d;rw[on (by omega),Zb];omega
 · rw[on e1,Zb]at e;by_cases g:b.1=c.1
   ·rw[on (by omega),Zb];omega
   ·rw[on g,Zb]at d;rw[on (by omega),Zb];omega
def oh(a:Int×Int×List Int):bg a a=false:=by
 unfold bg HT.kK;rw[if_pos rfl,if_pos rfl];exact jN _
def AB(h:ff e=some m):∀k∈e,bg k m=false:=by
 have f:∀(r:List (Int×Int×List Int)) (a:Int×Int×List Int) (seen:List (Int×Int×List Int)),(∀k∈seen,bg k a=false)->∀k∈seen++r,bg k (r.foldl (λb x=>if bg x b=true then x else b) a)=false:=by
  intro r
  induction r with
  |nil=>intro a seen d k c;rw[Zm]at c;exact d k c
  |cons x r i=>
    intro a seen d k c;rw[Ab6];refine i (if bg x a=true then x else a) (seen++[x]) (λj g=>?_) k (by rw[Zw];exact c);by_cases q:bg x a=true
    · rw[YG q];rcases YX.mp g with z|z
      · cases w:bg j x with
        |false=>rfl
        |true=>have:=vM w q;rw[d j z]at this;cases this
      ·rw[YT.mp z];exact oh x
    · rw[on q];rcases YX.mp g with z|z
      ·exact d j z
      ·rw[YT.mp z];simpa using q
 cases e with
 |nil=>cases h
 |cons a r=>
   injection h with h
   rw[<-h];exact f r a [a] (λk c=>by rw[YT.mp c];exact oh a)
def rP:ff b=none↔b=[]:=by
 cases b with
 |nil=>exact⟨λ_=>rfl,λ_=>rfl⟩
 |cons a r=>exact⟨λh=>(nomatch h),λh=>(nomatch h)⟩
def Lx{f c:List (List Int)}(h:∀r,r∈f↔r∈c):(ff (f.map (aJ L Q))).map (·.2.2)=(ff (c.map (aJ L Q))).map (·.2.2):=by
 cases e1:ff (f.map (aJ L Q)) with
 |none=>
   have z:=Ae7.mp (rP.mp e1);have g:c=[]:=Ae1.mpr λr e=>by have:=(h r).mpr e;rw[z]at this;cases this
   rw[g];rfl
 |some m=>
   cases j:ff (c.map (aJ L Q)) with
   |none=>
     have z:=Ae7.mp (rP.mp j);have g:f=[]:=Ae1.mpr λr e=>by have:=(h r).mp e;rw[z]at this;cases this
     rw[g]at e1;cases e1
   |some l=>
     obtain⟨r,e,rfl⟩:=Y9.mp (iX e1);obtain⟨d,i,rfl⟩:=Y9.mp (iX j);have k:=AB e1 _ (Y9.mpr ⟨d,(h d).mpr i,rfl⟩);have l2:=AB j _ (Y9.mpr ⟨r,(h r).mp e,rfl⟩);show some r=some d;by_cases q:r=d
     ·rw[q]
     · have:=yG (a:=aJ L Q r) (b:=aJ L Q d) q
       rw[k,l2]at this;cases this
structure TabW (n:Int) (T:List (Option (List Int))):Prop where
 len:(T.length:Int)=n
 path:∀r,some r∈T->PathOk n r
 two:∀(i:Nat) r,0<i->T[i]?=some (some r)->2<=r.length
def TabW.next(h:TabW n T)(h0:0<=x)(i:x<n)(g:x≠0)(e:ao T x=some r):∃a b t,r=a::b::t/\0<=b/\b<n:=by
 have c:x.toNat<T.length:=by have:=h.len;omega
 have d:T[x.toNat]?=some (some r):=by
  unfold ao at e;rw[List.getD_eq_getElem?_getD,List.getElem?_eq_getElem c]at e;rw[List.getElem?_eq_getElem c];exact congrArg some e
 have f:=h.two x.toNat r (by omega) d;have hp:=h.path r (ZF d)
 match r,f,hp with
 |a::b::t,_,hp=>exact⟨a,b,t,rfl,hp.all b (by simp)⟩
def wk(T:List (Option (List Int))):Nat->List Int->Int->Str×List Int
 |0,a,_=>("comes",a)
 | k+1,a,x=>if x=0 then ("comes",a) else match ao T x with
   |none=>("stops",a)
   | some r=>match r with
     |_::y::_=>if y∈a then ("rings",a) else wk T k (a++[y]) y
     |_=>("comes",a)
def tY(g:List Int)(x:Int):ke (g++[x]) (-1)=some x:=L2.qG g x
def Lq{n x b:Int}{g:List Int}(nd:(g++[x]).Nodup)(e:∀y∈g++[x],0<=y/\y<n)(c:b∉g++[x])(h0:0<=b)(d:b<n):(g++[x]++[b]).Nodup/\∀y∈g++[x]++[b],0<=y/\y<n:=
 ⟨gN nd c,λy a=>by
  rcases YX.mp a with z|z
  ·exact e y z
  ·rw[YT.mp z];exact⟨h0,d⟩⟩
abbrev tW:S_cc9->OutC S_cc9 Bool:=aA (aG (nB true) (aG jr (vC (·.vbq)) (aI CK (kC (1:Int)))) (kC (0:Int)))
def B7{n:Int}(B:TabW n T)(J:n<=1000)(h:Int):∀(k:Nat) (g:List Int) (x:Int) (o:Option (Option (List Int))) (F:Nat),(g++[x]).Nodup->(∀y∈g++[x],0<=y/\y<n)->n.toNat+1<=k+(g++[x]).length->k<F->
 ∃p,ag (uZ tW dk F) la ⟨T,h,some (g++[x]),o⟩=.rt (wk T k (g++[x]) x) p:=by
 intro k
 induction k with
 |zero=>
   intro g x o F nd j D hF
   have:=cA n.toNat _ nd λy s=>by have:=j y s;omega
   omega
 |succ k C=>
   intro g x o F nd j D hF;obtain⟨F,rfl⟩:∃I,F=I+1:=⟨F-1,by omega⟩;have c:=j x (by simp);have A:=cA n.toNat _ nd λy s=>by have:=j y s;omega
   unfold wk;by_cases l:x=0
   · subst l
     have e:uZ tW dk (F+1) ⟨T,h,some (g++[0]),o⟩=.nx ⟨T,h,some (g++[0]),o⟩:=by
      unfold uZ;simp[tW,tY]
     refine⟨⟨T,h,none,o⟩,?_⟩;simp[e,la]
   · have u:tW ⟨T,h,some (g++[x]),o⟩=.ok true ⟨T,h,some (g++[x]),o⟩:=by simp[tW,tY,l]
     have v:jT ⟨T,h,some (g++[x]),o⟩=.nx ⟨T,h,some (g++[x]),some (ao T x)⟩:=by
      simp[jT,tY,zI c.1 (show x<T.length by have:=B.len;omega)]
     rw[on l];cases m:ao T x with
     |none=>
       refine⟨⟨T,h,none,some none⟩,?_⟩
       have i:dk ⟨T,h,some (g++[x]),o⟩=.rt ("stops",g++[x]) ⟨T,h,none,some none⟩:=by
        unfold dk ag;rw[v,m];simp[g9,i9]
       unfold ag uZ;rw[u];dsimp only;rw[i]
     |some r=>
       obtain⟨a,b,t,rfl,H,G⟩:=B.next c.1 c.2 l m;dsimp only;by_cases f:b∈g++[x]
       · rw[YG f];refine⟨⟨T,h,none,some (some (a::b::t))⟩,?_⟩
         have i:dk ⟨T,h,some (g++[x]),o⟩=.rt ("rings",g++[x]) ⟨T,h,none,some (some (a::b::t))⟩:=by
          unfold dk ag;rw[v,m];simp only[g9,jS,i8];have d:b∈g\/b=x:=by simpa using f
          simp[Oa,d]
         unfold ag uZ;rw[u];dsimp only;rw[i]
       · rw[if_neg f];obtain⟨q,w⟩:=Lq nd j f H G;obtain⟨p,E⟩:=C (g++[x]) b (some (some (a::b::t))) F q w (by rw[List.length_append (as:=g++[x]),List.length_singleton];omega) (by omega);refine⟨p,?_⟩;have hz:nl (g++[x]) b=some ((),g++[x]++[b]):=qH (by unfold af;omega);have d:¬ (b∈g\/b=x):=λz=>f (by rcases z with z|z;exact List.mem_append_left _ z;simp[z])
         have i:dk ⟨T,h,some (g++[x]),o⟩=.nx ⟨T,h,some (g++[x]++[b]),some (some (a::b::t))⟩:=by
          unfold dk ag;rw[v,m];simp only[g9,jS,oV];simp[Oa,d,hz,-List.append_assoc]
         rw[<-E];unfold ag;rw[uZ,u];dsimp only;rw[i]
def OC{n:Int}(c:TabW n T)(g:n<=1000)(h0:0<=h)(i:h<n):(BS T h).res=.ok (wk T n.toNat [h] h):=by
 have e1:=lL [h] n (in1 ⟨h0,i⟩) (by omega);have j:=jv T n (by omega) c.path;obtain⟨d,e⟩:=B7 c g h n.toNat [] h none 100000 (by simp) (λy f=>by simp at f;omega) (by simp) (by omega);unfold BS yZ;have o:oY ⟨T,h,none,none⟩=.nx ⟨T,h,none,none⟩:=by simp[oY,c.len,e1,af]
 have m:oX ⟨T,h,none,none⟩=.nx ⟨T,h,none,none⟩:=by simp[oX,c.len,j]
 have l:oW ⟨T,h,none,none⟩=.nx ⟨T,h,some [h],none⟩:=by simp[oW,af]
 have k:ag wm la ⟨T,h,some [h],none⟩=_:=e;have qQ:∀{a b:S_cc9->FlC S_cc9 (Str×List Int)} {s d:S_cc9},a s=.nx d->ag a b s=b d:=λh=>by unfold ag;rw[h]
 rw[qQ o,qQ m,qQ l,k];rfl
def Ej{p:PostT}{V:P0}(k:Live sz p)(G:GuildIs p.guild sz W L Q V)(e:WaysOk sz W)(h1:1<=sz)(f:sz<=60)(c:Int):
 ∃j g s,BY p W sz c=.ok () s/\s.vpq=j/\s.vDq=g/\Live sz j/\GuildIs j.guild sz g L Q V/\WaysOk sz g:=by
 have P:=k.mid.pw;have h:0<sz:=by omega
 have A:sz<1073741824:=by omega
 have u:0<=c / 5%sz:=Zn _ (by omega);have t:c / 5%sz<sz:=Zh _ h;have r:0<=c / 5 / sz%sz:=Zn _ (by omega);have n:c / 5 / sz%sz<sz:=Zh _ h;have e1:pG ⟨p,W,sz,c,none,none,none,none,none⟩=.nx ⟨p,W,sz,c,some (c / 5%sz),none,none,none,none⟩:=by simp[pG,h]
 have T:pF ⟨p,W,sz,c,some (c / 5%sz),none,none,none,none⟩=.nx ⟨p,W,sz,c,some (c / 5%sz),some (c / 5 / sz%sz),none,none,none⟩:=by simp[pF,h,A]
 generalize c / 5%sz=a at *;generalize c / 5 / sz%sz=b at *;have J:=jF P f;have S:pE ⟨p,W,sz,c,some a,some b,none,none,none⟩=.nx ⟨p,W,sz,c,some a,some b,some (bJ p),none,none⟩:=by simp[pE,J]
 have F:(if b<a then b else a)=min a b:=by rw[Int.min_def];split<;>split<;>omega
 have E:(if a<b then b else a)=max a b:=by rw[Al0];split<;>split<;>omega
 have hc:=G.count;unfold BY zi;simp only[ag,e1,T,S]
 have line:∃j g s,bb (some ()) (cH ⟨p,W,sz,c,some a,some b,some (bJ p),none,none⟩)=.ok () s/\s.vpq=j/\s.vDq=g/\Live sz j/\GuildIs j.guild sz g L Q V/\WaysOk sz g:=by
  by_cases q:0<((bJ p).length:Int)
  · have O:0<=c / 5%((bJ p).length:Int):=Zn _ (by omega);have Z:c / 5%((bJ p).length:Int)<(bJ p).length:=Zh _ q;obtain⟨x,y,o,R,H⟩:=JB P (i:=(c / 5%((bJ p).length:Int)).toNat) (by omega);have at_:ke (bJ p) (c / 5%((bJ p).length:Int))=some (x,y,o):=by rw[mq _ O];exact R
    have X:=u9 P f H;have w:0<(bJ p).length:=by omega
    refine⟨(dG p x y).2,W,⟨(dG p x y).2,W,sz,c,some a,some b,some (bJ p),none,some (x,y,o)⟩,?_,rfl,rfl,k.carry H,by rw[m7];exact G,e⟩;simp[cH,gG,gF,w,at_,X]
  · have w:¬ 0<(bJ p).length:=by omega
    exact⟨p,W,⟨p,W,sz,c,some a,some b,some (bJ p),none,none⟩,by simp[cH,w],rfl,rfl,k,G,e⟩
 by_cases m:2<c%5
 · by_cases d:a=b
   · have C:fq ⟨p,W,sz,c,some a,some b,some (bJ p),none,none⟩=cH ⟨p,W,sz,c,some a,some b,some (bJ p),none,none⟩:=by
      unfold fq;simp[m,d]
     rw[C];exact line
   · by_cases q:(min a b,max a b)∈W
     ·obtain⟨g,N,M,K,D⟩:=EY q e.nd;have sp:=J1 P f ⟨u,t⟩ ⟨r,n⟩ d ((G.way a b).mpr ((gg e a b).mpr q)) ((G.way b a).mpr ((gg e a b).mpr q).symm);refine⟨kW p a b,g,⟨kW p a b,g,sz,c,some a,some b,some (bJ p),some (min a b,max a b),none⟩,?_,rfl,rfl,k.fall ⟨u,t⟩ ⟨r,n⟩ d,by rw[yQ];exact G.lift e a b D,⟨M,λp hp=>e.all p ((D p).mp hp).1,Ze K e.len⟩⟩;simp[fq,ib,ia,gC,gB,m,d,F,E,q,sp,N]
     · have I:p.guild.U.get [a,b]=none:=by
        cases z:p.guild.U.get [a,b] with
        |none=>rfl
        |some v=>exact absurd ((gg e a b).mp ((G.way a b).mp (by rw[z];rfl))) q
       have B:p.guild.U.get [b,a]=none:=by
        cases z:p.guild.U.get [b,a] with
        |none=>rfl
        |some v=>exact absurd ((gg e a b).mp ((G.way b a).mp (by rw[z];rfl)).symm) q
       have sp:=JT P f ⟨u,t⟩ ⟨r,n⟩ d I;have Y:=DU f e.nd e.all;have ap:=qH (l:=W) (x:=(min a b,max a b)) (by unfold af;omega);refine⟨cM p a b,W++[(min a b,max a b)],⟨cM p a b,W++[(min a b,max a b)],sz,c,some a,some b,some (bJ p),some (min a b,max a b),none⟩,?_,rfl,rfl,k.rise ⟨u,t⟩ ⟨r,n⟩ d I B,by rw[jH];exact G.lay a b,⟨gN e.nd q,λp hp=>?_,by rw[List.length_append];simp;omega⟩⟩
       ·simp[fq,ib,ia,gE,gD,m,d,F,E,q,sp,ap]
       · rcases YX.mp hp with z|z
         ·exact e.all p z
         ·rw[YT.mp z];simp only;omega
 · have C:fq ⟨p,W,sz,c,some a,some b,some (bJ p),none,none⟩=cH ⟨p,W,sz,c,some a,some b,some (bJ p),none,none⟩:=by
    unfold fq;simp[m]
   rw[C];exact line
def qQ{X:Type}{a b:Z->FlC Z X}(h:a s=.nx c):ag a b s=b c:=by unfold ag;rw[h]
def s9(o:Option (List Int)):(nc o o).res=.ok true:=by
 cases o with
 |none=>
   unfold nc uR o4 lc;simp
 |some f=>
   obtain⟨b,e,x,rfl⟩:=kS (u:=λa s=>{s with vdq:=some a}) (c:=jZ) (λs:S_bt9=>∃x,s=⟨some f,some f,x⟩) f ⟨some f,some f,none⟩ ⟨none,rfl⟩ (by
    rintro o s d ⟨x,rfl⟩
    exact⟨_,.inl (by simp[jZ,Ed];rfl),_,rfl⟩)
   unfold nc uR o4 wH wG wF;simp[e]
def Live.settle:∀(n:Nat) {p:PostT},Live sz p->Live sz (bE n p).2
 |0,p,L=>L
 | n+1,p,L=>by
   unfold bE;split
   ·exact L
   ·exact Live.settle n L.next
def yy(p:PostT):(fQ p).guild=p.guild:=by
 unfold fQ;split
 ·rfl
 ·exact m7 _ _ _
def kn:∀(n:Nat) (p:PostT),(bE n p).2.guild=p.guild
 |0,p=>rfl
 | n+1,p=>by
   unfold bE;split
   ·rfl
   ·exact(kn n _).trans (yy p)
section
variable{sz:Int}{p:PostT}{W:P0}{Y X:DI Int}{V:P0}
def qC(L:Live sz p)(g:p.letters=[])(c:0<=h/\h<sz){q:Int×rh}(f:q∈bw p h):∃t,nb p q.1 h/\ao p.roads q.1=some t/\q.2=aJ p.guild.lω p.guild.wω (h::t)/\fM (jq p.guild h) h t=true:=by
 have a:=vV (L.mid.pw.st c).1 (show(q.1,q.2)∈bw p h from f);rw[L.mid.stn h q.1 c]at a;unfold yK at a;split at a
 · rename_i m;cases e:eV p q.1 h with
   |none=>rw[e]at m;cases m
   |some t=>
     rw[e]at a m;have b:=L.mid.tnb _ _ _ e;have d:=L.mid.told q.1 h b (by rw[g];rfl);rw[e]at d;have m:(decide (h≠0)&&fM (jq p.guild h) h t)=true:=m;rw[Aa9]at m;injection a with a
     exact⟨t,b,d.symm,a.symm,m.2⟩
 ·cases a
def FT(G:GuildIs p.guild sz W Y X V)(h:nb p a b):nb p b a:=(G.way b a).mpr ((G.way a b).mp h).symm
def sF(L:Live sz p)(G:GuildIs p.guild sz W Y X V)(l:WaysOk sz W)(f:p.letters=[])(c:0<=h/\h<sz):eD Y X (ji V h) h (bz p.roads (bD W sz h))=ao p.roads h:=by
 rw[<-qE G,<-mF G l,L.all h c];unfold eD bW;by_cases h0:h=0
 ·rw[YG h0,YG h0]
 · rw[on h0,on h0]
   have e:(bw p h).map (·.2)=((bw p h).map λq=>q.2.2.2).map (aJ p.guild.lω p.guild.wω):=by
    rw[Zt];refine ZQ λq d=>?_;obtain⟨t,_,_,g,_⟩:=qC L f c d;show q.2=aJ _ _ q.2.2.2;rw[g];rfl
   rw[e];refine Lx λr=>?_;unfold dQ bz;rw[List.mem_filterMap,List.mem_map];constructor
   · rintro⟨o,k,e1⟩;obtain⟨w,j,rfl⟩:=Y9.mp k;have b:nb p w h:=FT G (ZA.mp j).2;cases a:ao p.roads w with
     |none=>rw[a]at e1;cases e1
     |some t=>
       rw[a]at e1;unfold d6 at e1;dsimp only at e1;split at e1
       · rename_i m;cases e1;have st:=L.mid.stn h w c;rw[L.mid.told w h b (by rw[f];rfl),a]at st;have i:kF (jq p.guild h) h (some t)=true:=by show(decide (h≠0)&&fM (jq p.guild h) h t)=true;rw[m,Zj h0];rfl
         unfold yK at st;rw[if_pos i]at st;exact⟨_,F3 st,rfl⟩
       ·cases e1
   ·rintro⟨q,d,rfl⟩;obtain⟨t,b,a,g,m⟩:=qC L f c d;refine⟨some t,Y9.mpr ⟨q.1,ZA.mpr ⟨cB.mpr (L.mid.pw.nb_in b).1,FT G b⟩,a⟩,?_⟩;rw[g];show(if fM (jq p.guild h) h t=true then some (h::t) else none)=_;rw[YG m];rfl
def lN(L:Live sz p)(h0:0<sz):ao p.roads 0=some [0]:=by
 rw[L.all 0 (by omega)];rfl
def nT(L:Live sz p)(d:p.letters=[])(a:0<=h/\h<sz)(h0:h≠0)(e:ao p.roads h=some r):∃w t,r=h::t/\ao p.roads w=some t/\(0<=w/\w<sz):=by
 rw[L.all h a]at e;unfold bW at e;rw[if_neg h0]at e;obtain⟨k,f,rfl⟩:=Option.map_eq_some_iff.mp e;obtain⟨q,b,rfl⟩:=List.mem_map.mp (iX f);obtain⟨t,c,g,i,_⟩:=qC L d a b;exact⟨q.1,t,by rw[i];rfl,g,(L.mid.pw.nb_in c).1⟩
def nV(L:Live sz p)(a:p.letters=[])(b:0<=h/\h<sz)(e:ao p.roads h=some r):∃u,r=h::u:=by
 by_cases h0:h=0
 ·subst h0;rw[lN L (by omega)]at e;cases e;exact⟨[],rfl⟩
 ·obtain⟨w,t,rfl,_⟩:=nT L a b h0 e;exact⟨t,rfl⟩
def XM(L:Live sz p)(b:p.letters=[]):TabW sz p.roads:=by
 refine⟨L.mid.pw.roads.len,L.mid.pw.roads.all,λi r hi e=>?_⟩;have a:=L.mid.pw.roads.len;have d:i<p.roads.length:=(List.getElem?_eq_some_iff.mp e).1;have g:ao p.roads (i:Int)=some r:=by unfold ao;rw[List.getD_eq_getElem?_getD,show((i:Int)).toNat=i by omega,e];rfl
 obtain⟨w,t,rfl,f,c⟩:=nT L b (h:=(i:Int)) (by omega) (by omega) g;obtain⟨u,rfl⟩:=nV L b c f;simp
def zL(L:Live sz p)(b:p.letters=[]):∀(k:Nat) (g r:List Int) (x:Int),(0<=x/\x<sz)->ao p.roads x=some r->(g++r).Nodup->r.length<=k->wk p.roads k (g++[x]) x=(("comes" : Str),g++r)
 | 0,g,r,x,d,e,nd,f=>by
   obtain⟨u,rfl⟩:=nV L b d e;simp at f
 | k+1,g,r,x,d,e,nd,f=>by
   unfold wk;by_cases c:x=0
   ·subst c;rw[lN L (by omega)]at e;cases e;rw[YG rfl]
   · obtain⟨w,t,rfl,i,h⟩:=nT L b d c e;obtain⟨u,rfl⟩:=nV L b h i;rw[if_neg c,e];dsimp only;have a:((g++[x])++(w::u)).Nodup:=by rw[List.append_assoc];exact nd
     rw[on λz=>(Zf.mp a).2.2 _ z _ YK rfl,zL L b k (g++[x]) (w::u) w h i a (by simpa using f),Zw];rfl
def u8(L:Live sz p)(b:0<=a/\a<sz):(DG p a).res=.ok (ao p.roads a):=by
 have P:=L.mid.pw;have c:=jG p.guild [a] (by rw[P.g.count];exact in1 b) (by rw[P.g.count];omega);have DC:ke p.roads a=some (ao p.roads a):=zI b.1 (by have:=P.roads.len;omega);unfold DG IF;simp[A9,A8,c,DC,yd,af]
def zS(L:Live sz p)(G:GuildIs p.guild sz W Y X V)(D:DrawOk sz W Y X V)(m:p.letters=[])(S:1<=sz)(q:sz<=60):(xG p (Y,X,V) W sz).res=.ok true:=by
 have P:=L.mid.pw;have o:=D.U;have R:=P.roads.len;have e1:pV ⟨p,(Y,X,V),W,sz,none,none,none,none,none,none⟩=.nx ⟨p,(Y,X,V),W,sz,some p.roads,none,none,none,none,none⟩:=by simp[pV,Ee P q]
 have rg:=c6 (lo:=0) (hi:=sz) (by omega) (by omega) (by omega) (by omega)
 obtain⟨v,Q,i,e,d,d0,rfl⟩:=kS (u:=λa s=>{s with v0q:=some a}) (c:=lB) (λs:S_bl9=>∃i e d d0,s=⟨p,(Y,X,V),W,sz,some p.roads,i,e,d,d0,none⟩) (cc 0 sz) ⟨p,(Y,X,V),W,sz,some p.roads,none,none,none,none,none⟩ ⟨_,_,_,_,rfl⟩ (by
  rintro a s f ⟨i,e,d,d0,rfl⟩;have f:=cB.mp f;have C:=JP W sz a (by omega) (by omega);have c:=jd (Z:=S_bl9) (src:=iF xz (pC (·.vDq)) (pC (·.vzq)) (vC (·.v0q))) (te:=bK DG (pC λp=>p.2.vpq) (pC λp=>p.1)) (s:=⟨p,(Y,X,V),W,sz,some p.roads,some a,e,d,d0,none⟩) (l:=bD W sz a) (ao p.roads) (by simp[C]) (G5 (by omega)) (λb K=>by simp[u8 L (F1 K)])
  have H:j9 ⟨p,(Y,X,V),W,sz,some p.roads,some a,e,d,d0,none⟩=.nx ⟨p,(Y,X,V),W,sz,some p.roads,some a,some (bz p.roads (bD W sz a)),d,d0,none⟩:=by
   unfold j9 a8 aA;rw[c];rfl
  have bs:=J9 Y X V a (bz p.roads (bD W sz a)) λr I=>yp (P.roads.all r (nG I)) (by omega);rw[sF L G o m f]at bs;have v:j8 ⟨p,(Y,X,V),W,sz,some p.roads,some a,some (bz p.roads (bD W sz a)),d,d0,none⟩=.nx ⟨p,(Y,X,V),W,sz,some p.roads,some a,some (bz p.roads (bD W sz a)),some (ao p.roads a),d0,none⟩:=by simp[j8,bs]
  have at_:ke p.roads a=some (ao p.roads a):=zI f.1 (by omega);have F:j7 ⟨p,(Y,X,V),W,sz,some p.roads,some a,some (bz p.roads (bD W sz a)),some (ao p.roads a),d0,none⟩=.nx ⟨p,(Y,X,V),W,sz,some p.roads,some a,some (bz p.roads (bD W sz a)),some (ao p.roads a),d0,none⟩:=by simp[j7,u8 L f,s9,at_]
  have w:=OC (XM L m) (by omega) f.1 f.2;have E:j6 ⟨p,(Y,X,V),W,sz,some p.roads,some a,some (bz p.roads (bD W sz a)),some (ao p.roads a),d0,none⟩=.nx ⟨p,(Y,X,V),W,sz,some p.roads,some a,some (bz p.roads (bD W sz a)),some (ao p.roads a),some (wk p.roads sz.toNat [a] a),none⟩:=by simp[j6,w]
  have j:ie ⟨p,(Y,X,V),W,sz,some p.roads,some a,some (bz p.roads (bD W sz a)),some (ao p.roads a),some (wk p.roads sz.toNat [a] a),none⟩=.nx ⟨p,(Y,X,V),W,sz,some p.roads,some a,some (bz p.roads (bD W sz a)),some (ao p.roads a),some (wk p.roads sz.toNat [a] a),none⟩/\ic ⟨p,(Y,X,V),W,sz,some p.roads,some a,some (bz p.roads (bD W sz a)),some (ao p.roads a),some (wk p.roads sz.toNat [a] a),none⟩=.nx ⟨p,(Y,X,V),W,sz,some p.roads,some a,some (bz p.roads (bD W sz a)),some (ao p.roads a),some (wk p.roads sz.toNat [a] a),none⟩:=by
   cases k:ao p.roads a with
   |none=>
     have:wk p.roads sz.toNat [a] a=(("stops" : Str),[a]):=by
      obtain⟨n,J⟩:∃n,sz.toNat=n+1:=⟨sz.toNat-1,by omega⟩;rw[J];unfold wk;rw[if_neg (λz=>by rw[z,lN L (by omega)]at k;cases k),k]
     rw[this];exact⟨by simp[ie,s9,af],by simp[ic]⟩
   |some r=>
     have hp:=P.roads.all r (l6 k)
     have:wk p.roads sz.toNat [a] a=(("comes" : Str),r):=zL L m sz.toNat [] r a f k hp.nd (by have:=hp.len;omega)
     rw[this];exact⟨by simp[ie],by simp[ic,s9]⟩
  have bd:lB ⟨p,(Y,X,V),W,sz,some p.roads,some a,e,d,d0,none⟩=.nx ⟨p,(Y,X,V),W,sz,some p.roads,some a,some (bz p.roads (bD W sz a)),some (ao p.roads a),some (wk p.roads sz.toNat [a] a),none⟩:=by
   unfold lB;rw[qQ H,qQ v,qQ F,qQ E,qQ j.1];exact j.2
  exact⟨_,.inl bd,_,_,_,_,rfl⟩)
 have t:pU ⟨p,(Y,X,V),W,sz,some p.roads,none,none,none,none,none⟩=.nx ⟨p,(Y,X,V),W,sz,some p.roads,i,e,d,d0,none⟩:=by
  unfold pU;simp[rg,Q]
 obtain⟨g,N,A,_,B⟩:=rB D;have y:=B.count;have O:pO ⟨p,(Y,X,V),W,sz,some p.roads,i,e,d,d0,none⟩=.nx ⟨p,(Y,X,V),W,sz,some p.roads,i,e,d,d0,some g⟩:=by simp[pO,N]
 have un:=sZ g p.roads (by rw[y];exact P.roads) (by omega) (by omega);rw[y,mF A o]at un
 have M:kU (λh=>eD g.lω g.wω (jq g h) h) (bD W sz) p.roads=none:=by
  unfold kU;rw[List.find?_eq_none];intro h x;have x:=cB.mp x;rw[decide_eq_true_iff];refine λz=>z ?_;show eD g.lω g.wω (jq g h) h _=_;rw[qE A,sF L G o m (by omega)]
 rw[M]at un;unfold xG zk;rw[qQ e1,qQ t,qQ O];simp[wW,un]
end
def yU(ns:List Int):∃s,Jv ns=.ok true s:=by
 have cell:∀k:Int,0<=k->(lH ns k).res=.ok (fE ns k):=J8 ns;have m6:0<=fE ns 0%6/\fE ns 0%6<6:=⟨Zn _ (by omega),Zh _ (by omega)⟩;have e1:qe ⟨ns,none,none,none,none,none,none,none,none⟩=.nx ⟨ns,some (1+fE ns 0%6),none,none,none,none,none,none,none⟩:=by simp[qe,cell]
 obtain⟨sz,hsz⟩:∃sz,sz=1+fE ns 0%6:=⟨_,rfl⟩;rw[<-hsz]at e1;have f:1<=sz:=by omega
 have C:sz<=6:=by omega
 have b:sz<=60:=by omega
 obtain⟨W,H,x⟩:=JN (fE ns 1) sz f b;obtain⟨Y,J,f1,E,D⟩:=J0 (fE ns 2) sz (by omega);obtain⟨X,K,d1,Z,U⟩:=J7 (fE ns 3) sz (by omega) (by omega);obtain⟨V,F,y1,A,z⟩:=OB (fE ns 4) sz (by omega);have v:∀{d},WaysOk sz d->DrawOk sz d Y X V:=λe=>⟨⟨by omega,by omega⟩,e,⟨by omega,E,D⟩,⟨by omega,Z,U⟩,⟨by omega,A,z⟩⟩;obtain⟨g,I,G,_,m⟩:=rB (v x);have mk:=JV m (Hs.of m C) f b;have L0:=Live.new m f;have G0:GuildIs (vz g).guild sz W Y X V:=by rw[CI];exact G
 generalize vz g=j at *;have T:qd ⟨ns,some sz,none,none,none,none,none,none,none⟩=.nx ⟨ns,some sz,some W,none,none,none,none,none,none⟩:=by simp[qd,cell,H]
 have S:qc ⟨ns,some sz,some W,none,none,none,none,none,none⟩=.nx ⟨ns,some sz,some W,some Y,none,none,none,none,none⟩:=by simp[qc,cell,J]
 have R:qa ⟨ns,some sz,some W,some Y,none,none,none,none,none⟩=.nx ⟨ns,some sz,some W,some Y,some X,none,none,none,none⟩:=by simp[qa,cell,K]
 have Q:p8 ⟨ns,some sz,some W,some Y,some X,none,none,none,none⟩=.nx ⟨ns,some sz,some W,some Y,some X,some V,none,none,none⟩:=by simp[p8,cell,F]
 have P:p7 ⟨ns,some sz,some W,some Y,some X,some V,none,none,none⟩=.nx ⟨ns,some sz,some W,some Y,some X,some V,some (Y,X,V),none,none⟩:=by simp[p7]
 have O:p6 ⟨ns,some sz,some W,some Y,some X,some V,some (Y,X,V),none,none⟩=.nx ⟨ns,some sz,some W,some Y,some X,some V,some (Y,X,V),some j,none⟩:=by simp[p6,I,mk]
 obtain⟨s8,N,p,d,h,rfl,L,l,e⟩:=kS (u:=λa s=>{s with v4q:=some a}) (c:=qz) (λs:S_bj9=>∃p d h,s=⟨ns,some sz,some d,some Y,some X,some V,some (Y,X,V),some p,h⟩/\Live sz p/\GuildIs p.guild sz d Y X V/\WaysOk sz d) (ns.drop 5) ⟨ns,some sz,some W,some Y,some X,some V,some (Y,X,V),some j,none⟩ ⟨j,W,none,rfl,L0,G0,x⟩ (by
  rintro c s _ ⟨p,d,h,rfl,L,l,e⟩;obtain⟨p',W2,w,dd,hp,B,L',G2,o⟩:=Ej L l e f b c;subst hp B;have i:=jF L.mid.pw b;refine⟨⟨ns,some sz,some w.vDq,some Y,some X,some V,some (Y,X,V),some w.vpq,some c⟩,.inl ?_,_,_,some c,rfl,L',G2,o⟩
  have b1:ij ⟨ns,some sz,some d,some Y,some X,some V,some (Y,X,V),some p,some c⟩=.nx ⟨ns,some sz,some d,some Y,some X,some V,some (Y,X,V),some p,some c⟩:=by
   by_cases q:bJ p=[]
   ·have t:=zS L l (v e) (u5.mp q) f b;simp[ij,i,q,t]
   ·simp[ij,i,q]
  unfold qz;rw[qQ b1]
  simp[pY,dd])
 have r:p5 ⟨ns,some sz,some W,some Y,some X,some V,some (Y,X,V),some j,none⟩=.nx ⟨ns,some sz,some d,some Y,some X,some V,some (Y,X,V),some p,h⟩:=by
  unfold p5;simp[N]
 have st:=Ch L.mid.pw (by omega) b 300 (by omega);have y:=Live.settle 300 L;have G9:GuildIs (bE 300 p).2.guild sz d Y X V:=by rw[kn];exact l
 generalize (bE 300 p).2=n at *
 have M:pX ⟨ns,some sz,some d,some Y,some X,some V,some (Y,X,V),some p,h⟩=.nx ⟨ns,some sz,some d,some Y,some X,some V,some (Y,X,V),some n,h⟩:=by
  have st:xI p 300=_:=st;simp[pX,st]
 have i:=jF y.mid.pw b;unfold Jv zn;rw[qQ e1,qQ T,qQ S,qQ R,qQ Q,qQ P,qQ O,qQ r,qQ M];by_cases q:bJ n=[]
 ·have t:=zS y G9 (v e) (u5.mp q) f b;exact⟨_,by simp[mj,i,q,t];rfl⟩
 ·have hp:0<(bJ n).length:=List.length_pos_iff.mpr q;exact⟨_,by simp[mj,i,hp];rfl⟩
def Hz(ns:List Int)(a:ns.length<=63):∃T,GU [.scr (ns.map D.int)]=.ok (.bl true) T:=by
 obtain⟨s,e⟩:=yU ns
 have:=S3 ns
 rw[e]at this;exact⟨_,this⟩
end K18
namespace K18
open PySem L2
def XI:Tns:=[]
def Th{K:F0}{h:Heap}{mg:Str->Option Value}(X:K.In h)(G:h.Ns mainGlobals mg)(b:mg "law" = some (.ref g))(TO:TabsOf mg h XI T)(y:HD.obK TL TM TU TX TW TV TQ K=TD PySem.Challenge.pw_heraldways_k18_whole_calm_is_settled):∃fd:FuncData,(∀(s:Shared) (v:Value),BindsTo s fd ⟨[v],[]⟩ [("script",v)])/\∀base:Heap,K.In base->base.Ns mainGlobals mg->(∀c P,PySem.W.CodeHd h c P->PySem.W.CodeHd base c P)->FnOk PySem.Challenge.rw_heraldways_k18_whole_calm_is_settled.prog w K mg base u4 10 g fd ["script"] (Mi.spT K T):=by
 have f:dq K mg:=⟨⟨h,X,G⟩,y⟩;have e:=b.symm.trans (f.tm 25 rfl rfl);cases e;obtain⟨d,F⟩:=f.tf 54 rfl rfl
 have q:∀(s:Shared) (v:Value),BindsTo s d ⟨[v],[]⟩ [("script",v)]:=by
  obtain⟨oc,x,kV,r,pm,an,t,ct,i,rfl,lk,o⟩:=F.ex;exact λs v=>.of_eq rfl
 refine⟨d,q,λbase _ _ u=>?_⟩;refine(QB _ _ base f F).imp λvs H Q E k=>?_;obtain⟨a,xs,j,l,m,z,n⟩:=k;refine Mi.RL Hz j l m (λp hp=>?_) n;cases hp
def T1{K:F0}{d:DefRec}(e:d.params.defaults=[])(b:d.name = "law")(y:HD.obK TL TM TU TX TW TV TQ K=TD PySem.Challenge.pw_heraldways_k18_whole_calm_is_settled):PySem.W.WalkO q loose XP (λ_ h=>K.In h) PySem.Challenge.rw_heraldways_k18_whole_calm_is_settled.row.toRowW d [] (λf vs=>PySem.call f vs):=
 L2.JA (l:=PySem.Challenge.rw_heraldways_k18_whole_calm_is_settled) (K:=λ_=>K) (n:=63) (k:=10) (x := "script") (CX:=λ_=>u4) (sp:=λ_ T=>Mi.spT K T) XI rfl (by decide) e ⟨rfl,by decide,by decide⟩ (λ_ _ Y=>Y) (λ_ h=>absurd rfl h) (λ_ h=>(nomatch h)) (by unfold Tns.ok XI;decide) (λw mg j h T X G c TO=>Th X G (b▸c) TO y) (λw T H a ns g hO i=>⟨a,ns,rfl,Mi.OA hO i,g,Mi.T2 hO,λ_=>rfl⟩) λ_ _ _ _ _ z=>z
end K18
open PySem PySem.W PyProof.Rows
set_option maxRecDepth 100000 in
set_option maxHeartbeats 0 in
theorem PySem.Challenge.cw_heraldways_k18_whole_calm_is_settled_holds : PySem.Challenge.rw_heraldways_k18_whole_calm_is_settled.Holds := by
 refine K18.hd0 λsaid=>?_;refine holds_openX (q:=K18.qP PySem.Challenge.pw_heraldways_k18_whole_calm_is_settled) (loose:=[]) (Xt:=λs=>xlAt (K18.qP PySem.Challenge.pw_heraldways_k18_whole_calm_is_settled) [] s&&recOk (RowW.records PySem.Challenge.rw_heraldways_k18_whole_calm_is_settled.row.toRowW) s) (XP:=XL (K18.qP PySem.Challenge.pw_heraldways_k18_whole_calm_is_settled) []) (Yf:=HD.ob K18.Yx K18.TL K18.TM K18.TU K18.TX K18.TW K18.TV K18.TQ) (Ya:=λ_=>K18.TD PySem.Challenge.pw_heraldways_k18_whole_calm_is_settled) (N:=7388) (λw=>HD.two (K18.Wl w) (K18.Wk w)) (λs e=>xl_of s (Bool.and_eq_true_iff.mp e).1) XL.keeps (by rfl) (by rfl) (by rfl) (λs e=>recFacts_of (Bool.and_eq_true_iff.mp e).2) (by rfl) said (by decide +kernel) ⟨rfl,rfl,rfl,rfl,rfl,by decide +kernel⟩ ?hw (HD.walkX λK y=>K18.T1 rfl rfl y)
 case hw=>w_witness2
